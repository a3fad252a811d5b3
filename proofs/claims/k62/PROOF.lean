import PyProof.Rows.All
import Wide.All
import OpenK.AllK
import Wide.FinOn
import Lean
import PyProof.EqAt
import PyProof.EqKinds
import PyProof.TupleCall
import PyProof.CompFree
import PyProof.NeKinds
import PyProof.Rows.SumAny
import KE.KNest
import KE.KLam
import KE.KNestM
import KE.LcSums
import PyProof.EnumFor
import PyProof.EnumMake
import PyProof.EnumStmt
import PyProof.CompUse
import PyProof.RulesTry
import PyProof.StrCalls2
import PyProof.StrCalls5
import PyProof.StrLawsTight
import PyProof.Rows.StrNews2
import PyProof.Rows.StrItems
import KE.KRevIter
import PyProof.PureStr
import PyProof.SliceStr2
import PyProof.StrLawsIdx
import PyProof.WalkInts
import PyProof.SeqI3
import PyProof.IsRules
import PyProof.StationsW
import PyProof.ExcClass2
import PyProof.PassesOwn
import PyProof.Rows.Catch
import PyProof.Rows.CatchOwn
import OpenK.KOwn
import PyProof.Draws
import PyProof.AttrMiss
import PyProof.DictItems
import PyProof.FactsAll.enumerate
import KE.KDictOf
import KE.KItemsList
import KE.KPairComp
import PySem.Challenge.RW_anymeaning_k62_whole_forged_marks
set_option Elab.async false
set_option linter.all false
set_option maxRecDepth 100000
set_option maxHeartbeats 4000000
set_option hygiene false
local macro_rules|`(.(A))=>`((l.map PV.int))
local macro_rules|`(.(B))=>`((mzOf t ys fit))
local macro_rules|`(.(C))=>`(((backTo cpos (starEach [e] X.env)).all (fun x=> !x.1) && (backToKw cpos (keywordEach [] X.env)).all (fun x=>x.1.isSome) && decide (([e]:List Expr).length + ([]:List Keyword).length + (if ([]:List Keyword).isEmpty then 0 else 1) < 30)))
local macro_rules|`(.(D))=>`((p_at (b_var 0) (b_of p_int) (fun _ _=>rfl)))
local macro_rules|`(.(E))=>`((model X.prog X.w))
local macro_rules|`(.(G))=>`((fun _ _=>rfl))
local macro_rules|`(.(H))=>`((gC X scope hp3.objs.size (cH own caps) { s2 with heap:=hp3 } H3 fp))
local macro_rules|`(.(I))=>`((.lst (ys.map Sy.pv)))
local macro_rules|`(.(J))=>`((ys.map Sy.pv))
local macro_rules|`(.(K))=>`(⟨rfl,by decide +kernel,by decide +kernel,⟨⟨rfl,rfl,Or.inl rfl⟩,True.intro⟩,rfl⟩)
local macro_rules|`(.(L))=>`(("__debug__":Str))
local macro_rules|`(.(M))=>`(⟨⟨rfl,rfl,Or.inl rfl⟩,True.intro⟩)
local macro_rules|`(.(N))=>`((List.range (t.ders.length + 1)))
local macro_rules|`(.(O))=>`((gC X scope C (cH own caps) s₀ H₀ fp))
local macro_rules|`(.(P))=>`((t.ders.length + 1))
local macro_rules|`(.(Q))=>`((aV t ys fit st))
local macro_rules|`(.(R))=>`((.int (s:Int)))
local macro_rules|`(.(S))=>`((false,eval e X.env))
local macro_rules|`(.(T))=>`(["self","setting"])
local macro_rules|`(.(U))=>`((s.heap.objs.size + 1))
local macro_rules|`(.(V))=>`((backTo pos (starEach es X.env)))
local macro_rules|`(.(W))=>`((fun (i:Nat)=>PV.int (i:Int)))
local macro_rules|`(.(X))=>`((a_cons (p_var 1) a_nil))
local macro_rules|`(.(Y))=>`((by decide +kernel))
local macro_rules|`(.(Z))=>`(("__classdict__":Str))
local macro_rules|`(.(Aa))=>`((p_callB call_len cb_len rfl C.z_len PySem.boot_len (a_consB (b_var 2) a_nil)))
local macro_rules|`(.(Ab))=>`((.int (m:Int)))
local macro_rules|`(.(Ac))=>`([.v S,.v bef.pv,.v t.pv,.v fit.pv,.v Y,.v (.int ((t.ders.length + 1:Nat):Int)),.v (.int z),.no])
local macro_rules|`(.(Ad))=>`((I7.pin (b,o) (List.mem_append_right _ (List.mem_append_right _ (dF hb e)))))
local macro_rules|`(.(Ae))=>`((ns.map PV.int))
local macro_rules|`(.(Af))=>`((fun (b:Int × Sl) (w:PV)=>match w with | .int i=>((if t.at i=true then b.1 + 1 * 2 ^ i.toNat else b.1),Sl.v w) | _=>b))
local macro_rules|`(.(Ag))=>`((i_rng1 rfl C.z_range (a_cons (p_topI rfl g_SETTINGS) a_nil)))
local macro_rules|`(.(Ah))=>`((d2 fIx (ag 5) (dC (.int 1))))
local macro_rules|`(.(Ai))=>`((bA (ae (dC (.int (16))) ah)))
local macro_rules|`(.(Aj))=>`((ae (af 6) (ae (af 7) (ae (af 8) (ae (af 9) ah)))))
local macro_rules|`(.(Ak))=>`((.int (r:Int)))
local macro_rules|`(.(Al))=>`((.int ((t.ders.length + 1:Nat):Int)))
local macro_rules|`(.(Am))=>`((.Call (.Name x p) (e :: es) [] pos))
local macro_rules|`(.(An))=>`((model prog w))
local macro_rules|`(.(Ao))=>`((Nat.le_refl _))
local macro_rules|`(.(hr $x $s))=>`(bv (2*n+4) (A.deeper (PyProof.Rows.envOfC $x (al $s) s.heap.objs.size f cdv)))
local macro_rules|`(.(bo $l $x $s $d))=>`(mU (iK fX P w K mg base $l $x (al $s) f cdv A outer s H E).nox (pg cA) (bF $s) ($d (gF n)))
local macro_rules|`(.(ha $e $c $b))=>`(($e).at (uW ($e).F $c rfl fun _ _ _ _ _ _ hr=>$b C I hr))
local macro_rules|`(.(fk $e $c $b))=>`(uW $e $c rfl fun _ _ _ _ _ _ hr=>$b C I hr)
local macro_rules|`(.(nf $x $k))=>`(show ($x : Str)∉fN $k by decide+kernel)
local macro_rules|`(.(mc $l $m $o $b))=>`(⟨($l).cls,_,_,_,$m,$o,$b⟩)
local macro_rules|`(.(gn $l))=>`(fun _ _ _ _=>(bX (i:=0) (show ($l : List Str).Nodup by decide+kernel) rfl (Or.inl rfl)))
local macro_rules|`(.(ta $x $l $k))=>`(FnAt P w K mg base fX (2*n+3) $x (tU K (pg cA) $l (gF n $k)))
local macro_rules|`(.(df $x $s $l))=>`(∃ f fd,yb K mg $x $s $l f fd)
local macro_rules|`(.(ns $a $s))=>`(PySem.W.nsIn K mainGlobals $s = some (some (.ref $a)))
local macro_rules|`(.(no $s))=>`(PySem.W.nsIn K mainGlobals $s = some none)
local macro_rules|`(.(fi $c $s $a))=>`(PySem.W.findIn K (.ref $c) $s = some (some (.ref $a)))
local macro_rules|`(.(fo $c $s))=>`(PySem.W.findIn K (.ref $c) $s = some none)
local macro_rules|`(.(fx $a))=>`(PySem.W.isFn K (.ref $a) = true)
local macro_rules|`(.(mg $b))=>`(PySem.W.mg_of X G $b)
local macro_rules|`(.(mz $b))=>`(PySem.W.mg_none_of X G $b)
local macro_rules|`(.(fr $f $d $n $b))=>`(⟨_,$f,$d,($d).binds $n,PySem.W.mg_of X G $b⟩)
local macro_rules|`(.(cf $k $e $f))=>`(⟨($k).mks,$e,$f,($k).kp⟩)
local macro_rules|`(.(mt $d $g $m))=>`(⟨$m,$g,($d).kp⟩)
local macro_rules|`(.(fl $k $n $c $r))=>`(yn ($k).cls $n (show (fN $c).Nodup by decide+kernel) rfl $r)
local macro_rules|`(.(Ap))=>`(fun _ _ _ _ _ _ us hl=>by rcases us with _ | ⟨_,_ | ⟨_,_⟩⟩ <;> first | (cases hl; done) | rfl)
local macro_rules|`(.(Aq))=>`(fun _ _ _ _ _ _ us hl=>by rcases us with _ | ⟨_,_ | ⟨_,_ | ⟨_,_⟩⟩⟩ <;> first | (cases hl; done) | rfl)
local macro_rules|`(.(Ar))=>`(fun _ _ _ _ _ _ us hl=>by rcases us with _ | ⟨_,_ | ⟨_,_ | ⟨_,_ | ⟨_,_⟩⟩⟩⟩ <;> first | (cases hl; done) | rfl)
local macro_rules|`(.(As))=>`(fun _ _ _ _ _ _ us hl=>by rcases us with _ | ⟨_,_ | ⟨_,_ | ⟨_,_ | ⟨_,_ | ⟨_,_⟩⟩⟩⟩⟩ <;> first | (cases hl; done) | rfl)
local macro_rules|`(.(At))=>`(fun _ _ _ _ _ _ us hl=>by rcases us with _ | ⟨_,_ | ⟨_,_ | ⟨_,_ | ⟨_,_ | ⟨_,_ | ⟨_,_⟩⟩⟩⟩⟩⟩ <;> first | (cases hl; done) | rfl)
local macro_rules|`(.(Au))=>`(fun _ _ _ _ _ _ us hl=>by rcases us with _ | ⟨_,_ | ⟨_,_ | ⟨_,_ | ⟨_,_ | ⟨_,_ | ⟨_,_ | ⟨_,_⟩⟩⟩⟩⟩⟩⟩ <;> first | (cases hl; done) | rfl)
local macro_rules|`(.(Av))=>`(fun _ _ _ _ _ _ us hl=>by rcases us with _ | ⟨_,_ | ⟨_,_ | ⟨_,_ | ⟨_,_ | ⟨_,_ | ⟨_,_ | ⟨_,_ | ⟨_,_⟩⟩⟩⟩⟩⟩⟩⟩ <;> first | (cases hl; done) | rfl)
local macro_rules|`(.(Aw))=>`(fun _ _ _ _ _ _ us hl=>by rcases us with _ | ⟨_,_ | ⟨_,_ | ⟨_,_ | ⟨_,_ | ⟨_,_ | ⟨_,_ | ⟨_,_ | ⟨_,_ | ⟨_,_⟩⟩⟩⟩⟩⟩⟩⟩⟩ <;> first | (cases hl; done) | rfl)
local macro_rules|`(.(Ax))=>`(([(.type "NoneType"),(.type "bool"),(.type "int"),(.type "str"),(.type "tuple"),(.type "list"),(.type "dict"),(.ref C0),(.ref C1),(.ref C2),(.ref C3),(.ref C4),(.ref C5),(.ref C6),(.ref C7),(.ref C8),(.ref C9),(.ref C10),(.ref C11),(.ref C12),(.ref C13),(.ref C14),(.ref C15),(.ref C16),(.ref C17),(.ref C18),(.ref C19),(.ref C20),(.ref C21),(.ref C22),(.ref C23)] : List Value))
local macro_rules|`(command|#synth .(gq $i:ident $k:num $r $d))=>`(theorem $i (n : Nat) (ws : List PV) : gF (n+1) $k ws = $r ($d (gF n)) ws:=rfl)
local macro_rules|`(tactic|exact .(obq $f:ident $d:ident))=>`(tactic| obtain ⟨$f:ident,$d:ident⟩:=$d)
local macro_rules|`(command|#synth .(is $i:ident $a:num $n:num [$ks,*] [$cs,*]))=>do{let mut r:Array Lean.Syntax:=#[];for q in[0:a.getNat] do{let b:=Lean.mkIdent (if(ks.getElems.map fun x=>x.raw.isNatLit?).contains (some q) then`true else`false);let m:=Lean.mkIdent (.mkSimple s!"{i.getId}_{q}");r:=r.push (<-`(@[simp]theorem $m :iT $i $(Lean.quote q)= .ok (.bl $b):=rfl))};for q in[0:n.getNat] do{let b:=Lean.mkIdent (if(cs.getElems.map fun x=>x.raw.isNatLit?).contains (some q) then`true else`false);let m:=Lean.mkIdent (.mkSimple s!"{i.getId}_{q}_");r:=r.push (<-`(@[simp]theorem $m :iT $i ($(Lean.quote q)+10)= .ok (.bl $b):=rfl))};return Lean.mkNullNode r}
local macro_rules|`(command|#synth .(tw [$ks,*]))=>do{let mut r:Array Lean.Syntax:=#[];for k in ks.getElems do{let m:=Lean.mkIdent (.str `PySem.W.Fast s!"tw{k.raw.isNatLit?.getD 0}");r:=r.push (<-`(noncomputable def $m :Nat:=0))};return Lean.mkNullNode r}
set_option hygiene true
abbrev Fg:=PySem.W.Frag
noncomputable section
namespace L2
open PySem PySem.Spec PyProof.Rows
abbrev Key:=Sum Int Str
noncomputable def kL:Key->Value->Bool
 |.inl k,v=>Value.isInt k v
 |.inr x,v=>Value.isStrOf x v
def GM(w:World):Key->Int
 |.inl k=>hashInt k
 |.inr x=>hashStr w x
theorem bI:∀{k:Key} {v:Value},kL k v=true->(∃i t,k=Sum.inl i/\v=Value.int i t)\/(∃x t,k=Sum.inr x/\v=Value.str x t)
 |.inl i,v,h=>by
  obtain⟨t,e⟩:=Value.isInt_shape (k:=i) (v:=v) h
  exact .inl ⟨i,t,rfl,e⟩
 |.inr x,v,h=>by
  obtain⟨t,e⟩:=Value.isStrOf_shape (x:=x) (v:=v) h
  exact .inr ⟨x,t,rfl,e⟩
theorem rm(i:Int)(t:Tok):kL (.inl i) (.int i t)=true:=by simp[kL,Value.isInt]
theorem rn(x:Str)(t:Tok):kL (.inr x) (.str x t)=true:=by simp[kL,Value.isStrOf]
theorem zU(a b:Int):decide ((Sum.inl a:Key)=Sum.inl b)=(a == b):=by
 by_cases e:a=b
 ·subst e;simp
 ·have h:¬(Sum.inl a:Key)=Sum.inl b:=fun q=>e (Sum.inl.inj q)
  rw[decide_eq_false h]
  exact(beq_eq_false_iff_ne.mpr e).symm
theorem zV(a b:Str):decide ((Sum.inr a:Key)=Sum.inr b)=decide (a=b):=by
 by_cases e:a=b
 ·subst e;simp
 ·have h:¬(Sum.inr a:Key)=Sum.inr b:=fun q=>e (Sum.inr.inj q)
  rw[decide_eq_false h,decide_eq_false e]
theorem zW(a:Int)(b:Str):decide ((Sum.inl a:Key)=Sum.inr b)=false:=decide_eq_false (fun q=>nomatch q)
theorem zX(a:Str)(b:Int):decide ((Sum.inr a:Key)=Sum.inl b)=false:=decide_eq_false (fun q=>nomatch q)
noncomputable def bu(prog:Program)(w:World):PySem.KeyKind prog w Key where
 is:=kL
 hash:=GM w
 inj:=fun v a b ha hb=>by
  rcases bI ha with⟨i,t,rfl,rfl⟩|⟨x,t,rfl,rfl⟩
  ·rcases bI hb with⟨j,u,rfl,e⟩|⟨y,u,rfl,e⟩
   ·injection e with e1 _;rw[e1]
   ·exact nomatch e
  ·rcases bI hb with⟨j,u,rfl,e⟩|⟨y,u,rfl,e⟩
   ·exact nomatch e
   ·injection e with e1 _;rw[e1]
 byValue:=fun k v h=>by
  rcases bI h with⟨i,t,rfl,rfl⟩|⟨x,t,rfl,rfl⟩ <;> rfl
 pyHash:=fun hv h=>by
  rcases bI hv with⟨i,t,rfl,rfl⟩|⟨x,t,rfl,rfl⟩
  ·exact wpAny_pyHash_int h
  ·exact wpAny_pyHash_str h
 eqBool:=fun hu hv h=>by
  rcases bI hu with⟨i,t,rfl,rfl⟩|⟨x,t,rfl,rfl⟩
  ·rcases bI hv with⟨j,u,rfl,rfl⟩|⟨y,u,rfl,rfl⟩
   ·rw[zU]at h;exact wpAny_eqBool_int h
   ·rw[zW]at h;exact SeqAt.EqAt.int_str i t y u _ _ _ _ h
  ·rcases bI hv with⟨j,u,rfl,rfl⟩|⟨y,u,rfl,rfl⟩
   ·rw[zX]at h;exact SeqAt.EqAt.str_int x t j u _ _ _ _ h
   ·rw[zV]at h;exact wpAny_eqBool_str h
 «strs» :=fun k x t v h=>by
  rcases bI h with⟨i,u,rfl,e⟩|⟨y,u,rfl,e⟩
  ·exact nomatch e
  ·injection e with e1 _
   subst e1
   cases v <;> rfl
theorem j4(prog:Program)(w:World)(i:Int)(t:Tok):(bu prog w).is (.inl i) (.int i t)=true:=rm i t
theorem mV(prog:Program)(w:World)(x:Str)(t:Tok):(bu prog w).is (.inr x) (.str x t)=true:=rn x t
end L2
namespace L2
open PySem PySem.Spec PyProof.Rows
inductive V where
 |non|bl (b:Bool)|int (i:Int)|str (x:Str)|byt (b:Array UInt8)|flt (b:UInt64)|ref (a:Addr)|ty (n:String)
 deriving DecidableEq
def aR:V->Value->Prop
 |.non,u=>u=Value.none
 |.bl b,u=>u=Value.bool b
 |.int i,u=>∃t,u=Value.int i t
 |.str x,u=>∃t,u=Value.str x t
 |.byt b,u=>∃t,u=Value.bytes b t
 |.flt b,u=>∃t,u=Value.float b t
 |.ref a,u=>u=Value.ref a
 |.ty n,u=>u=Value.type n
abbrev aM:List V->List Value->Prop:=Paired aR
theorem aM.length{xs:List V}{us:List Value}(r:aM xs us):xs.length=us.length:=Paired.length r
theorem aM.get:∀{xs:List V} {us:List Value} {i:Nat} {x:V},aM xs us->xs[i]? =some x->∃u,us[i]? =some u/\aR x u
 |_,_,_,_,.nil,e=>by simp at e
 |_,_,0,_,.cons r _,e=>by simp at e;subst e;exact⟨_,rfl,r⟩
 |_,_,i+1,x,.cons _ t,e=>by
  obtain⟨u,h1,h2⟩:=aM.get (i:=i) (x:=x) t (by simpa using e)
  exact⟨u,by simpa using h1,h2⟩
theorem aM.set{x:V}{u:Value}(r:aR x u):∀{xs:List V} {us:List Value} (i:Nat),aM xs us->aM (xs.set i x) (us.set i u)
 |_,_,_,.nil=> .nil
 |_,_,0,.cons _ t=> .cons r t
 |_,_,i+1,.cons q t=> .cons q (aM.set r i t)
theorem aM.append:∀{xs ys:List V} {us ws:List Value},aM xs us->aM ys ws->aM (xs++ys) (us++ws)
 |_,_,_,_,.nil,s=>s
 |_,_,_,_,.cons r t,s=> .cons r (aM.append t s)
theorem aM.take:∀{xs:List V} {us:List Value} (n:Nat),aM xs us->aM (xs.take n) (us.take n)
 |_,_,0,_=> .nil
 |_,_,_+1,.nil=> .nil
 |_,_,n+1,.cons r t=> .cons r (aM.take n t)
theorem aM.drop:∀{xs:List V} {us:List Value} (n:Nat),aM xs us->aM (xs.drop n) (us.drop n)
 |_,_,0,r=>r
 |_,_,_+1,.nil=> .nil
 |_,_,n+1,.cons _ t=>aM.drop n t
def fU:Option V->Option Value->Prop
 |some v,some u=>aR v u
 |none,none=>True
 |_,_=>False
def KV{κ :Type}:List (κ×V)->List (κ×Value)->Prop:=Paired fun(p: κ×V) (q: κ×Value)=>p.1=q.1/\aR p.2 q.2
def kV:Key->V
 |.inl i=> .int i
 |.inr x=> .str x
inductive HO where
  |lst (xs:List V)
  |tup (xs:List V)
  |dK (kvs:List (Key×V)) (ep:Nat)|dT (kvs:List (List Key×V)) (ep:Nat)
  |set (S:Int->Bool) (n:Nat)
  |ins (C dx:Addr) (fs:List (Str×V))
  |own (x:Addr)
  |xd (fs:List (Str×V))
  |met (f x:Addr)
  |rng (lo hi:Int)
  |frz (o:Obj) (u:HO)
  |tbl (q:Nat)
  |ext (φ :Heap->Prop)
abbrev Hp:=Addr->Option HO
def upd(H:Hp)(a:Addr)(o:HO):Hp:=fun b=>if b=a then some o else H b
theorem ax{H:Hp}{a:Addr}{o:HO}:upd H a o a=some o:=by unfold upd;rw[if_pos rfl]
theorem aw{H:Hp}{a b:Addr}{o:HO}(h:b≠a):upd H a o b=H b:=by unfold upd;rw[if_neg h]
theorem fA{H:Hp}{a:Addr}{o u:HO}:upd (upd H a o) a u=upd H a u:=by
 funext b;unfold upd;split <;> rfl
theorem CW{H:Hp}{a b:Addr}{o u:HO}(h:H a=some o)(h':H b=some u)(d:o≠u):a≠b:=by
 intro e;subst e;rw[h]at h';exact d (Option.some.inj h')
theorem aL{H:Hp}{a b:Addr}{o:HO}(h:H a=some o)(h':H b=none):a≠b:=by
 intro e;subst e;rw[h]at h';cases h'
def tX(o:Obj):Prop:=∃(vs:Array Value) (q:Str) (t:Tok),o.data= .fields vs/\vs[1]? =some (.str q t)
noncomputable section
variable(P:Program)(w:World)
def bJ(H:Hp)(h:Heap)(a:Addr):HO->Prop
 |.lst xs=>xs.length<=sizeLine/\ ∃(its:List Value) (n:Nat),aM xs its/\h.get? a=some { cls:= .type "list",data:= .seq its.toArray n }
 |.tup xs=>xs.length<=sizeLine/\ ∃its:List Value,aM xs its/\IsTup h a its.toArray
 |.dK kvs ep=>kvs.length<=sizeLine/\(a == sysModules)=false/\ ∃vs,KV kvs vs/\h.DictAt (bu P w) a vs ep
 |.dT kvs ep=>kvs.length<=sizeLine/\(a == sysModules)=false/\ ∃xs:List (List Key×Addr×Value),
   Paired (fun(p:List Key×V) (q:List Key×Addr×Value)=>p.1=q.1/\H q.2.1=some (.tup (p.1.map kV))/\aR p.2 q.2.2) kvs xs /\
   ∃o es,h.get? a=some o/\o.ExactDict/\o.data= .dict es ep/\es.toList=xs.map (entryOfKey (tupleKind (bu P w)))/\(xs.map (·.1)).Nodup
 |.set S n=>h.SetOf (intKind P w) a S n
 |.ins C dx fs=>H dx=some (.own a)/\fs.length<=1000/\dx≠a/\h.get? a=some (PySem.W.instObj C dx) /\
   ∃mA,h.Ns1 dx mA/\(∀f,fU (fs.lookup f) (mA f))/\PySem.Within mA (fs.map (·.1))
 |.own _=>∃o,h.get? a=some o
 |.xd fs=>∃mA,h.Ns1 a mA/\ ∀f,fU (fs.lookup f) (mA f)
 |.rng lo hi=>∃t u v,h.get? a=some { cls:= .type "range",data:= .fields #[.int lo t,.int hi u,.int 1 v] }
 |.frz o u=>h.get? a=some o/\bJ H h a u
 |.tbl _=>∃ps:Array Value,h.get? a=some (PySem.W.tabObj ps)/\TriplesOk ps.toList/\ ∀pos cv,codeAmong pos ps.toList=some cv->∃c oc u,cv= .ref c/\H c=some (.frz oc u)/\tX oc
 |.met f x=>h.get? a=some (PySem.W.methodObj (.ref f) (.ref x))
 |.ext φ => φ h/\(∃o,h.get? a=some o)/\ ∀h1 h2:Heap, φ h1->(∀o,h1.get? a=some o->h2.get? a=some o)-> φ h2
def gz(H:Hp)(h:Heap):Prop:=∀a o,H a=some o->bJ P w H h a o
end
noncomputable section
variable{P:Program}{w:World}{H H':Hp}{h h':Heap}{a:Addr}{o:HO}
theorem bJ.lt(x:bJ P w H h a o):a<h.objs.size:=by
 cases o with
 |lst xs=>obtain⟨_,_,_,_,e⟩:=x;exact Heap.lt_size e
 |tup xs=>obtain⟨_,_,_,p⟩:=x;exact p.lt
 |dK kvs ep=>obtain⟨_,_,_,_,o,_,e,_⟩:=x;exact Heap.lt_size e
 |dT kvs ep=>obtain⟨_,_,_,_,o,_,e,_⟩:=x;exact Heap.lt_size e
 |set S n=>obtain⟨o,_,_,_,e,_⟩:=x;exact Heap.lt_size e
 |ins C dx fs=>obtain⟨_,_,_,e,_⟩:=x;exact Heap.lt_size e
 |own y=>obtain⟨_,e⟩:=x;exact Heap.lt_size e
 |xd fs=>obtain⟨_,⟨_,_,_,e,_⟩,_⟩:=x;exact Heap.lt_size e
 |rng lo hi=>obtain⟨_,_,_,e⟩:=x;exact Heap.lt_size e
 |frz ob u=>obtain⟨e,_⟩:=x;exact Heap.lt_size e
 |tbl q=>obtain⟨_,e,_⟩:=x;exact Heap.lt_size e
 |met f y=>exact Heap.lt_size (show h.get? a=some _ from x)
 |ext φ =>obtain⟨_,⟨_,e⟩,_⟩:=x;exact Heap.lt_size e
theorem Paired.mapP{α β :Type}{F G: α -> β ->Prop}:∀{l₁:List α} {l₂:List β},Paired F l₁ l₂->(∀a b,F a b->G a b)->Paired G l₁ l₂
 |_,_,.nil,_=> .nil
 |_,_,.cons r t,f=> .cons (f _ _ r) (Paired.mapP t f)
theorem bJ.stay(x:bJ P w H h a o)(k:∀b u,(b=a\/H b=some (.own a))->h.get? b=some u->h'.get? b=some u)
  (ho:∀b,H b=some (.own a)->H' b=some (.own a)) (ht:∀b xs,H b=some (.tup xs)->H' b=some (.tup xs)) (hz:∀b o u,H b=some (.frz o u)->H' b=some (.frz o u)):bJ P w H' h' a o:=by
 induction o with
 |lst xs=>obtain⟨z,its,n,r,e⟩:=x;exact⟨z,its,n,r,k _ _ (.inl rfl) e⟩
 |tup xs=>obtain⟨z,its,r,ob,e,c⟩:=x;exact⟨z,its,r,ob,k _ _ (.inl rfl) e,c⟩
 |dK kvs ep=>obtain⟨z,y,vs,r,ob,es,e,c⟩:=x;exact⟨z,y,vs,r,ob,es,k _ _ (.inl rfl) e,c⟩
 |dT kvs ep =>
  obtain⟨z,y,xs,r,ob,es,e,c⟩:=x
  exact⟨z,y,xs,Paired.mapP r fun p q z=>⟨z.1,ht _ _ z.2.1,z.2.2⟩,ob,es,k _ _ (.inl rfl) e,c⟩
 |set S n=>obtain⟨ob,es,ep,t,e,c⟩:=x;exact⟨ob,es,ep,t,k _ _ (.inl rfl) e,c⟩
 |ins C dx fs =>
  obtain⟨d,z,ne,e,mA,⟨od,es,ep,e2,c⟩,r⟩:=x
  exact⟨ho _ d,z,ne,k _ _ (.inl rfl) e,mA,⟨od,es,ep,k _ _ (.inr d) e2,c⟩,r⟩
 |own y=>obtain⟨ob,e⟩:=x;exact⟨ob,k _ _ (.inl rfl) e⟩
 |xd fs=>obtain⟨mA,⟨od,es,ep,e,c⟩,r⟩:=x;exact⟨mA,⟨od,es,ep,k _ _ (.inl rfl) e,c⟩,r⟩
 |rng lo hi=>obtain⟨t,u,v,e⟩:=x;exact⟨t,u,v,k _ _ (.inl rfl) e⟩
 |frz ob u ih=>obtain⟨e,q⟩:=x;exact⟨k _ _ (.inl rfl) e,ih q⟩
 |tbl q =>
  obtain⟨ps,e,t,r⟩:=x
  exact⟨ps,k a _ (.inl rfl) e,t,fun pos cv z=>let ⟨c,oc,u,e1,e2,e3⟩:=r pos cv z;⟨c,oc,u,e1,hz _ _ _ e2,e3⟩⟩
 |met f y =>
  have e:h.get? a=some (PySem.W.methodObj (.ref f) (.ref y)):=x
  show h'.get? a=some (PySem.W.methodObj (.ref f) (.ref y))
  exact k a _ (.inl rfl) e
 |ext φ =>obtain⟨p,⟨o,e⟩,st⟩:=x;exact⟨st _ _ p fun o q=>k _ _ (.inl rfl) q,⟨o,k _ _ (.inl rfl) e⟩,st⟩
theorem gz.lt(x:gz P w H h)(e:H a=some o):a<h.objs.size:=(x a o e).lt
theorem gz.fresh(x:gz P w H h)(e:h.objs.size<=a):H a=none:=by
 cases q:H a with
 |none=>rfl
 |some u=>exact absurd (Nat.lt_of_lt_of_le (x.lt q) e) (Nat.lt_irrefl _)
theorem gz.kept(x:gz P w H h)(k:∀b u,h.get? b=some u->h'.get? b=some u):gz P w H h':=fun a o e =>
 (x a o e).stay (fun b u _ q=>k b u q) (fun _ q=>q) (fun _ _ q=>q) fun _ _ _ q=>q
theorem gz.laid(x:gz P w H h)(k:∀b u,h.get? b=some u->h'.get? b=some u)(hp:h.objs.size<=a)(new:bJ P w (upd H a o) h' a o):gz P w (upd H a o) h':=fun b u e=>by
 have hn:=x.fresh hp
 by_cases hb:b=a
 ·subst hb;rw[ax]at e;cases e;exact new
 ·rw[aw hb]at e
  exact(x b u e).stay (fun c v _ q=>k c v q) (fun c q=>by rw[aw (aL q hn)];exact q) (fun c xs q=>by rw[aw (aL q hn)];exact q) fun c o u q=>by rw[aw (aL q hn)];exact q
end
def Rd(H:Hp)(a:Addr)(u:HO):Prop:=H a=some u\/ ∃o,H a=some (.frz o u)
theorem Rd.ok{P:Program}{w:World}{H:Hp}{h:Heap}{a:Addr}{u:HO}(r:Rd H a u)(x:gz P w H h):bJ P w H h a u:=by
 rcases r with r|⟨o,r⟩
 ·exact x a u r
 ·obtain⟨_,q⟩:=x a _ r
  exact q
def CY:Option HO->Prop
 |some (.lst _)=>True
 |some (.dK _ _)=>True
 |some (.dT _ _)=>True
 |some (.set _ _)=>True
 |some (.ins _ _ _)=>True
 |some (.ext _)=>True
 |_=>False
noncomputable section
variable{P:Program}{w:World}{H:Hp}{h h':Heap}{x e:Addr}{o':HO}
theorem gz.write(ok:gz P w H h)(mu:CY (H x))(he:e=x\/H e=some (.own x))(k:∀b u,b≠e->h.get? b=some u->h'.get? b=some u)(heo:∃u,h'.get? e=some u)
  (new:bJ P w (upd H x o') h' x o'):gz P w (upd H x o') h':=fun b u q=>by
 have nown:∀c y,H c=some (.own y)->c≠x:=fun c y r z=>by subst z;rw[r]at mu;exact mu
 have nfrz:∀c o u,H c=some (.frz o u)->c≠x:=fun c o u r z=>by subst z;rw[r]at mu;exact mu
 have ntup:∀c xs,H c=some (.tup xs)->c≠x:=fun c xs r z=>by subst z;rw[r]at mu;exact mu
 by_cases hb:b=x
 ·subst hb;rw[ax]at q;cases q;exact new
 ·rw[aw hb]at q
  by_cases hbe:b=e
  ·have q':H b=some (.own x):=by
    rcases he with z|z
    ·exact absurd (hbe.trans z) hb
    ·rw[hbe];exact z
   rw[q]at q';cases q'
   obtain⟨v,hv⟩:=heo
   exact⟨v,by rw[hbe];exact hv⟩
  ·refine(ok b u q).stay (fun c v hc r=>k c v ?_ r) (fun c r=>by rw[aw (nown c b r)];exact r) (fun c xs r=>by rw[aw (ntup c xs r)];exact r) fun c o u r=>by rw[aw (nfrz c o u r)];exact r
   rcases hc with rfl|hc
   ·exact hbe
   ·rintro rfl
    rcases he with z|z
    ·exact nown c b hc z
    ·rw[hc]at z;cases z;exact hb rfl
end
structure Un(fs ex:List Addr)(H H':Hp)(h h':Heap):Prop where
 keep:∀b o,h.get? b=some o->H b=none->b∉fs->b∉ex->h'.get? b=some o
 slot:∀b o,h.get? b=some o->H b=none->b∈fs->b∉ex->∃sl,h'.get? b=some { o with slots:=sl }
 free:∀b o,h.get? b=some o->H b=none->b∉ex->H' b=none
 there:∀b o,h.get? b=some o->b∉ex->∃o',h'.get? b=some o'
 tups:∀b xs,H b=some (.tup xs)->H' b=some (.tup xs)
 frzs:∀b o u,H b=some (.frz o u)->H' b=some (.frz o u)
 tbls:∀b q,H b=some (.tbl q)->H' b=some (.tbl q)
noncomputable section
variable{fs fs' ex ex':List Addr}{H H1 H2:Hp}{h h1 h2 h':Heap}{a x e:Addr}{o:HO}
theorem Un.any(u:Un fs ex H H1 h h1){b:Addr}{ob:Obj}(q:h.get? b=some ob)(n:H b=none)(hx:b∉ex):∃sl,h1.get? b=some { ob with slots:=sl }:=by
 by_cases hb:b∈fs
 ·exact u.slot b ob q n hb hx
 ·exact⟨ob.slots,u.keep b ob q n hb hx⟩
theorem Un.kept(k:∀b u,h.get? b=some u->h'.get? b=some u):Un fs ex H H h h' :=
 ⟨fun b ob q _ _ _=>k b ob q,fun b ob q _ _ _=>⟨ob.slots,k b ob q⟩,fun _ _ _ n _=>n,fun b ob q _=>⟨ob,k b ob q⟩,fun _ _ q=>q,fun _ _ _ q=>q,fun _ _ q=>q⟩
theorem Un.refl:Un fs ex H H h h:=Un.kept fun _ _ q=>q
theorem Un.laid(k:∀b u,h.get? b=some u->h'.get? b=some u)(hp:h.objs.size<=a)(hn:H a=none):Un fs ex H (upd H a o) h h' where
 keep:=fun b u q _ _ _=>k b u q
 slot:=fun b u q _ _ _=>⟨u.slots,k b u q⟩
 free:=fun b u q n _=>by rw[aw (Nat.ne_of_lt (Nat.lt_of_lt_of_le (Heap.lt_size q) hp))];exact n
 there:=fun b u q _=>⟨u,k b u q⟩
 tups:=fun b xs q=>by rw[aw (aL q hn)];exact q
 frzs:=fun b u xs q=>by rw[aw (aL q hn)];exact q
 tbls:=fun b ps q=>by rw[aw (aL q hn)];exact q
theorem Un.write(mu:CY (H x))(he:e=x\/H e=some (.own x))(k:∀b u,b≠e->h.get? b=some u->h'.get? b=some u)(heo:∃u,h'.get? e=some u):Un fs ex H (upd H x o) h h':=by
 have hx:∀b,H b=none->b≠x:=fun b n z=>by subst z;rw[n]at mu;exact mu
 have hb:∀b,H b=none->b≠e:=fun b n z=>by
  subst z
  rcases he with r|r
  ·exact hx b n r
  ·rw[n]at r;cases r
 have hm:∀b u,H b=some u->¬CY (some u)->b≠x:=fun b u q nm z=>by subst z;rw[q]at mu;exact nm mu
 refine⟨fun b u q n _ _=>k b u (hb b n) q,fun b u q n _ _=>⟨u.slots,k b u (hb b n) q⟩,fun b u q n _=>by rw[aw (hx b n)];exact n,fun b u q _=> ?_,
  fun b xs q=>by rw[aw (hm b _ q fun z=>z)];exact q,fun b u xs q=>by rw[aw (hm b _ q fun z=>z)];exact q,fun b ps q=>by rw[aw (hm b _ q fun z=>z)];exact q⟩
 by_cases hbe:b=e
 ·subst hbe;exact heo
 ·exact⟨u,k b u hbe q⟩
end
def G4(h:Heap)(H:Hp):List Addr:=(List.range h.objs.size).filter fun a=>(H a).isSome
def kx(h:Heap)(H:Hp):Heap:=PySem.W.hideAll h (G4 h H)
theorem rq(h:Heap)(H:Hp):(kx h H).objs.size=h.objs.size:=PySem.W.hideAll_size _ _
theorem tY{h:Heap}{H:Hp}{b:Addr}{o:Obj}(e:h.get? b=some o)(n:H b=none):(kx h H).get? b=some o :=
 PySem.W.hideAll_get _ e fun hm=>by
  have q:(H b).isSome=true:=(List.mem_filter.mp hm).2
  rw[n]at q;simp at q
theorem xw{h:Heap}{H:Hp}{b:Addr}{o:Obj}(e:(kx h H).get? b=some o):h.get? b=some o/\H b=none:=by
 have e':h.get? b=some o:=PySem.W.of_hideAll (G4 h H) e
 refine⟨e',?_⟩
 cases q:H b with
 |none=>rfl
 |some x =>
  have hm:b∈G4 h H:=List.mem_filter.mpr ⟨List.mem_range.mpr (Heap.lt_size e'),by simp[q]⟩
  have z:(kx h H).get? b=none:=PySem.W.hideAll_none (G4 h H) hm
  rw[z]at e;cases e
noncomputable def xy(g h:Heap)(L:Addr):List (Addr×Obj):=(List.range h.objs.size).filterMap fun a=>if a=L\/(g.get? a).isSome=true then none else(h.get? a).map fun o=>(a,o)
def rest(g h:Heap)(L d:Addr):List (Addr×Obj):=(xy g h L).filter fun p=>decide (p.1≠d)
end L2
namespace L2
open PySem PySem.Spec PyProof.Rows
structure Bs extends Heap where
 tabs:List Addr
instance:Coe Bs Heap:=⟨Bs.toHeap⟩
structure Mod(K:Fg)(mg:Str->Option Value)(base:Bs):Prop where
 kin:K.In base
 glob:base.Ns mainGlobals mg
 blt:∃mb,base.Ns builtinsNs mb/\ ∀x:Str,x ≠ "__name__"->mb x=bootBuiltins x
 nolimit:base.NoLimit
 bmain:∃bm ob,mg "__builtins__"=some (.ref bm)/\bm≠builtinsNs/\base.get? bm=some ob/\ob.cls= .type "module"/\ob.dict=some builtinsNs/\ob.data= .plain
structure Cx where
 prog:Program
 w:World
 K:PySem.W.Frag
 mg:Str->Option Value
 base:Bs
 A:Around
 N:List Str
 s₀:Shared
 H₀:Hp
 env:Env
 outer:List Env
 stack:List Env
 ex:List Addr
 fn:Str->Bool
 cw:Str->Bool
 calm:Bool
 pn:List (Addr×Obj)
 xe:Value->Shared->Prop
def frs(l:List Env):List Addr:=l.filterMap (·.frame)
abbrev Cx.fs(X:Cx):List Addr:=frs X.outer
def lF(sc:Scope)(x:Str):Prop:=sc.names.lookup x=some .local\/sc.names.lookup x=some .cell\/sc.names.lookup x=some .free
def mW(sc:Scope)(x:Str):Prop:=sc.names.lookup x=some .local\/sc.names.lookup x=some .cell
def GN(env:Env)(h:Heap)(m:Str->Option Value)(x:Str)(u:Value):Prop :=
 (env.kindOf x=some .local/\m x=some u)\/((env.kindOf x=some .cell\/env.kindOf x=some .free)/\ ∃c,env.cells.lookup x=some c/\h.IsCell c (some u))
structure Cx.Ok(X:Cx):Prop where
 mod:Mod X.K X.mg X.base
 kind:X.env.scope.kind= .function
 glob:X.env.globals=mainGlobals
 blt:X.env.builtins=builtinsNs
 above:X.s₀.heap.objs.size<=X.env.locals
 inj:∀x y c,X.env.cells.lookup x=some c->X.env.cells.lookup y=some c->x=y
 has:∀x,(X.env.kindOf x=some .cell\/X.env.kindOf x=some .free)->∃c,X.env.cells.lookup x=some c
 cab:∀x c,X.cw x=true->X.env.cells.lookup x=some c->X.s₀.heap.objs.size<=c
 hd:X.calm=true->X.A.handled=none
 frames:X.A.frames=some X.stack
 stk:X.stack=X.outer\/(X.stack=X.env::X.outer/\X.env.frame=some X.env.locals)
 exf:∀b∈X.ex,b≠X.env.locals/\ ∀x c,X.env.cells.lookup x=some c->c≠b
 bs:∀b o,X.base.get? b=some o->X.s₀.heap.get? b=some o/\X.H₀ b=none
 bsz:X.base.objs.size<=X.s₀.heap.objs.size
 noex:∀b o,X.base.get? b=some o->b∉X.ex
 exfs:∀b∈X.ex,b∉X.fs
 funs:X.s₀.heap.FunFrames X.base X.outer
 frf:∀b∈X.fs,X.H₀ b=none
 tab:∀P∈X.base.tabs,X.H₀ P=some (.tbl 0)
 fc:∀x,X.fn x=true->X.cw x=true
structure aA(X:Cx)(pins:List (Addr×Obj))(σ :List (Option V))(H:Hp)(s:Shared):Prop where
 ok:X.Ok
 os:s.os=X.s₀.os
 bare:AllBare s.gens
 base:Un X.fs X.ex X.H₀ H X.s₀.heap s.heap
 loc:∃m,s.heap.Ns X.env.locals m/\ ∀(i:Nat) (x:Str) (v:V),X.N[i]? =some x-> σ[i]? =some (some v)->lF X.env.scope x->∃u,aR v u/\GN X.env s.heap m x u
 cell:∀x c,X.env.cells.lookup x=some c->∃v,s.heap.IsCell c v
 free:H X.env.locals=none
 freeC:∀x c,X.env.cells.lookup x=some c->H c=none\/(X.fn x=false/\ ∃o u,H c=some (.frz o u))
 pin:∀p∈X.pn++pins,s.heap.get? p.1=some p.2/\H p.1=none/\p.1≠X.env.locals/\p.1∉X.fs/\ ∀v,p.2.data ≠ .cell v
 hok:gz X.prog X.w H s.heap
 len: σ.length=X.N.length
noncomputable section
variable{X:Cx}{pins:List (Addr×Obj)}{σ :List (Option V)}{H H':Hp}{s:Shared}{h':Heap}
theorem Cx.Ok.nofr(ok:X.Ok){b:Addr}{o:Obj}(e:X.base.get? b=some o):b∉X.fs:=fun hb=>by
 have:=(ok.funs.mem hb).1
 rw[e]at this;cases this
theorem aA.bs(I:aA X pins σ H s):∀b o,X.base.get? b=some o->s.heap.get? b=some o/\H b=none:=fun b o e =>
 ⟨I.base.keep b o (I.ok.bs b o e).1 (I.ok.bs b o e).2 (I.ok.nofr e) (I.ok.noex b o e),I.base.free b o (I.ok.bs b o e).1 (I.ok.bs b o e).2 (I.ok.noex b o e)⟩
theorem aA.bk(I:aA X pins σ H s):∀b o,X.base.get? b=some o->s.heap.get? b=some o:=fun b o e=>(I.bs b o e).1
theorem aA.mod(I:aA X pins σ H s):Mod X.K X.mg X.base:=I.ok.mod
theorem aA.kIn(I:aA X pins σ H s):X.K.In s.heap:=I.ok.mod.kin.keeps I.bk
theorem aA.lt(I:aA X pins σ H s):X.env.locals<s.heap.objs.size:=let ⟨_,hn,_⟩:=I.loc;hn.lt
theorem aA.sz(I:aA X pins σ H s):X.s₀.heap.objs.size<=s.heap.objs.size:=Nat.le_trans I.ok.above (Nat.le_of_lt I.lt)
theorem aA.nofs(I:aA X pins σ H s){a:Addr}(h:s.heap.objs.size<=a):a∉X.fs:=fun hb=>by
 obtain⟨_,o,ho,_⟩:=I.ok.funs.mem hb
 exact absurd (Nat.lt_of_lt_of_le (Heap.lt_size ho) (Nat.le_trans I.sz h)) (Nat.lt_irrefl _)
theorem aA.cne(I:aA X pins σ H s):∀x c,X.env.cells.lookup x=some c->c≠X.env.locals:=fun x c e z=>by
 obtain⟨v,o,ho,hd⟩:=I.cell x c e
 obtain⟨m,⟨o',es,ep,ho',hd',_⟩,_⟩:=I.loc
 rw[z,ho']at ho;cases ho;rw[hd']at hd;cases hd
theorem aA.funs(I:aA X pins σ H s):s.heap.FunFrames X.base X.outer:=by
 have all:∀(l:List Env),(∀b∈frs l,b∈X.fs)->X.s₀.heap.FunFrames X.base l->s.heap.FunFrames X.base l:=by
  intro l
  induction l with
  |nil=>intro _ _;trivial
  |cons env r ih =>
   intro hs hl
   obtain⟨hk,⟨L,o,hf,hn,ho,hd⟩,hr⟩:=hl
   have hL:L∈X.fs:=hs L (by unfold frs;rw[List.filterMap_cons,hf];exact List.mem_cons_self)
   obtain⟨sl,e⟩:=I.base.slot L o ho (I.ok.frf L hL) hL fun z=>I.ok.exfs L z hL
   exact⟨hk,⟨L,_,hf,hn,e,hd⟩,ih (fun b hb=>hs b (by unfold frs;rw[List.filterMap_cons,hf];exact List.mem_cons_of_mem _ hb)) hr⟩
 exact all X.outer (fun _ hb=>hb) I.ok.funs
theorem aA.stack(I:aA X pins σ H s):s.heap.FunFrames X.base X.stack:=by
 rcases I.ok.stk with e|⟨e,hf⟩
 ·rw[e];exact I.funs
 ·rw[e]
  obtain⟨m,hn,_⟩:=I.loc
  refine .cons (by rw[I.ok.kind];decide) hf hn ?_ I.funs
  exact Heap.get?_none_of_le (Nat.le_trans I.ok.bsz I.ok.above)
theorem aA.stkSub(I:aA X pins σ H s):∀b∈frs X.stack,b∈X.env.locals::X.fs:=fun b hb=>by
 rcases I.ok.stk with e|⟨e,hf⟩
 ·rw[e]at hb;exact List.mem_cons_of_mem _ hb
 ·rw[e]at hb
  unfold frs at hb
  rw[List.filterMap_cons,hf]at hb
  exact hb
theorem aA.stkFree(I:aA X pins σ H s):∀b∈frs X.stack,H b=none:=fun b hb=>by
 rcases List.mem_cons.mp (I.stkSub b hb)with e|hb
 ·rw[e];exact I.free
 ·obtain⟨_,o,ho,_⟩:=I.ok.funs.mem hb
  exact I.base.free b o ho (I.ok.frf b hb) fun z=>I.ok.exfs b z hb
theorem aA.step{g':Array GenState}{t':Nat}{d':Drawn}{ch:List Addr}(I:aA X pins σ H s)
  (hch:∀b∈ch,(b∈X.ex\/X.s₀.heap.objs.size<=b)/\b≠X.env.locals/\(∀x c,X.env.cells.lookup x=some c->c≠b)/\ ∀p∈X.pn++pins,p.1≠b)
  (keep:∀b o,b≠X.env.locals->b∉X.fs->b∉ch->s.heap.get? b=some o->H b=none->h'.get? b=some o)
  (slot:∀b o,b≠X.env.locals->b∈X.fs->b∉ch->s.heap.get? b=some o->H b=none->∃sl,h'.get? b=some { o with slots:=sl }) (free:∀b o,b∉ch->s.heap.get? b=some o->H b=none->H' b=none)
  (there:∀b o,b∉ch->s.heap.get? b=some o->∃o',h'.get? b=some o')
  (tups:∀b xs,H b=some (.tup xs)->H' b=some (.tup xs)) (frzs:∀b o u,H b=some (.frz o u)->H' b=some (.frz o u)) (tbls:∀b q,H b=some (.tbl q)->H' b=some (.tbl q))
  (ns:∀m,s.heap.Ns X.env.locals m->h'.Ns X.env.locals m) (hok:gz X.prog X.w H' h') (hg:AllBare g') :
  aA X pins σ H' { s with heap:=h',gens:=g',drawn:=d',toks:=t' }:=by
 have neL:∀b o,X.s₀.heap.get? b=some o->b≠X.env.locals:=fun b o e=>Nat.ne_of_lt (Nat.lt_of_lt_of_le (Heap.lt_size e) I.ok.above)
 have neC:∀b o,X.s₀.heap.get? b=some o->b∉X.ex->b∉ch:=fun b o e hx hb=>by
  rcases(hch b hb).1 with z|z
  ·exact hx z
  ·exact absurd (Nat.lt_of_lt_of_le (Heap.lt_size e) z) (Nat.lt_irrefl _)
 have cellK:∀x c,X.env.cells.lookup x=some c->∀v,s.heap.IsCell c v->h'.IsCell c v:=fun x c e v ⟨o,ho,hd⟩=>by
  have nch:c∉ch:=fun z=>(hch c z).2.2.1 x c e rfl
  rcases I.freeC x c e with fc|⟨_,ob,u,fc⟩
  ·by_cases hc:c∈X.fs
   ·obtain⟨sl,q⟩:=slot c o (I.cne x c e) hc nch ho fc
    exact⟨_,q,hd⟩
   ·exact⟨o,keep c o (I.cne x c e) hc nch ho fc,hd⟩
  ·obtain⟨e1,_⟩:=I.hok c _ fc
   obtain⟨e2,_⟩:=hok c _ (frzs c ob u fc)
   rw[e1]at ho;cases ho
   exact⟨_,e2,hd⟩
 refine⟨I.ok,I.os,hg,⟨fun b o e n hb hx=> ?_,fun b o e n hb hx=> ?_,fun b o e n hx=> ?_,fun b o e hx=> ?_,fun b xs e=>tups b xs (I.base.tups b xs e),fun b o xs e=>frzs b o xs (I.base.frzs b o xs e),fun b ps e=> ?_⟩,?_,fun x c e=> ?_,?_,fun x c e=> ?_,fun p hp=> ?_,hok,I.len⟩
 ·exact keep b o (neL b o e) hb (neC b o e hx) (I.base.keep b o e n hb hx) (I.base.free b o e n hx)
 ·obtain⟨sl,e1⟩:=I.base.slot b o e n hb hx
  obtain⟨sl',e2⟩:=slot b _ (neL b o e) hb (neC b o e hx) e1 (I.base.free b o e n hx)
  exact⟨sl',e2⟩
 ·obtain⟨o',e1⟩:=I.base.there b o e hx
  exact free b o' (neC b o e hx) e1 (I.base.free b o e n hx)
 ·obtain⟨o',e1⟩:=I.base.there b o e hx
  exact there b o' (neC b o e hx) e1
 ·exact tbls b ps (I.base.tbls b ps e)
 ·obtain⟨m,hn,hl⟩:=I.loc
  refine⟨m,ns m hn,fun i x v e1 e2 e3=> ?_⟩
  obtain⟨u,r,l⟩:=hl i x v e1 e2 e3
  refine⟨u,r,?_⟩
  rcases l with l|⟨k,c,e,z⟩
  ·exact .inl l
  ·exact .inr ⟨k,c,e,cellK x c e _ z⟩
 ·obtain⟨v,z⟩:=I.cell x c e
  exact⟨v,cellK x c e v z⟩
 ·obtain⟨m,⟨o,_,_,ho,_⟩,_⟩:=I.loc
  exact free _ o (fun z=>(hch _ z).2.1 rfl) ho I.free
 ·obtain⟨v,o,ho,hd⟩:=I.cell x c e
  rcases I.freeC x c e with fc|⟨f,ob,u,fc⟩
  ·exact .inl (free c o (fun z=>(hch c z).2.2.1 x c e rfl) ho fc)
  ·exact .inr ⟨f,ob,u,frzs c ob u fc⟩
 ·obtain⟨e,n,ne,nf,d⟩:=I.pin p hp
  have nch:p.1∉ch:=fun z=>(hch p.1 z).2.2.2 p hp rfl
  exact⟨keep p.1 p.2 ne nf nch e n,free p.1 p.2 nch e n,ne,nf,d⟩
theorem aA.un{t':Nat}(I:aA X pins σ H s)(u:Un X.fs [] H H' s.heap h')(hok:gz X.prog X.w H' h'):aA X pins σ H' { s with heap:=h',toks:=t' }:=by
 obtain⟨m,⟨o,es,ep,ho,r⟩,_⟩:=id I.loc
 obtain⟨sl,hL⟩:=u.any ho I.free (by simp)
 exact I.step (g':=s.gens) (d':=s.drawn) (ch:=[]) (fun _ z=>nomatch z) (fun b o _ hb _ e n=>u.keep b o e n hb (by simp)) (fun b o _ hb _ e n=>u.slot b o e n hb (by simp)) (fun b o _ e n=>u.free b o e n (by simp)) (fun b o _ e=>u.there b o e (by simp)) u.tups u.frzs u.tbls (fun m' hm=>by
  obtain⟨o',es',ep',ho',r'⟩:=hm
  rw[ho]at ho';cases ho'
  exact⟨_,es',ep',hL,r'⟩) hok I.bare
theorem aA.call{g':Array GenState}{t':Nat}{d':Drawn}{ch:List Addr}(I:aA X pins σ H s)(u:Un (frs X.stack) ch H H' s.heap h')(hok:gz X.prog X.w H' h')(hg:AllBare g')
  (hch:∀b∈ch,(b∈X.ex\/X.s₀.heap.objs.size<=b)/\b≠X.env.locals/\(∀x c,X.env.cells.lookup x=some c->c≠b)/\ ∀p∈X.pn++pins,p.1≠b) :
  aA X pins σ H' { s with heap:=h',gens:=g',drawn:=d',toks:=t' }:=by
 obtain⟨m,⟨o,es,ep,ho,r⟩,_⟩:=id I.loc
 obtain⟨sl,hL⟩:=u.any ho I.free fun z=>(hch _ z).2.1 rfl
 exact I.step (ch:=ch) hch (fun b o hL hb hc e n=>u.keep b o e n (fun z=>(List.mem_cons.mp (I.stkSub b z)).elim hL hb) hc) (fun b o _ _ hc e n=>u.any e n hc) (fun b o hc e n=>u.free b o e n hc) (fun b o hc e=>u.there b o e hc) u.tups u.frzs u.tbls (fun m' hm=>by
  obtain⟨o',es',ep',ho',r'⟩:=hm
  rw[ho]at ho';cases ho'
  exact⟨_,es',ep',hL,r'⟩) hok hg
theorem aA.turned{t':Nat}{it:Addr}(I:aA X pins σ H s)(k:∀b o,b≠it->s.heap.get? b=some o->h'.get? b=some o)(hn:H it=none)(hL:it≠X.env.locals)
  (h1:it∈X.ex\/X.s₀.heap.objs.size<=it) (h2:∀x c,X.env.cells.lookup x=some c->c≠it) (h3:∀p∈X.pn++pins,p.1≠it):aA X pins σ H { s with heap:=h',toks:=t' }:=by
 have nit:∀b u,H b=some u->b≠it:=fun b u e z=>by rw[z,hn]at e;cases e
 refine I.step (g':=s.gens) (d':=s.drawn) (ch:=[it]) (fun b hb=> ?_) (fun b o _ _ hc e _=>k b o (fun z=>hc (by simp[z])) e) (fun b o _ _ hc e _=>⟨o.slots,k b o (fun z=>hc (by simp[z])) e⟩) (fun _ _ _ _ n=>n)
  (fun b o hc e=>⟨o,k b o (fun z=>hc (by simp[z])) e⟩) (fun _ _ e=>e) (fun _ _ _ e=>e) (fun _ _ e=>e) (fun m hm=> ?_) (fun b u e=> ?_) I.bare
 ·have e:b=it:=by simpa using hb
  subst e
  exact⟨h1,hL,h2,h3⟩
 ·obtain⟨o,es,ep,ho,r⟩:=hm
  exact⟨o,es,ep,k _ o (Ne.symm hL) ho,r⟩
 ·refine(I.hok b u e).stay (fun c v hc q=>k c v ?_ q) (fun _ q=>q) (fun _ _ q=>q) fun _ _ _ q=>q
  rcases hc with z|z
  ·rw[z];exact nit b u e
  ·exact nit c _ z
theorem aA.tok(I:aA X pins σ H s)(t:Nat):aA X pins σ H { s with toks:=t }:=I.un (h':=s.heap) (t':=t) Un.refl I.hok
theorem aA.kept{t':Nat}(I:aA X pins σ H s)(k:∀b u,s.heap.get? b=some u->h'.get? b=some u):aA X pins σ H { s with heap:=h',toks:=t' }:=I.un (Un.kept k) (I.hok.kept k)
theorem aA.laid{a:Addr}{o:HO}{t':Nat}(I:aA X pins σ H s)(k:∀b u,s.heap.get? b=some u->h'.get? b=some u)(hp:s.heap.objs.size<=a)(new:bJ X.prog X.w (upd H a o) h' a o) :
  aA X pins σ (upd H a o) { s with heap:=h',toks:=t' }:=I.un (Un.laid k hp (I.hok.fresh hp)) (I.hok.laid k hp new)
theorem aA.write{x e:Addr}{o:HO}{t':Nat}(I:aA X pins σ H s)(mu:CY (H x))(he:e=x\/H e=some (.own x))(k:∀b u,b≠e->s.heap.get? b=some u->h'.get? b=some u)(heo:∃u,h'.get? e=some u)
  (new:bJ X.prog X.w (upd H x o) h' x o):aA X pins σ (upd H x o) { s with heap:=h',toks:=t' }:=I.un (Un.write mu he k heo) (I.hok.write mu he k heo new)
theorem aA.pins_of{pins':List (Addr×Obj)}(I:aA X pins σ H s)(h:∀p∈pins',s.heap.get? p.1=some p.2/\H p.1=none/\p.1≠X.env.locals/\p.1∉X.fs/\ ∀v,p.2.data ≠ .cell v):aA X pins' σ H s :=
 ⟨I.ok,I.os,I.bare,I.base,I.loc,I.cell,I.free,I.freeC,fun p hp=>(List.mem_append.mp hp).elim (fun z=>I.pin p (List.mem_append_left _ z)) (h p),I.hok,I.len⟩
theorem mX{N:List Str}(hN:N.Nodup){i j:Nat}{x:Str}(a:N[i]? =some x)(b:N[j]? =some x):i=j:=by
 obtain⟨h1,e1⟩:=List.getElem?_eq_some_iff.mp a
 obtain⟨h2,e2⟩:=List.getElem?_eq_some_iff.mp b
 exact(List.getElem_inj hN).mp (e1.trans e2.symm)
theorem kM{M:Model}{A:Around}{E:Value->Shared->Prop}{i:Nat}{x:Str}{v:V}{u:Value}{Q:Unit->Shared->Prop}(I:aA X pins σ H s)(hN:X.N.Nodup)(hi:X.N[i]? =some x)(hx:mW X.env.scope x)(r:aR v u)
  (h:∀s',aA X pins (σ.set i (some v)) H s'->(∃a,Heap.SameBut a s.heap s'.heap/\(a=X.env.locals\/X.env.cells.lookup x=some a))->Q () s') (hf:X.fn x=true\/X.env.scope.names.lookup x=some .local:=by first|exact .inl rfl|exact .inr rfl|assumption):wpAny M A (storeName X.env x u) Q E s:=by
 obtain⟨m,hn,hl⟩:=id I.loc
 have hcls:(X.env.scope.kind == .class || (X.env.scope.kind == .module && X.env.locals != X.env.globals))=false:=by rw[I.ok.kind];rfl
 have hiσ :i<σ.length:=by rw[I.len];exact(List.getElem?_eq_some_iff.mp hi).1
 have cne:=I.cne
 have tracked:∀{a:Addr} {h':Heap},(∃o,s.heap.get? a=some o/\H a=none)->Heap.SameBut a s.heap h'->gz X.prog X.w H h':=fun {a h'} ha hs b ob e=>by
  obtain⟨_,_,hfree⟩:=ha
  refine(I.hok b ob e).stay (fun c w' hc q=>(hs.2 c ?_).trans q) (fun _ q=>q) (fun _ _ q=>q) fun _ _ _ q=>q
  rintro rfl
  rcases hc with rfl|hc
  ·rw[hfree]at e;cases e
  ·rw[hfree]at hc;cases hc
 rcases hx with hk|hk
 ·refine wpAny_storeName_local hk hn (fun h' hn' hs=> ?_) hcls
  obtain⟨oL,_,_,hoL,_⟩:=id hn
  refine h _ ⟨I.ok,I.os,I.bare,⟨fun b o e n hb hx=> ?_,fun b o e n hb hx=> ?_,I.base.free,fun b o e hx=> ?_,I.base.tups,I.base.frzs,I.base.tbls⟩,⟨_,hn',fun j y v' e1 e2 e3=> ?_⟩,fun y c e=> ?_,I.free,I.freeC,fun p hp=> ?_,tracked ⟨oL,hoL,I.free⟩ hs,by simpa using I.len⟩ ⟨_,hs,.inl rfl⟩
  ·exact(hs.2 b (Nat.ne_of_lt (Nat.lt_of_lt_of_le (Heap.lt_size e) I.ok.above))).trans (I.base.keep b o e n hb hx)
  ·obtain⟨sl,e1⟩:=I.base.slot b o e n hb hx
   exact⟨sl,(hs.2 b (Nat.ne_of_lt (Nat.lt_of_lt_of_le (Heap.lt_size e) I.ok.above))).trans e1⟩
  ·obtain⟨o',e1⟩:=I.base.there b o e hx
   exact⟨o',(hs.2 b (Nat.ne_of_lt (Nat.lt_of_lt_of_le (Heap.lt_size e) I.ok.above))).trans e1⟩
  ·by_cases hj:j=i
   ·subst hj
    rw[hi]at e1;cases e1
    rw[List.getElem?_set_self hiσ]at e2
    cases e2
    exact⟨u,r,.inl ⟨hk,by simp⟩⟩
   ·rw[List.getElem?_set_ne (Ne.symm hj)]at e2
    obtain⟨u',r',q⟩:=hl j y v' e1 e2 e3
    refine⟨u',r',?_⟩
    rcases q with⟨k,e⟩|⟨k,c,e,z⟩
    ·refine .inl ⟨k,?_⟩
     have:y≠x:=fun e=>hj (mX hN e1 (e ▸ hi))
     simp[this,e]
    ·exact .inr ⟨k,c,e,z.sameBut hs (cne y c e)⟩
  ·obtain⟨w',z⟩:=I.cell y c e
   exact⟨w',z.sameBut hs (cne y c e)⟩
  ·obtain⟨e,n,ne,nf,d⟩:=I.pin p hp
   exact⟨(hs.2 p.1 ne).trans e,n,ne,nf,d⟩
 ·have hfn:X.fn x=true:=by
   rcases hf with z|z
   ·exact z
   ·rw[z]at hk;cases hk
  obtain⟨c,hc⟩:=I.ok.has x (.inl hk)
  obtain⟨w',z⟩:=I.cell x c hc
  refine wpAny_storeName_cell I.ok.kind hk hc z (fun h' hc' hs=> ?_)
  obtain⟨oc,hoc,hocd⟩:=id z
  have hcf:H c=none:=by
   rcases I.freeC x c hc with q|⟨q,_⟩
   ·exact q
   ·rw[hfn]at q;cases q
  refine h { s with heap:=h' } ⟨I.ok,I.os,I.bare,⟨fun b o e n hb hx=> ?_,fun b o e n hb hx=> ?_,I.base.free,fun b o e hx=> ?_,I.base.tups,I.base.frzs,I.base.tbls⟩,⟨m,hn.sameBut hs (Ne.symm (cne x c hc)),fun j y v' e1 e2 e3=> ?_⟩,fun y c' e=> ?_,I.free,I.freeC,fun p hp=> ?_,tracked ⟨oc,hoc,hcf⟩ hs,by simpa using I.len⟩ ⟨c,hs,.inr hc⟩
  ·exact(hs.2 b (Nat.ne_of_lt (Nat.lt_of_lt_of_le (Heap.lt_size e) (I.ok.cab x c (I.ok.fc x hfn) hc)))).trans (I.base.keep b o e n hb hx)
  ·obtain⟨sl,e1⟩:=I.base.slot b o e n hb hx
   exact⟨sl,(hs.2 b (Nat.ne_of_lt (Nat.lt_of_lt_of_le (Heap.lt_size e) (I.ok.cab x c (I.ok.fc x hfn) hc)))).trans e1⟩
  ·obtain⟨o',e1⟩:=I.base.there b o e hx
   exact⟨o',(hs.2 b (Nat.ne_of_lt (Nat.lt_of_lt_of_le (Heap.lt_size e) (I.ok.cab x c (I.ok.fc x hfn) hc)))).trans e1⟩
  ·by_cases hj:j=i
   ·subst hj
    rw[hi]at e1;cases e1
    rw[List.getElem?_set_self hiσ]at e2
    cases e2
    exact⟨u,r,.inr ⟨.inl hk,c,hc,hc'⟩⟩
   ·rw[List.getElem?_set_ne (Ne.symm hj)]at e2
    obtain⟨u',r',q⟩:=hl j y v' e1 e2 e3
    refine⟨u',r',?_⟩
    rcases q with q|⟨k,c',e,z'⟩
    ·exact .inl q
    ·refine .inr ⟨k,c',e,z'.sameBut hs ?_⟩
     rintro rfl
     exact hj (mX hN e1 (I.ok.inj _ _ _ e hc ▸ hi))
  ·by_cases hcc:c'=c
   ·subst hcc;exact⟨_,hc'⟩
   ·obtain⟨w2,z2⟩:=I.cell y c' e
    exact⟨w2,z2.sameBut hs hcc⟩
  ·obtain⟨e,n,ne,nf,d⟩:=I.pin p hp
   refine⟨(hs.2 p.1 ?_).trans e,n,ne,nf,d⟩
   intro q
   rw[q,hoc]at e
   have q':oc=p.2:=Option.some.inj e
   exact d w' (by rw[<-q'];exact hocd)
theorem gU{M:Model}{A:Around}{E:Value->Shared->Prop}{i:Nat}{x:Str}{v:V}{u:Value}{Q:Unit->Shared->Prop}(I:aA X pins σ H s)(hN:X.N.Nodup)(hi:X.N[i]? =some x)(hx:mW X.env.scope x)(r:aR v u)
  (h:∀s',aA X pins (σ.set i (some v)) H s'->Q () s') (hf:X.fn x=true\/X.env.scope.names.lookup x=some .local:=by first|exact .inl rfl|exact .inr rfl|assumption):wpAny M A (storeName X.env x u) Q E s :=
 kM I hN hi hx r (fun s' I' _=>h s' I') hf
end
abbrev XK:=Value->Option Addr->Hp->Prop
abbrev St:=List (Option V)
abbrev VK:=V->Hp->Prop
abbrev TE:=St->Hp->VK->Prop
abbrev TT:=St->Hp->(Bool->Hp->Prop)->Prop
abbrev TA:=St->Hp->(List V->Hp->Prop)->Prop
structure mY where
 nx:St->Hp->Prop
 rt:VK
 bk:St->Hp->Prop:=fun _ _=>False
 ct:St->Hp->Prop:=fun _ _=>False
abbrev TS:=mY->St->Hp->Prop
structure Fin(X:Cx)(H:Hp)(s:Shared):Prop where
 os:s.os=X.s₀.os
 bare:AllBare s.gens
 base:Un X.fs X.ex X.H₀ H X.s₀.heap s.heap
 hok:gz X.prog X.w H s.heap
theorem aA.fin{X:Cx}{pins:List (Addr×Obj)}{σ :St}{H:Hp}{s:Shared}(I:aA X pins σ H s):Fin X H s:=⟨I.os,I.bare,I.base,I.hok⟩
def EP(X:Cx)(pins:List (Addr×Obj))(σ :St)(Q:VK)(u:Value)(s':Shared):Prop:=∃v H',aA X pins σ H' s'/\aR v u/\Q v H'
def TP(X:Cx)(pins:List (Addr×Obj))(σ :St)(Q:Bool->Hp->Prop)(b:Bool)(s':Shared):Prop:=∃H',aA X pins σ H' s'/\Q b H'
def AP(X:Cx)(pins:List (Addr×Obj))(σ :St)(Q:List V->Hp->Prop)(us:List Value)(s':Shared):Prop:=∃vs H',aA X pins σ H' s'/\aM vs us/\Q vs H'
def SP(X:Cx)(pins:List (Addr×Obj))(D:mY)(f:Flow)(s':Shared):Prop :=
 match f with
 |.next=>∃σ' H',aA X pins σ' H' s'/\D.nx σ' H'
 |.brk=>∃σ' H',aA X pins σ' H' s'/\D.bk σ' H'
 |.cont=>∃σ' H',aA X pins σ' H' s'/\D.ct σ' H'
 |.ret u=>∃v H',Fin X H' s'/\aR v u/\D.rt v H'
def PE(X:Cx)(e:Expr)(t:TE):Prop :=
 ∀(pins:List (Addr×Obj)) (s:Shared) (σ :St) (H:Hp) (Q:VK),aA X pins σ H s->t σ H Q->wpAny .(E) X.A (eval e X.env) (EP X pins σ Q) X.xe s
def PT(X:Cx)(e:Expr)(t:TT):Prop :=
 ∀(pins:List (Addr×Obj)) (s:Shared) (σ :St) (H:Hp) (Q:Bool->Hp->Prop),aA X pins σ H s->t σ H Q->wpAny .(E) X.A (isTrue e X.env (eval e X.env)) (TP X pins σ Q) X.xe s
def PW(X:Cx)(e:Expr)(t:TT):Prop :=
 ∀(whole:Sem Value) (pins:List (Addr×Obj)) (s:Shared) (σ :St) (H:Hp) (Q:Bool->Hp->Prop),aA X pins σ H s->t σ H Q->wpAny .(E) X.A (isTrue e X.env whole) (TP X pins σ Q) X.xe s
theorem PW.pt{X:Cx}{e:Expr}{t:TT}(h:PW X e t):PT X e t:=h _
def PA(X:Cx)(es:List Expr)(t:TA):Prop :=
 ∀(pos:Pos) (pins:List (Addr×Obj)) (s:Shared) (σ :St) (H:Hp) (Q:List V->Hp->Prop),aA X pins σ H s->t σ H Q->wpAny .(E) X.A (spliced .(V)) (AP X pins σ Q) X.xe s
def PS(X:Cx)(st:Stmt)(t:TS):Prop :=
 ∀(pins:List (Addr×Obj)) (s:Shared) (σ :St) (H:Hp) (D:mY),aA X pins σ H s->t D σ H->wpAny .(E) X.A (exec st X.env) (SP X pins D) X.xe s
def mZ(X:Cx)(st:List Stmt)(t:TS):Prop :=
 ∀(pins:List (Addr×Obj)) (s:Shared) (σ :St) (H:Hp) (D:mY),aA X pins σ H s->t D σ H->wpAny .(E) X.A (execs st X.env) (SP X pins D) X.xe s
theorem bC{α :Type}{t:Sem α}{Q Q': α ->Shared->Prop}{M:Model}{A:Around}{E:Value->Shared->Prop}{s:Shared}(h:wpAny M A t Q E s)(hQ:∀a s,Q a s->Q' a s):wpAny M A t Q' E s:=wpAny_mono h hQ fun _ _ x=>x
end L2
namespace L2
open PySem PySem.Spec PyProof.Rows
noncomputable section
variable{X:Cx}
def CZ(i:Nat):TE:=fun σ H Q=>∃v, σ[i]? =some (some v)/\Q v H
def tC(v:V):TE:=fun _ H Q=>Q v H
theorem bh{i:Nat}{x:Str}{pos:Pos}(hN:X.N[i]? =some x)(hv:lF X.env.scope x)(hd:(x == .(L))=false:=by decide)(hcd:(x == .(Z))=false:=by decide):PE X (.Name x pos) (CZ i):=by
 intro pins s σ H Q I h
 obtain⟨v,e,h⟩:=h
 obtain⟨m,hn,hl⟩:=I.loc
 obtain⟨u,r,l⟩:=hl i x v hN e hv
 have fin:EP X pins σ Q u s:=⟨v,H,I,r,h⟩
 rcases l with⟨hk,hm⟩|⟨hk,c,hc,hcell⟩
 ·exact wpAny_Name (wpAny_loadName_local I.ok.kind hk hn hm fin) hd
 ·rcases hk with hk|hk
  ·exact wpAny_Name (wpAny_loadName_cell I.ok.kind hk hc hcell fin) hd
  ·exact wpAny_Name (wpAny_loadName_free I.ok.kind hk hc hcell fin hcd) hd
theorem zY{i j pos}:PE X (.Constant (.int i) j pos) (tC (.int i)):=fun _ _ _ H _ I h=>wpAny_Constant_int ⟨.int i,H,I.tok _,⟨_,rfl⟩,h⟩
theorem Da{b j pos}:PE X (.Constant (.bool b) j pos) (tC (.bl b)):=fun _ _ _ H _ I h=>Constant_bool ⟨.bl b,H,I,rfl,h⟩
theorem zZ{j pos}:PE X (.Constant .none j pos) (tC .non):=fun _ _ _ H _ I h=>Constant_none ⟨.non,H,I,rfl,h⟩
theorem A3{x j pos}:PE X (.Constant (.str x) j pos) (tC (.str x)):=fun _ _ _ H _ I h=>Calls.Constant_str ⟨.str x,H,I.tok _,⟨_,rfl⟩,h⟩
def Gl(X:Cx)(x:Str):Prop:=X.env.kindOf x=some .globalImplicit
theorem gW{E:Value->Shared->Prop}{pins:List (Addr×Obj)}{s:Shared}{σ :St}{H:Hp}{x:Str}{u:Value}{pos:Pos}{Q:Value->Shared->Prop}(I:aA X pins σ H s)(hg:Gl X x)(hm:X.mg x=some u)(h:Q u s)
  (hd:(x == .(L))=false:=by decide):wpAny .(E) X.A (eval (.Name x pos) X.env) Q E s :=
 Calls.Name_function_global I.ok.kind hg (Calls.loadGlobal_global (by rw[I.ok.glob];exact I.mod.glob.keeps I.bk) hm h) hd
theorem iG{E:Value->Shared->Prop}{pins:List (Addr×Obj)}{s:Shared}{σ :St}{H:Hp}{x:Str}{u:Value}{pos:Pos}{Q:Value->Shared->Prop}(I:aA X pins σ H s)(hg:Gl X x)(hm:X.mg x=none)(hv:bootBuiltins x=some u)(h:Q u s)
  (hn:x ≠ "__name__":=by decide) (hd:(x == .(L))=false:=by decide):wpAny .(E) X.A (eval (.Name x pos) X.env) Q E s:=by
 obtain⟨mb,h1,h2⟩:=I.mod.blt
 exact Calls.Name_function_global I.ok.kind hg (Calls.loadGlobal_builtin (by rw[I.ok.glob];exact I.mod.glob.keeps I.bk) hm (by rw[I.ok.blt];exact h1.keeps I.bk) ((h2 x hn).trans hv) h) hd
theorem lG{x:Str}{v:V}{u:Value}{pos:Pos}(hg:Gl X x)(hm:X.mg x=some u)(r:aR v u)(hd:(x == .(L))=false:=by decide):PE X (.Name x pos) (tC v) :=
 fun _ _ _ H _ I h=>gW I hg hm ⟨v,H,I,r,h⟩ hd
theorem xz{x:Str}{v:V}{u:Value}{pos:Pos}(hg:Gl X x)(hm:X.mg x=none)(hv:bootBuiltins x=some u)(r:aR v u)(hn:x ≠ "__name__":=by decide)(hd:(x == .(L))=false:=by decide):PE X (.Name x pos) (tC v) :=
 fun _ _ _ H _ I h=>iG I hg hm hv ⟨v,H,I,r,h⟩ hn hd
variable{a b:Expr}{ta tb:TE}{pos:Pos}
def PC(X:Cx)(op:CmpOp)(a b:Expr)(t:TE):Prop :=
 ∀(pins:List (Addr×Obj)) (s:Shared) (σ :St) (H:Hp) (Q:VK),aA X pins σ H s->t σ H Q ->
  wpAny .(E) X.A (eval a X.env) (fun v s₁=>wpAny .(E) X.A (eval b X.env) (fun u s₂=>wpAny .(E) X.A (compareOp op v u) (EP X pins σ Q) X.xe s₂) X.xe s₁) X.xe s
theorem tZ(b:Expr){op:CmpOp}(h:op ≠ .In)(h2:op ≠ .NotIn):behindInMarks op b=false:=by
 have e1:(op == CmpOp.In)=false:=by cases op <;> first|rfl|exact absurd rfl h
 have e2:(op == CmpOp.NotIn)=false:=by cases op <;> first|rfl|exact absurd rfl h2
 cases b <;> simp[behindInMarks,e1,e2]
def Db(ta:TE):TE:=fun σ H Q=>ta σ H fun x H1=>Q (.bl (!decide (x= .non))) H1
theorem aR.none_iff{x:V}{v:Value}(r:aR x v):(v == Value.none)=decide (x= .non):=by
 cases x with
 |non=>cases r;rfl
 |bl _=>cases r;rfl
 |int _=>obtain⟨t,rfl⟩:=r;rfl
 |str _=>obtain⟨t,rfl⟩:=r;rfl
 |byt _=>obtain⟨t,rfl⟩:=r;rfl
 |flt _=>obtain⟨t,rfl⟩:=r;rfl
 |ref _=>cases r;rfl
 |ty _=>cases r;rfl
theorem xA{j pos'}(ha:PE X a ta):PC X .IsNot a (.Constant .none j pos') (Db ta):=by
 intro pins s σ H Q I h
 refine bC (ha pins s σ H _ I h) fun v s1 ⟨x,H1,I1,r1,q1⟩=> ?_
 exact Constant_none (isnot_none_gen ⟨.bl _,H1,I1,by rw[r1.none_iff];rfl,q1⟩)
def tB(t:TE):TT:=fun σ H Q=>t σ H fun x H1=>∃c,x= .bl c/\Q c H1
theorem A4{op:CmpOp}{t:TE}(h:PC X op a b t)(h1:behindInMarks op b=false:=by first|exact tZ _ (by decide) (by decide)|rfl):PT X (.Compare a [op] [b] pos) (tB t):=by
 intro pins s σ H Q I hw
 refine wpAny_isTrue_Compare1 (bC (h pins s σ H _ I hw) fun v s1 h1=>bC h1 fun u s2 h2=>bC h2 fun c s3 ⟨x,H1,I1,r1,q1⟩=> ?_) h1
 obtain⟨d,rfl,q⟩:=q1
 cases r1
 exact wpAny_truthy_bool ⟨H1,I1,q⟩
theorem A5{e:Expr}{t:TE}(h:PE X e t)(he:∀whole,isTrue e X.env whole=(do let v <- whole;standAt e.pos;holding [v] (truthy v)):=by intro _;rfl):PT X e (tB t):=by
 intro pins s σ H Q I hw
 refine isTrue_plain (bC (h pins s σ H _ I hw) fun v s1 ⟨x,H1,I1,r1,q1⟩=> ?_) (he _)
 obtain⟨d,rfl,q⟩:=q1
 cases r1
 exact wpAny_truthy_bool ⟨H1,I1,q⟩
variable{tA tB':TT}{rest:List Expr}
def Dc(t u:TT):TT:=fun σ H Q=>t σ H fun c H1=>if c=true then u σ H1 Q else Q false H1
def JK(t u:TT):TT:=fun σ H Q=>t σ H fun c H1=>if c=true then Q true H1 else u σ H1 Q
def GO(t:TT):TT:=fun σ H Q=>t σ H fun c H1=>Q (!c) H1
theorem xB(ha:PT X a tA):PW X (.BoolOp .And [a] pos) tA:=by
 intro wh pins s σ H Q I h
 refine isTrue_and (bC (ha pins s σ H Q I h) fun c s1 e=> ?_)
 cases c with
 |true=>exact isTrue_and_nil e
 |false=>exact e
theorem A6(ha:PT X a tA):PW X (.BoolOp .Or [a] pos) tA:=by
 intro wh pins s σ H Q I h
 refine isTrue_or (bC (ha pins s σ H Q I h) fun c s1 e=> ?_)
 cases c with
 |false=>exact isTrue_or_nil e
 |true=>exact e
theorem A7(ha:PT X a tA)(hb:PW X (.BoolOp .And (b::rest) pos) tB'):PW X (.BoolOp .And (a::b::rest) pos) (Dc tA tB'):=by
 intro wh pins s σ H Q I h
 refine isTrue_and (bC (ha pins s σ H _ I h) fun c s1 ⟨H1,I1,q1⟩=> ?_)
 cases c with
 |true=>exact hb wh pins s1 σ H1 Q I1 q1
 |false=>exact⟨H1,I1,q1⟩
theorem Dd(ha:PT X a tA)(hb:PW X (.BoolOp .Or (b::rest) pos) tB'):PW X (.BoolOp .Or (a::b::rest) pos) (JK tA tB'):=by
 intro wh pins s σ H Q I h
 refine isTrue_or (bC (ha pins s σ H _ I h) fun c s1 ⟨H1,I1,q1⟩=> ?_)
 cases c with
 |true=>exact⟨H1,I1,q1⟩
 |false=>exact hb wh pins s1 σ H1 Q I1 q1
theorem A8(ha:PT X a tA):PT X (.UnaryOp .Not a pos) (GO tA):=by
 intro pins s σ H Q I h
 exact isTrue_not (ha pins s σ H (fun c H1=>Q (!c) H1) I h)
def De(ta tb:TE):TE:=fun σ H Q=>ta σ H fun x H1=>∃c,x= .bl c/\if c=true then tb σ H1 Q else Q (.bl false) H1
def GP(ta tb:TE):TE:=fun σ H Q=>ta σ H fun x H1=>∃c,x= .bl c/\if c=true then Q (.bl true) H1 else tb σ H1 Q
def Df(ta:TE):TE:=fun σ H Q=>ta σ H fun x H1=>∃c,x= .bl c/\Q (.bl (!c)) H1
theorem A9{op}{t:TE}(h:PE X a t):PE X (.BoolOp op [a] pos) t:=fun pins s σ H Q I hw=>BoolOp_one (h pins s σ H Q I hw)
theorem Aa(ha:PE X a ta)(hb:PE X (.BoolOp .And (b::rest) pos) tb):PE X (.BoolOp .And (a::b::rest) pos) (De ta tb):=by
 intro pins s σ H Q I h
 refine BoolOp_and (bC (ha pins s σ H _ I h) fun v s1 ⟨x,H1,I1,r1,q1⟩=> ?_)
 obtain⟨c,rfl,q1⟩:=q1
 cases r1
 refine wpAny_truthy_bool ?_
 cases c with
 |true=>exact hb pins s1 σ H1 Q I1 q1
 |false=>exact⟨.bl false,H1,I1,rfl,q1⟩
theorem Dg(ha:PE X a ta)(hb:PE X (.BoolOp .Or (b::rest) pos) tb):PE X (.BoolOp .Or (a::b::rest) pos) (GP ta tb):=by
 intro pins s σ H Q I h
 refine BoolOp_or (bC (ha pins s σ H _ I h) fun v s1 ⟨x,H1,I1,r1,q1⟩=> ?_)
 obtain⟨c,rfl,q1⟩:=q1
 cases r1
 refine wpAny_truthy_bool ?_
 cases c with
 |false=>exact hb pins s1 σ H1 Q I1 q1
 |true=>exact⟨.bl true,H1,I1,rfl,q1⟩
theorem Ab(ha:PE X a ta):PE X (.UnaryOp .Not a pos) (Df ta):=by
 intro pins s σ H Q I h
 refine UnaryOp_ (bC (ha pins s σ H _ I h) fun v s1 ⟨x,H1,I1,r1,q1⟩=> ?_)
 obtain⟨c,rfl,q1⟩:=q1
 cases r1
 exact not_of (wpAny_truthy_bool ⟨.bl (!c),H1,I1,rfl,q1⟩)
def KD(t:TT)(ta tb:TE):TE:=fun σ H Q=>t σ H fun c H1=>if c=true then ta σ H1 Q else tb σ H1 Q
theorem u0{c:Expr}(hc:PT X c tA)(ha:PE X a ta)(hb:PE X b tb):PE X (.IfExp c a b pos) (KD tA ta tb):=by
 intro pins s σ H Q I h
 refine wpAny_IfExp (bC (hc pins s σ H _ I h) fun d s1 ⟨H1,I1,q1⟩=> ?_)
 cases d with
 |true=>exact ha pins s1 σ H1 Q I1 q1
 |false=>exact hb pins s1 σ H1 Q I1 q1
end
end L2
namespace L2
open PySem PySem.Spec PyProof.Rows
def eI(K:Fg)(H:Hp)(a:Addr)(xs:List V):Prop :=
 Rd H a (.lst xs) \/
  ∃(o:Obj) (its:Array Value) (n:Nat),K.lookup a=some o/\o.cls= .type "list"/\o.dict=none/\o.data= .seq its n/\its.size<=sizeLine/\aM xs its.toList
def gA(K:Fg)(H:Hp)(a:Addr)(xs:List V):Prop :=
 Rd H a (.tup xs) \/
  ∃(o:Obj) (its:Array Value) (n:Nat),K.lookup a=some o/\o.cls= .type "tuple"/\o.data= .seq its n/\its.size<=sizeLine/\aM xs its.toList
noncomputable def GQ:Value->Option V
 |.none=>some .non
 |.bool b=>some (.bl b)
 |.int i _=>some (.int i)
 |.str x _=>some (.str x)
 |.bytes b _=>some (.byt b)
 |.float b _=>some (.flt b)
 |.ref a=>some (.ref a)
 |.type n=>some (.ty n)
 |_=>none
theorem aR.abs{x:V}{u:Value}(r:aR x u):GQ u=some x:=by
 cases x with
 |non=>cases r;rfl
 |bl _=>cases r;rfl
 |int _=>obtain⟨t,rfl⟩:=r;rfl
 |str _=>obtain⟨t,rfl⟩:=r;rfl
 |byt _=>obtain⟨t,rfl⟩:=r;rfl
 |flt _=>obtain⟨t,rfl⟩:=r;rfl
 |ref _=>cases r;rfl
 |ty _=>cases r;rfl
theorem aR.inj{x y:V}{u:Value}(r:aR x u)(q:aR y u):x=y:=Option.some.inj (r.abs.symm.trans q.abs)
theorem aM.inj:∀{xs ys:List V} {us:List Value},aM xs us->aM ys us->xs=ys
 |_,_,_,.nil,.nil=>rfl
 |_,_,_,.cons r t,.cons r' t'=>by rw[r.inj r',aM.inj t t']
noncomputable section
variable{X:Cx}{pins:List (Addr×Obj)}{σ :St}{H:Hp}{s:Shared}{a:Addr}{xs ys:List V}
theorem eI.of{K:Fg}(h:H a=some (.lst xs)):eI K H a xs:= .inl (.inl h)
theorem gA.of{K:Fg}(h:H a=some (.tup xs)):gA K H a xs:= .inl (.inl h)
theorem aA.list(I:aA X pins σ H s)(h:eI X.K H a xs):∃its:List Value,aM xs its/\PlainL s.heap a its.toArray/\xs.length<=sizeLine:=by
 rcases h with h|⟨o,its,n,hk,hc,hd,hs,hz,r⟩
 ·obtain⟨z,its,n,r,e⟩:=h.ok I.hok
  exact⟨its,r,⟨_,n,e,rfl,rfl,rfl⟩,z⟩
 ·refine⟨its.toList,r,⟨o,n,I.kIn a o hk,hc,hd,by simpa using hs⟩,?_⟩
  have e:=r.length
  simp only[Array.length_toList]at e
  omega
theorem aA.tuple(I:aA X pins σ H s)(h:gA X.K H a xs):∃its:List Value,aM xs its/\IsTup s.heap a its.toArray/\xs.length<=sizeLine:=by
 rcases h with h|⟨o,its,n,hk,hc,hs,hz,r⟩
 ·obtain⟨z,its,r,p⟩:=h.ok I.hok
  exact⟨its,r,p,z⟩
 ·refine⟨its.toList,r,⟨o,I.kIn a o hk,hc,n,by simpa using hs⟩,?_⟩
  have e:=r.length
  simp only[Array.length_toList]at e
  omega
theorem aA.list_inj(I:aA X pins σ H s)(h:eI X.K H a xs)(h':eI X.K H a ys):xs=ys:=by
 obtain⟨its,r,⟨o,n,e,_,_,d⟩,_⟩:=I.list h
 obtain⟨its',r',⟨o',n',e',_,_,d'⟩,_⟩:=I.list h'
 rw[e]at e';cases e'
 rw[d]at d'
 injection d' with d1 _
 have:its=its':=by simpa using congrArg Array.toList d1
 subst this
 exact r.inj r'
theorem aA.tuple_inj(I:aA X pins σ H s)(h:gA X.K H a xs)(h':gA X.K H a ys):xs=ys:=by
 obtain⟨its,r,⟨o,e,_,n,d⟩,_⟩:=I.tuple h
 obtain⟨its',r',⟨o',e',_,n',d'⟩,_⟩:=I.tuple h'
 rw[e]at e';cases e'
 rw[d]at d'
 injection d' with d1 _
 have:its=its':=by simpa using congrArg Array.toList d1
 subst this
 exact r.inj r'
end
abbrev Cx.wish(X:Cx)(E:Value->Shared->Prop):Cx:={ X with xe:=E }
abbrev Cx.nox(X:Cx):Cx:=X.wish fun _ _=>False
theorem Cx.Ok.wish{X:Cx}(ok:X.Ok)(E:Value->Shared->Prop):(X.wish E).Ok :=
 ⟨ok.mod,ok.kind,ok.glob,ok.blt,ok.above,ok.inj,ok.has,ok.cab,ok.hd,ok.frames,ok.stk,ok.exf,ok.bs,ok.bsz,ok.noex,ok.exfs,ok.funs,ok.frf,ok.tab,ok.fc⟩
theorem Cx.Ok.unwish{X:Cx}{E:Value->Shared->Prop}(ok:(X.wish E).Ok):X.Ok :=
 ⟨ok.mod,ok.kind,ok.glob,ok.blt,ok.above,ok.inj,ok.has,ok.cab,ok.hd,ok.frames,ok.stk,ok.exf,ok.bs,ok.bsz,ok.noex,ok.exfs,ok.funs,ok.frf,ok.tab,ok.fc⟩
noncomputable section
variable{X:Cx}{pins:List (Addr×Obj)}{σ :St}{H:Hp}{s:Shared}{E:Value->Shared->Prop}
theorem aA.wish(I:aA X pins σ H s)(E:Value->Shared->Prop):aA (X.wish E) pins σ H s:=⟨I.ok.wish E,I.os,I.bare,I.base,I.loc,I.cell,I.free,I.freeC,I.pin,I.hok,I.len⟩
theorem aA.unwish(I:aA (X.wish E) pins σ H s):aA X pins σ H s:=⟨I.ok.unwish,I.os,I.bare,I.base,I.loc,I.cell,I.free,I.freeC,I.pin,I.hok,I.len⟩
theorem SP.unwish{D:mY}{f:Flow}{s':Shared}(h:SP (X.wish E) pins D f s'):SP X pins D f s':=by
 cases f with
 |next=>obtain⟨σ',H',I,q⟩:=h;exact⟨σ',H',I.unwish,q⟩
 |brk=>obtain⟨σ',H',I,q⟩:=h;exact⟨σ',H',I.unwish,q⟩
 |cont=>obtain⟨σ',H',I,q⟩:=h;exact⟨σ',H',I.unwish,q⟩
 |ret u=>obtain⟨v,H',I,r,q⟩:=h;exact⟨v,H',⟨I.os,I.bare,I.base,I.hok⟩,r,q⟩
theorem mZ.nox{st:List Stmt}{t:TS}(h:mZ X.nox st t):mZ X st t:=fun pins s σ H D I hw =>
 wpAny_mono (h pins s σ H D (I.wish _) hw) (fun _ _ q=>q.unwish) fun _ _ z=>False.elim z
end
noncomputable section
variable{X:Cx}{st:Stmt}{rest:List Stmt}{t u:TS}{e:Expr}{te:TE}{pos:Pos}
def Dh:TS:=fun D σ H=>D.nx σ H
def GR(t u:TS):TS:=fun D σ H=>t { D with nx:=u D } σ H
theorem xC:mZ X [] Dh:=fun _ _ σ H _ I h=>wpAny_execs_nil ⟨σ,H,I,h⟩
theorem dY(h1:PS X st t)(h2:mZ X rest u):mZ X (st::rest) (GR t u):=by
 intro pins s σ H D I h
 refine wpAny_execs_cons (bC (h1 pins s σ H { D with nx:=u D } I h) fun f s1 q=> ?_)
 cases f with
 |next =>
  obtain⟨σ',H',I',q⟩:=q
  exact h2 pins s1 σ' H' D I' q
 |ret v=>exact q
 |brk=>exact q
 |cont=>exact q
theorem gX(h1:PS X st t):mZ X [st] t:=by
 intro pins s σ H D I h
 refine wpAny_execs_cons (bC (h1 pins s σ H D I h) fun f s1 q=> ?_)
 cases f with
 |next=>exact wpAny_execs_nil q
 |ret v=>exact q
 |brk=>exact q
 |cont=>exact q
theorem aA.quiet{pins:List (Addr×Obj)}{σ :St}{H:Hp}{s:Shared}(I:aA X pins σ H s):interactive X.env=false:=by simp[interactive,I.ok.kind]
def Di(te:TE):TS:=fun D σ H=>te σ H fun _ H1=>D.nx σ H1
theorem xD(he:PE X e te)(hs:swapsWith e none pos.line X.env=pure false:=by rfl):PS X (.Expr e pos) (Di te):=by
 intro pins s σ H D I h
 exact wpAny_Expr_any (bC (he pins s σ H _ I h) fun v s1 ⟨x,H1,I1,r1,q1⟩=>⟨σ,H1,I1,q1⟩) I.quiet hs
def GS(te:TE):TS:=fun D σ H=>te σ H D.rt
theorem u1(he:PE X e te):PS X (.Return (some e) pos) (GS te):=by
 intro pins s σ H D I h
 exact wpAny_Return_some (bC (he pins s σ H _ I h) fun v s1 ⟨x,H1,I1,r1,q1⟩=>⟨x,H1,I1.fin,r1,q1⟩)
def GT(c:TT)(t u:TS):TS:=fun D σ H=>c σ H fun b H1=>if b=true then t D σ H1 else u D σ H1
theorem Dj{c:Expr}{a b:List Stmt}{tc:TT}(hc:PT X c tc)(ha:mZ X a t)(hb:mZ X b u):PS X (.If c a b pos) (GT tc t u):=by
 intro pins s σ H D I h
 refine wpAny_If (bC (hc pins s σ H _ I h) fun d s1 ⟨H1,I1,q1⟩=> ?_)
 cases d with
 |true=>exact ha pins s1 σ H1 D I1 q1
 |false=>exact hb pins s1 σ H1 D I1 q1
end
abbrev TG:=V->St->Hp->(St->Hp->Prop)->Prop
abbrev xE:=List V->St->Hp->(St->Hp->Prop)->Prop
def PG(X:Cx)(target:Expr)(t:TG):Prop :=
 ∀(pins:List (Addr×Obj)) (s:Shared) (σ :St) (H:Hp) (v:V) (u:Value) (Q:St->Hp->Prop),aA X pins σ H s->aR v u->t v σ H Q ->
  wpAny .(E) X.A (assign target X.env u) (fun _ s'=>∃σ' H',aA X pins σ' H' s'/\Q σ' H') X.xe s
def Ac(X:Cx)(ts:List Expr)(t:xE):Prop :=
 ∀(pins:List (Addr×Obj)) (s:Shared) (σ :St) (H:Hp) (vs:List V) (us:List Value) (Q:St->Hp->Prop),aA X pins σ H s->aM vs us->t vs σ H Q ->
  wpAny .(E) X.A (assignInOrder ((assignEach ts X.env).map (·.2)) us) (fun _ s'=>∃σ' H',aA X pins σ' H' s'/\Q σ' H') X.xe s
abbrev Ad:=V->V->V->Hp->(Hp->Prop)->Prop
def Dk(X:Cx)(t:Ad):Prop :=
 ∀(pins:List (Addr×Obj)) (s:Shared) (σ :St) (H:Hp) (o i v:V) (ov iv u:Value) (Q:Hp->Prop),aA X pins σ H s->aR o ov->aR i iv->aR v u->t o i v H Q ->
  wpAny .(E) X.A (setItem ov iv u) (fun _ s'=>∃H',aA X pins σ H' s'/\Q H') X.xe s
abbrev G5:=V->V->Hp->VK->Prop
def Dl(X:Cx)(op:Operator)(t:G5):Prop :=
 ∀(pins:List (Addr×Obj)) (s:Shared) (σ :St) (H:Hp) (x y:V) (v u:Value) (Q:VK),aA X pins σ H s->aR x v->aR y u->t x y H Q ->
  wpAny .(E) X.A (inplaceOp op v u) (EP X pins σ Q) X.xe s
noncomputable section
variable{X:Cx}{pos:Pos}
def zj(i:Nat):TG:=fun v σ H Q=>Q (σ.set i (some v)) H
theorem xF{i:Nat}{x:Str}(hN:X.N.Nodup)(hi:X.N[i]? =some x)(hx:mW X.env.scope x)(hf:X.fn x=true\/X.env.scope.names.lookup x=some .local:=by first|exact .inl rfl|exact .inr rfl|assumption):PG X (.Name x pos) (zj i):=by
 intro pins s σ H v u Q I r h
 exact wpAny_assign_Name (gU I hN hi hx r (fun s' I'=>⟨_,H,I',h⟩) hf)
def GU:xE:=fun vs σ H Q=>vs=[]/\Q σ H
def Dm(t:TG)(u:xE):xE:=fun vs σ H Q=>∃v r,vs=v::r/\t v σ H fun σ' H'=>u r σ' H' Q
theorem xG:Ac X [] GU:=by
 intro pins s σ H vs us Q I r h
 obtain⟨e,h⟩:=h
 subst e
 cases r
 exact assignInOrder_nil ⟨σ,H,I,h⟩
theorem u3{e:Expr}{es:List Expr}{t:TG}{u:xE}(h1:PG X e t)(h2:Ac X es u)
  (hs:(assignEach (e::es) X.env).map (·.2)=assign e X.env::(assignEach es X.env).map (·.2):=by rfl):Ac X (e::es) (Dm t u):=by
 intro pins s σ H vs us Q I r h
 obtain⟨v,vr,e1,h⟩:=h
 subst e1
 cases r with
 |cons r rr =>
  rw[hs]
  refine assignInOrder_cons (bC (h1 pins s σ H _ _ _ I r h) fun _ s1 ⟨σ1,H1,I1,q1⟩=> ?_)
  exact h2 pins s1 σ1 H1 _ _ Q I1 rr q1
def GV(K:Fg)(n:Nat)(t:xE):TG:=fun v σ H Q=>∃a xs,v= .ref a/\gA K H a xs/\xs.length=n/\t xs σ H Q
theorem Ae{es:List Expr}{k:Nat}{t:xE}{n:Nat}(hc:X.calm=true)(h:Ac X es t)
  (hn:(assignEach es X.env).length=n:=by rfl) (hst:(assignEach es X.env).findIdx? (·.1)=none:=by rfl):PG X (.Tuple es k pos) (GV X.K n t):=by
 intro pins s σ H v u Q I r hw
 obtain⟨a,xs,e1,hq,hl,hw⟩:=hw
 subst e1
 cases r
 obtain⟨its,rv,ht,hz⟩:=I.tuple hq
 refine assign_Tuple_tuple (I.ok.hd hc) ht (by simp[hn,<-hl,rv.length]) hst fun h' hx=> ?_
 have I1:aA X pins σ H { s with heap:=h' }:=I.kept (t':=s.toks) fun b o e=>hx b o (Nat.ne_of_lt (Heap.lt_size e)) e
 exact h pins _ σ H xs _ Q I1 (by simpa using rv) hw
def gSub(to ti:TE)(t:Ad):TG:=fun v σ H Q=>to σ H fun o H1=>ti σ H1 fun i H2=>t o i v H2 fun H3=>Q σ H3
theorem Af{o i:Expr}{to ti:TE}{t:Ad}(ho:PE X o to)(hi:PE X i ti)(hs:Dk X t)
  (ha:∀v,assign (.Subscript o i pos) X.env v=(do
   let ov <- holding [v] (eval o X.env)
   let iv <- holding [v,ov] (eval i X.env)
   standAt pos
   holding [v,ov,iv] (setItem ov iv v)
   release [v,ov,iv] []):=by intro _;rfl):PG X (.Subscript o i pos) (gSub to ti t):=by
 intro pins s σ H v u Q I r h
 rw[ha]
 refine wpAny_bind (wpAny_holding (bC (ho pins s σ H _ I h) fun ov s1 ⟨x,H1,I1,r1,q1⟩=> ?_))
 refine wpAny_bind (wpAny_holding (bC (hi pins s1 σ H1 _ I1 q1) fun iv s2 ⟨y,H2,I2,r2,q2⟩=> ?_))
 refine wpAny_bind (wpAny_standAt (wpAny_bind (wpAny_holding (bC (hs pins s2 σ H2 x y v ov iv u _ I2 r1 r2 r q2) fun _ s3 ⟨H3,I3,q3⟩=> ?_))))
 exact wpAny_release ⟨σ,H3,I3,q3⟩
def Dn(te:TE)(g:TG):TS:=fun D σ H=>te σ H fun x H1=>g x σ H1 D.nx
theorem u5{tg e:Expr}{te:TE}{g:TG}(he:PE X e te)(hg:PG X tg g)(hs:swapsWithSole [tg] e pos.line X.env=pure false:=by rfl)(hw:swappedStores [tg] e X.env=pure none:=by rfl)
  (h1:(assignEach [tg] X.env).map (·.2)=[assign tg X.env]:=by rfl):PS X (.Assign [tg] e pos) (Dn te g):=by
 intro pins s σ H D I h
 refine wpAny_Assign_stores (bC (he pins s σ H _ I h) fun v s1 ⟨x,H1,I1,r1,q1⟩=> ?_) hs hw
 rw[h1]
 exact bC (hg pins s1 σ H1 x v _ I1 r1 q1) fun _ s2 q=>q
theorem jC{i:Nat}{x:Str}{e:Expr}{te:TE}{pos':Pos}(hN:X.N.Nodup)(hi:X.N[i]? =some x)(hx:mW X.env.scope x)(he:PE X e te)(hs:swapsWith e (some (.Name x pos')) pos.line X.env=pure false:=by rfl)(hf:X.fn x=true\/X.env.scope.names.lookup x=some .local:=by first|exact .inl rfl|exact .inr rfl|assumption) :
  PS X (.Assign [.Name x pos'] e pos) (Dn te (zj i)):=by
 intro pins s σ H D I h
 refine wpAny_Assign_Name (bC (he pins s σ H _ I h) fun v s1 ⟨y,H1,I1,r1,q1⟩=> ?_) hs
 exact gU I1 hN hi hx r1 (fun s2 I2=>⟨_,H1,I2,q1⟩) hf
def GW(i:Nat)(te:TE)(ti:G5):TS:=fun D σ H=>∃x, σ[i]? =some (some x)/\te σ H fun y H1=>ti x y H1 fun z H2=>D.nx (σ.set i (some z)) H2
theorem Ag{i:Nat}{x:Str}{e:Expr}{te:TE}{op:Operator}{ti:G5}{pos':Pos}(hN:X.N.Nodup)(hi:X.N[i]? =some x)(hx:mW X.env.scope x)(he:PE X e te)(ho:Dl X op ti)(hf:X.fn x=true\/X.env.scope.names.lookup x=some .local:=by first|exact .inl rfl|exact .inr rfl|assumption) :
  PS X (.AugAssign (.Name x pos') op e pos) (GW i te ti):=by
 intro pins s σ H D I h
 obtain⟨v,e1,h⟩:=h
 obtain⟨m,hn,hl⟩:=I.loc
 have vis:lF X.env.scope x:=by rcases hx with k|k;exact .inl k;exact .inr (.inl k)
 obtain⟨u,r,l⟩:=hl i x v hi e1 vis
 refine wpAny_AugAssign_Name ?_
 have go:wpAny .(E) X.A (eval e X.env) (fun w s₂=>wpAny .(E) X.A (inplaceOp op u w) (fun r s₃ =>wpAny .(E) X.A (storeName X.env x r) (fun _=>SP X pins D .next) X.xe s₃) X.xe s₂) X.xe s:=by
  refine bC (he pins s σ H _ I h) fun w s1 ⟨y,H1,I1,r1,q1⟩=> ?_
  refine bC (ho pins s1 σ H1 v y u w _ I1 r r1 q1) fun z s2 ⟨zv,H2,I2,r2,q2⟩=> ?_
  exact gU I2 hN hi hx r2 (fun s3 I3=>⟨_,H2,I3,q2⟩) hf
 rcases l with⟨hk,hm⟩|⟨hk,c,hc,hcell⟩
 ·exact wpAny_loadName_local I.ok.kind hk hn hm go
 ·rcases hk with hk|hk
  ·exact wpAny_loadName_cell I.ok.kind hk hc hcell go
  ·rcases hx with k|k
   ·have:X.env.scope.names.lookup x=some .free:=hk
    rw[k]at this;cases this
   ·have:X.env.scope.names.lookup x=some .free:=hk
    rw[k]at this;cases this
def G6(f:Int->Int->Int):G5:=fun x y H Q=>∃i j,x= .int i/\y= .int j/\Q (.int (f i j)) H
theorem oJ:Dl X .Add (G6 fun i j=>i+j):=by
 intro pins s σ H x y v u Q I r1 r2 h
 obtain⟨i,j,e1,e2,q⟩:=h
 subst e1;subst e2
 obtain⟨t,rfl⟩:=r1
 obtain⟨t',rfl⟩:=r2
 exact iadd_int ⟨.int _,H,I.tok _,⟨_,rfl⟩,q⟩
theorem Ah:Dl X .Sub (G6 fun i j=>i-j):=by
 intro pins s σ H x y v u Q I r1 r2 h
 obtain⟨i,j,e1,e2,q⟩:=h
 subst e1;subst e2
 obtain⟨t,rfl⟩:=r1
 obtain⟨t',rfl⟩:=r2
 exact isub_int ⟨.int _,H,I.tok _,⟨_,rfl⟩,q⟩
end
noncomputable section
variable{X:Cx}{pos:Pos}
def Ai(c:TT)(tb:TS):TS:=fun D σ H=>∃W:Nat->St->Hp->Prop,(∃m,W m σ H)/\ ∀m σ H,W m σ H ->
 c σ H fun b H1=>if b=true then ∃N:St->Hp->Prop,(∀σ' H',N σ' H'->∃m',m'<m/\W m' σ' H')/\tb { D with nx:=N,ct:=N,bk:=D.nx } σ H1 else D.nx σ H1
theorem u6{c:Expr}{body:List Stmt}{tc:TT}{tb:TS}(hp:PassesOwn .(E) X.A X.env X.xe)(hc:PT X c tc)(hb:mZ X body tb):PS X (.While c body [] pos) (Ai tc tb):=by
 intro pins s σ H D I h
 obtain⟨W,⟨m0,w0⟩,turn⟩:=h
 refine wpAny_While (codeAny_whileLoop (fun n s'=>∃σ' H',aA X pins σ' H' s'/\W n σ' H') ?_ m0 ⟨σ,H,I,w0⟩)
 rintro n s1 ⟨σ1,H1,I1,w1⟩
 refine wpAny_passesOwn hp (bC (hc pins s1 σ1 H1 _ I1 (turn n σ1 H1 w1)) fun b s2 ⟨H2,I2,q2⟩=> ?_)
 cases b with
 |true =>
  obtain⟨N,hN,q2⟩:=q2
  rw[if_pos rfl]
  refine wpAny_passesOwn hp (bC (hb pins s2 σ1 H2 _ I2 q2) fun f s3 q3=> ?_)
  cases f with
  |next =>
   obtain⟨σ3,H3,I3,n3⟩:=q3
   obtain⟨m',hm,w3⟩:=hN σ3 H3 n3
   exact⟨m',hm, σ3,H3,I3,w3⟩
  |cont =>
   obtain⟨σ3,H3,I3,n3⟩:=q3
   obtain⟨m',hm,w3⟩:=hN σ3 H3 n3
   exact⟨m',hm, σ3,H3,I3,w3⟩
  |brk=>exact q3
  |ret v=>exact q3
 |false =>
  rw[if_neg Bool.false_ne_true]
  exact wpAny_execs_nil ⟨σ1,H2,I2,q2⟩
end
structure It where
 go:Nat->Hp->Prop
 yld:Nat->Hp->V->Hp->Prop
 stop:Nat->Hp->Prop
def iH(X:Cx)(pins:List (Addr×Obj))(H:Hp)(b:Addr):Prop :=
 H b=none/\b≠X.env.locals/\b∉X.fs/\(b∈X.ex\/X.s₀.heap.objs.size<=b)/\(∀x c,X.env.cells.lookup x=some c->c≠b)/\ ∀p∈X.pn++pins,p.1≠b
theorem aA.fpOk{X:Cx}{pins:List (Addr×Obj)}{σ :St}{H H':Hp}{s:Shared}{b:Addr}(I:aA X pins σ H s)(hb:s.heap.objs.size<=b)(hn:H' b=none):iH X pins H' b:=by
 refine⟨hn,Nat.ne_of_gt (Nat.lt_of_lt_of_le I.lt hb),I.nofs hb,.inr (Nat.le_trans I.sz hb),fun x c e z=> ?_,fun p hp z=> ?_⟩
 ·obtain⟨v,q⟩:=I.cell x c e
  exact absurd (Nat.lt_of_lt_of_le q.lt (by rw[z];exact hb)) (Nat.lt_irrefl _)
 ·exact absurd (Nat.lt_of_lt_of_le (Heap.lt_size (I.pin p hp).1) (by rw[z];exact hb)) (Nat.lt_irrefl _)
structure u7(P:Program)(w:World)(K:Fg)(tg:Expr)(J:It)(fp:List Addr)(it:Addr)(tn:Nat->Heap->Prop):Prop where
 mem:it∈fp
 obj:∀i h,tn i h->∀b∈fp,∃o,h.get? b=some o/\ ∀v,o.data ≠ .cell v
 keep:∀i h h',tn i h->(∀b∈fp,∀o,h.get? b=some o->h'.get? b=some o)->tn i h'
 item:∀(X:Cx),X.prog=P->X.w=w->X.K=K->X.calm=true->∀(i:Nat) (pins:List (Addr×Obj)) (s:Shared) (σ :St) (H:Hp) (E:Value->Shared->Prop),aA X pins σ H s->(∀b∈fp,iH X pins H b)->tn i s.heap->J.go i H ->
  wpAny (model P w) X.A (pyNext (.ref it)) (fun r s1=>∃u,r=some u /\
   wpAny (model P w) X.A (letOwnedTupleGo tg (.ref it) u) (fun _ s2=>∃x H',aA X pins σ H' s2/\aR x u/\J.yld i H x H'/\tn (i+1) s2.heap/\ ∀b∈fp,H' b=none) E s1) E s
 done:∀(X:Cx),X.prog=P->X.w=w->X.K=K->X.calm=true->∀(i:Nat) (pins:List (Addr×Obj)) (s:Shared) (σ :St) (H:Hp) (E:Value->Shared->Prop),aA X pins σ H s->(∀b∈fp,iH X pins H b)->tn i s.heap->J.stop i H ->
  wpAny (model P w) X.A (pyNext (.ref it)) (fun r s1=>r=none/\aA X pins σ H s1) E s
 self:∀(A:Around) (i:Nat) (s:Shared) (Q:Value->Shared->Prop) (E:Value->Shared->Prop),tn i s.heap->Q (.ref it) s->wpAny (model P w) A (pyIter (.ref it)) Q E s
abbrev TI:=St->Hp->(It->Hp->Prop)->Prop
def GX(X:Cx)(pins:List (Addr×Obj))(σ :St)(tg:Expr)(R:It->Hp->Prop)(itv:Value)(s2:Shared):Prop :=
 ∃(it:Addr) (fp:List Addr) (tn:Nat->Heap->Prop) (J:It) (H':Hp),itv= .ref it/\aA X pins σ H' s2/\u7 X.prog X.w X.K tg J fp it tn/\tn 0 s2.heap/\(∀b∈fp,iH X pins H' b)/\R J H'
def PI(X:Cx)(tg iter:Expr)(wi:TI):Prop :=
 ∀(pins:List (Addr×Obj)) (s:Shared) (σ :St) (H:Hp) (R:It->Hp->Prop),aA X pins σ H s->wi σ H R ->
  wpAny .(E) X.A (eval iter X.env) (fun v s1=>wpAny .(E) X.A (pyIter v) (GX X pins σ tg R) X.xe s1) X.xe s
theorem u8{M:Model}{A:Around}{E:Value->Shared->Prop}{s:Shared}{tg:Expr}{it:Addr}{u:Value}{o:Obj}{n:String}{vs:Array Value}{Q:Unit->Shared->Prop}(ho:s.heap.get? it=some o)(hc:o.cls= .type n)(hd:o.data= .fields vs)
    (hn:["enumerate","zip","dict_itemiterator","dict_reverseitemiterator","odict_iterator","itertools.zip_longest","itertools.pairwise"].contains n=false) (hQ:Q () s):wpAny M A (letOwnedTupleGo tg (.ref it) u) Q E s:=by
  unfold letOwnedTupleGo
  cases tg <;> first
    |exact wpAny_pure hQ
    | (cases u <;> first
        |exact wpAny_pure hQ
        | (refine wpAny_bind (wpAny_load ho ?_)
           rw[hc,hd]
           show wpAny M A (if (["enumerate","zip","dict_itemiterator","dict_reverseitemiterator","odict_iterator","itertools.zip_longest","itertools.pairwise"].contains n && vs[0]? == some (rawInt _))=true then _ else _) Q E s
           rw[if_neg (by intro h;rw[hn,Bool.false_and]at h;cases h)]
           exact wpAny_pure hQ))
def Do(K:Fg)(a:Addr):It :=
 ⟨fun i H=>∃xs x,eI K H a xs/\xs[i]? =some x,fun i H x H'=>H'=H/\ ∀xs,eI K H a xs->xs[i]? =some x,fun i H=>∃xs,eI K H a xs/\xs.length<=i⟩
def Dp(K:Fg)(a:Addr):It :=
 ⟨fun i H=>∃xs x,gA K H a xs/\xs[i]? =some x,fun i H x H'=>H'=H/\ ∀xs,gA K H a xs->xs[i]? =some x,fun i H=>∃xs,gA K H a xs/\xs.length<=i⟩
def CH(lo:Int)(n:Nat):It:=⟨fun i _=>i<n,fun i H x H'=>H'=H/\x= .int (lo+i),fun i _=>n<=i⟩
theorem rA{P:Program}{w:World}{K:Fg}{tg:Expr}(a it:Addr):u7 P w K tg (Do K a) [it] it (fun i h=>h.IsListIter it a i) where
 mem:=by simp
 obj:=fun i h st b hb=>by
  have e:b=it:=by simpa using hb
  subst e
  obtain⟨o,e,c,d⟩:=st
  exact⟨o,e,fun v z=>by rw[d]at z;cases z⟩
 keep:=fun i h h' st k=>st.at fun o e=>k it (by simp) o e
 item:=by
  intro X hP hw hK hc i pins s σ H E I hf st hg
  subst hP hw hK
  obtain⟨xs,x,hq,hx⟩:=hg
  obtain⟨its,rv,p,hz⟩:=I.list hq
  obtain⟨u,hu,ru⟩:=rv.get hx
  obtain⟨f0,f1,f2,f3,f4,f5⟩:=hf it (by simp)
  refine wpAny_pyNext_list_item st p.isList (x:=u) (by simpa using hu) fun h' st' sb=> ?_
  have I1:aA X pins σ H { s with heap:=h' }:=I.turned (t':=s.toks) (fun b o hb e=>(sb.2 b hb).trans e) f0 f1 f3 f4 f5
  obtain⟨o,e,c,d⟩:=id st'
  exact⟨u,rfl,u8 (s:={ s with heap:=h' }) e c d (by decide) ⟨x,H,I1,ru,⟨rfl,fun ys hy=>by rw[I.list_inj hy hq];exact hx⟩,st',fun b hb=>(hf b hb).1⟩⟩
 done:=by
  intro X hP hw hK hc i pins s σ H E I hf st hg
  subst hP hw hK
  obtain⟨xs,hq,hx⟩:=hg
  obtain⟨its,rv,p,hz⟩:=I.list hq
  obtain⟨f0,f1,f2,f3,f4,f5⟩:=hf it (by simp)
  have hl:=rv.length
  exact wpAny_pyNext_list_end (I.ok.hd hc) st p.isList (by simp;omega) fun h' eb=>⟨rfl,I.turned (t':=s.toks) (fun b o hb e=>eb b o hb e) f0 f1 f3 f4 f5⟩
 self:=fun _ _ _ _ _ st h=>wpAny_pyIter_listiter st h
theorem oK{P:Program}{w:World}{K:Fg}{tg:Expr}(a it:Addr):u7 P w K tg (Dp K a) [it] it (fun i h=>h.IsTupleIter it a i) where
 mem:=by simp
 obj:=fun i h st b hb=>by
  have e:b=it:=by simpa using hb
  subst e
  obtain⟨o,e,c,d⟩:=st
  exact⟨o,e,fun v z=>by rw[d]at z;cases z⟩
 keep:=fun i h h' st k=>st.at fun o e=>k it (by simp) o e
 item:=by
  intro X hP hw hK hc i pins s σ H E I hf st hg
  subst hP hw hK
  obtain⟨xs,x,hq,hx⟩:=hg
  obtain⟨its,rv,p,hz⟩:=I.tuple hq
  obtain⟨u,hu,ru⟩:=rv.get hx
  obtain⟨f0,f1,f2,f3,f4,f5⟩:=hf it (by simp)
  refine wpAny_pyNext_tuple_item st (show s.heap.IsTuple a its.toArray from p) (x:=u) (by simpa using hu) fun h' st' sb=> ?_
  have I1:aA X pins σ H { s with heap:=h' }:=I.turned (t':=s.toks) (fun b o hb e=>(sb.2 b hb).trans e) f0 f1 f3 f4 f5
  obtain⟨o,e,c,d⟩:=id st'
  exact⟨u,rfl,u8 (s:={ s with heap:=h' }) e c d (by decide) ⟨x,H,I1,ru,⟨rfl,fun ys hy=>by rw[I.tuple_inj hy hq];exact hx⟩,st',fun b hb=>(hf b hb).1⟩⟩
 done:=by
  intro X hP hw hK hc i pins s σ H E I hf st hg
  subst hP hw hK
  obtain⟨xs,hq,hx⟩:=hg
  obtain⟨its,rv,p,hz⟩:=I.tuple hq
  obtain⟨f0,f1,f2,f3,f4,f5⟩:=hf it (by simp)
  have hl:=rv.length
  exact wpAny_pyNext_tuple_end (I.ok.hd hc) st (show s.heap.IsTuple a its.toArray from p) (by simp;omega) fun h' eb=>⟨rfl,I.turned (t':=s.toks) (fun b o hb e=>eb b o hb e) f0 f1 f3 f4 f5⟩
 self:=fun _ _ _ _ _ st h=>wpAny_pyIter_tupleiter st h
theorem oM{P:Program}{w:World}{K:Fg}{tg:Expr}(it:Addr)(lo:Int)(n:Nat):u7 P w K tg (CH lo n) [it] it (fun i h=>IsRangeIter h it (lo+(i:Nat)*1) ((n:Int)-(i:Nat)) 1) where
 mem:=by simp
 obj:=fun i h st b hb=>by
  have e:b=it:=by simpa using hb
  subst e
  exact⟨_,st,fun v z=>by
   have z':Data.fields _=Data.cell v:=z
   cases z'⟩
 keep:=fun i h h' st k=>k it (by simp) _ st
 item:=by
  intro X hP hw hK hc i pins s σ H E I hf st hg
  subst hP hw hK
  obtain⟨f0,f1,f2,f3,f4,f5⟩:=hf it (by simp)
  have W:=Walks.range (prog:=X.prog) (w:=X.w) (I.ok.hd hc) it lo 1 n
  refine W.item i s _ _ hg st fun v h' tk hv st' kk=> ?_
  obtain⟨t,rfl⟩:=hv
  have I1:aA X pins σ H { s with heap:=h',toks:=tk }:=I.turned (fun b o hb e=>kk b o (by simpa using hb) e) f0 f1 f3 f4 f5
  refine⟨_,rfl,u8 (s:={ s with heap:=h',toks:=tk }) (n:="range_iterator") st' rfl rfl (by decide) ⟨.int (lo+i),H,I1,⟨t,?_⟩,⟨rfl,rfl⟩,st',fun b hb=>(hf b hb).1⟩⟩
  rw[Int.mul_one]
 done:=by
  intro X hP hw hK hc i pins s σ H E I hf st hg
  subst hP hw hK
  obtain⟨f0,f1,f2,f3,f4,f5⟩:=hf it (by simp)
  exact wpAny_pyNext_range_end (I.ok.hd hc) st (by have:n<=i:=hg;omega) fun h' eb=>⟨rfl,I.turned (t':=s.toks) (fun b o hb e=>eb b o hb e) f0 f1 f3 f4 f5⟩
 self:=fun _ _ _ _ _ st h=>wpAny_pyIter_rangeiter st h
end L2
namespace L2
open PySem PySem.Spec PyProof.Rows
noncomputable section
variable{X:Cx}{tg:Expr}
def Dq(K:Fg)(tl:TE):TI:=fun σ H R=>tl σ H fun x H1=>∃a,x= .ref a/\(∃xs,eI K H1 a xs)/\R (Do K a) H1
def GY(K:Fg)(tl:TE):TI:=fun σ H R=>tl σ H fun x H1=>∃a,x= .ref a/\(∃xs,gA K H1 a xs)/\R (Dp K a) H1
theorem pX{l:Expr}{tl:TE}(hl:PE X l tl):PI X tg l (Dq X.K tl):=by
 intro pins s σ H R I h
 refine bC (hl pins s σ H _ I h) fun v s1 ⟨x,H1,I1,r1,q1⟩=> ?_
 obtain⟨a,e,⟨xs,hq⟩,q⟩:=q1
 subst e
 cases r1
 obtain⟨its,rv,p,hz⟩:=I1.list hq
 refine wpAny_pyIter_list p.isList ?_
 refine⟨s1.heap.objs.size,[s1.heap.objs.size],_,_,H1,rfl,I1.kept (t':=s1.toks) fun b o e=>Heap.get?_push_of_some _ e,rA a _,⟨_,Heap.get?_push_size _ rfl,rfl,rfl⟩,fun b hb=> ?_,q⟩
 have e:b=s1.heap.objs.size:=by simpa using hb
 subst e
 exact I1.fpOk .(Ao) (I1.hok.fresh .(Ao))
theorem Aj{l:Expr}{tl:TE}(hl:PE X l tl):PI X tg l (GY X.K tl):=by
 intro pins s σ H R I h
 refine bC (hl pins s σ H _ I h) fun v s1 ⟨x,H1,I1,r1,q1⟩=> ?_
 obtain⟨a,e,⟨xs,hq⟩,q⟩:=q1
 subst e
 cases r1
 obtain⟨its,rv,p,hz⟩:=I1.tuple hq
 refine wpAny_pyIter_tuple (show s1.heap.IsTuple a its.toArray from p) ?_
 refine⟨s1.heap.objs.size,[s1.heap.objs.size],_,_,H1,rfl,I1.kept (t':=s1.toks) fun b o e=>Heap.get?_push_of_some _ e,oK a _,⟨_,Heap.get?_push_size _ rfl,rfl,rfl⟩,fun b hb=> ?_,q⟩
 have e:b=s1.heap.objs.size:=by simpa using hb
 subst e
 exact I1.fpOk .(Ao) (I1.hok.fresh .(Ao))
theorem u9{pins:List (Addr×Obj)}{σ :St}{H:Hp}{s:Shared}{R:It->Hp->Prop}{E:Value->Shared->Prop}{lo hi:Int}{t u v:Tok}{tk:Nat}(I:aA X pins σ H s)(h1: -(2 ^ 62)<=lo)(h2:lo<2 ^ 62)(h3: -(2 ^ 62)<=hi)(h4:hi<2 ^ 62)
  (q:R (CH lo (hi-lo).toNat) H):wpAny .(E) X.A (pyIter (.ref s.heap.objs.size)) (GX X pins σ tg R) E { s with heap:=s.heap.push { cls:= .type "range",data:= .fields #[.int lo t,.int hi u,.int 1 v] },toks:=tk }:=by
 refine wpAny_pyIter_range (IsRange.new ..) (small_one h1 h2 h3 h4) ?_
 have I1:aA X pins σ H { s with heap:=s.heap.push { cls:= .type "range",data:= .fields #[.int lo t,.int hi u,.int 1 v] },toks:=tk }:=I.kept fun b o e=>Heap.get?_push_of_some _ e
 refine⟨(s.heap.push { cls:= .type "range",data:= .fields #[.int lo t,.int hi u,.int 1 v] }).objs.size,[(s.heap.push { cls:= .type "range",data:= .fields #[.int lo t,.int hi u,.int 1 v] }).objs.size],_,_,H,rfl,
  I1.kept (t':=tk) fun b o e=>Heap.get?_push_of_some _ e,oM _ lo (hi-lo).toNat,?_,fun b hb=> ?_,q⟩
 ·have e1:lo+((0:Nat):Int)*1=lo:=by simp
  have e2:(((hi-lo).toNat:Nat):Int)-((0:Nat):Int)=Builtin.Range.rangeSize lo hi 1:=by rw[rangeSize_one];split <;> omega
  show IsRangeIter _ _ (lo+((0:Nat):Int)*1) ((((hi-lo).toNat:Nat):Int)-((0:Nat):Int)) 1
  rw[e1,e2]
  exact Heap.get?_push_size _ rfl
 ·have e:b=(s.heap.push { cls:= .type "range",data:= .fields #[.int lo t,.int hi u,.int 1 v] }).objs.size:=by simpa using hb
  subst e
  exact I1.fpOk .(Ao) (I1.hok.fresh .(Ao))
def Ds(ta:TA):TI:=fun σ H R=>ta σ H fun vs H1=>∃j:Int,vs=[.int j]/\ -(2 ^ 62)<=j/\j<2 ^ 62/\R (CH 0 j.toNat) H1
theorem rB{a:Expr}{ta:TA}{p pos:Pos}(hg:Gl X "range")(hm:X.mg "range"=none)(ha:PA X [a] ta)(hs:starEach [a] X.env=[(false,eval a X.env)]:=by rfl):PI X tg (.Call (.Name "range" p) [a] [] pos) (Ds ta):=by
 intro pins s σ H R I h
 refine Call_ (iG I hg hm boot_range (PyProof.Rows.callWith_type1 (bC (ha pos pins s σ H _ I h) fun us s1 ⟨vs,H1,I1,r1,q1⟩=> ?_) hs rfl))
 obtain⟨j,e,q1,q2,q⟩:=q1
 subst e
 cases r1 with
 |cons r rr =>
  cases rr
  obtain⟨t,rfl⟩:=r
  exact call_range_1 (u9 I1 (by omega) (by omega) q1 q2 (by simpa using q))
def tFor(wi:TI)(g:TG)(tb:TS):TS:=fun D σ H=>wi σ H fun J H1=>∃W:Nat->Nat->St->Hp->Prop,(∃m,W 0 m σ H1)/\ ∀i m σ H,W i m σ H ->
 (J.stop i H/\D.nx σ H)\/(J.go i H/\ ∃N:St->Hp->Prop,(∀σ' H',N σ' H'->∃m',m'<m/\W (i+1) m' σ' H')/\ ∀x H',J.yld i H x H'->g x σ H' fun σ2 H2=>tb { D with nx:=N,ct:=N,bk:=D.nx } σ2 H2)
def iI(fp:List Addr)(h:Heap):List (Addr×Obj):=fp.filterMap fun b=>(h.get? b).map fun o=>(b,o)
theorem dF{fp:List Addr}{h:Heap}{b:Addr}{o:Obj}(hb:b∈fp)(e:h.get? b=some o):(b,o)∈iI fp h:=List.mem_filterMap.mpr ⟨b,hb,by rw[e];rfl⟩
theorem rC{fp:List Addr}{h:Heap}{p:Addr×Obj}(hp:p∈iI fp h):p.1∈fp/\h.get? p.1=some p.2:=by
 obtain⟨b,hb,e⟩:=List.mem_filterMap.mp hp
 cases q:h.get? b with
 |none=>rw[q]at e;cases e
 |some o =>
  rw[q]at e
  have e':(b,o)=p:=Option.some.inj e
  subst e'
  exact⟨hb,q⟩
theorem aA.pinned{pins:List (Addr×Obj)}{σ :St}{H:Hp}{s:Shared}{fp:List Addr}(I:aA X pins σ H s)(hf:∀b∈fp,iH X pins H b)(ho:∀b∈fp,∃o,s.heap.get? b=some o/\ ∀v,o.data ≠ .cell v):aA X (pins++iI fp s.heap) σ H s :=
 I.pins_of fun p hp=>(List.mem_append.mp hp).elim (fun z=>I.pin p (List.mem_append_right _ z)) fun z=>by
  obtain⟨hb,e⟩:=rC z
  obtain⟨f0,f1,f2,_⟩:=hf p.1 hb
  obtain⟨o,e',d⟩:=ho p.1 hb
  rw[e]at e';cases e'
  exact⟨e,f0,f1,f2,d⟩
theorem aA.unpinned{pins pl:List (Addr×Obj)}{σ :St}{H:Hp}{s:Shared}(I:aA X (pins++pl) σ H s):aA X pins σ H s:=I.pins_of fun p hp=>I.pin p (List.mem_append_right _ (List.mem_append_left _ hp))
theorem ua{iter:Expr}{body:List Stmt}{wi:TI}{g:TG}{tb:TS}{pos:Pos}(hp:PassesOwn .(E) X.A X.env X.xe)(hc:X.calm=true)(hi:PI X tg iter wi)(hg:PG X tg g)(hb:mZ X body tb)
  (hs:∀x,foldedSetIterable iter X.env x=pure x:=by intro _;rfl):PS X (.For tg iter body [] pos) (tFor wi g tb):=by
 intro pins s σ H D I h
 refine wpAny_For (bC (hi pins s σ H _ I h) fun v s1 h1=>bC h1 fun itv s2 h2=> ?_) hs
 obtain⟨it,fp,tn,J,H2,e,I2,T,st2,f2,W,⟨m0,w0⟩,turn⟩:=h2
 subst e
 -- what stays true of the iterator's objects through the loop
 have stat:∀{H':Hp},(∀b∈fp,H' b=none)->∀b∈fp,iH X pins H' b:=fun hn b hb=>⟨hn b hb,(f2 b hb).2⟩
 refine codeAny_forLoop_any (fun n s'=>∃i σ' H',aA X pins σ' H' s'/\tn i s'.heap/\(∀b∈fp,H' b=none)/\W i n σ' H') ?_ m0 ⟨0, σ,H2,I2,st2,fun b hb=>(f2 b hb).1,w0⟩
 rintro n s3 ⟨i, σ3,H3,I3,st3,fr3,w3⟩
 rcases turn i n σ3 H3 w3 with⟨stop,qn⟩|⟨go,N,hN,step⟩
 ·refine wpAny_passesOwn hp (bC (T.done X rfl rfl rfl hc i pins s3 σ3 H3 X.xe I3 (stat fr3) st3 stop) fun r s4 ⟨hr,I4⟩=> ?_)
  subst hr
  exact wpAny_execs_nil ⟨σ3,H3,I4,qn⟩
 ·refine wpAny_passesOwn hp (bC (T.item X rfl rfl rfl hc i pins s3 σ3 H3 X.xe I3 (stat fr3) st3 go) fun r s4 ⟨u,hr,h4⟩=> ?_)
  subst hr
  refine wpAny_passesOwn hp (bC h4 fun _ s5 ⟨x,H5,I5,r5,y5,st5,fr5⟩=> ?_)
  have I5':=I5.pinned (stat fr5) (T.obj _ _ st5)
  refine wpAny_passesOwn hp (bC (hg _ s5 σ3 H5 x u _ I5' r5 (step x H5 y5)) fun _ s6 ⟨σ6,H6,I6,q6⟩=> ?_)
  refine wpAny_passesOwn hp (bC (hb _ s6 σ6 H6 _ I6 q6) fun f s7 q7=> ?_)
  have again:∀{σ7:St} {H7:Hp},aA X (pins++iI fp s5.heap) σ7 H7 s7->N σ7 H7->∃m,m<n/\ ∃i σ' H',aA X pins σ' H' s7/\tn i s7.heap/\(∀b∈fp,H' b=none)/\W i m σ' H':=fun {σ7 H7} I7 n7=>by
   obtain⟨m',hm,w7⟩:=hN σ7 H7 n7
   refine⟨m',hm,i+1, σ7,H7,I7.unpinned,T.keep _ _ _ st5 fun b hb o e=>.(Ad).1,fun b hb=> ?_,w7⟩
   obtain⟨o,e,d⟩:=T.obj _ _ st5 b hb
   exact .(Ad).2.1
  cases f with
  |next=>obtain⟨σ7,H7,I7,n7⟩:=q7;exact again I7 n7
  |cont=>obtain⟨σ7,H7,I7,n7⟩:=q7;exact again I7 n7
  |brk=>obtain⟨σ7,H7,I7,q7⟩:=q7;exact⟨σ7,H7,I7.unpinned,q7⟩
  |ret v=>exact q7
end
end L2
namespace L2
open PySem PySem.Spec PyProof.Rows
abbrev R2:=V->V->Hp->VK->Prop
def fY(X:Cx)(f:Value->Value->Sem Value)(r:R2):Prop :=
 ∀(pins:List (Addr×Obj)) (s:Shared) (σ :St) (H:Hp) (x y:V) (v u:Value) (Q:VK),aA X pins σ H s->aR x v->aR y u->r x y H Q ->
  wpAny .(E) X.A (f v u) (EP X pins σ Q) X.xe s
def G7(X:Cx)(f:Value->Sem Value)(r:V->Hp->VK->Prop):Prop :=
 ∀(pins:List (Addr×Obj)) (s:Shared) (σ :St) (H:Hp) (x:V) (v:Value) (Q:VK),aA X pins σ H s->aR x v->r x H Q ->
  wpAny .(E) X.A (f v) (EP X pins σ Q) X.xe s
def j5(X:Cx)(f:Value)(r:List V->Hp->VK->Prop):Prop :=
 ∀(pins:List (Addr×Obj)) (s:Shared) (σ :St) (H:Hp) (xs:List V) (us:List Value) (Q:VK),aA X pins σ H s->aM xs us->r xs H Q ->
  wpAny .(E) X.A (call f us) (EP X pins σ Q) X.xe s
def Dt(r:R2)(ta tb:TE):TE:=fun σ H Q=>ta σ H fun x H1=>tb σ H1 fun y H2=>r x y H2 Q
def KF(r:V->Hp->VK->Prop)(ta:TE):TE:=fun σ H Q=>ta σ H fun x H1=>r x H1 Q
def rI(C:Int->Int->Prop)(g:Int->Int->V):R2:=fun x y H Q=>∃i j,x= .int i/\y= .int j/\C i j/\Q (g i j) H
def uc(g:Int->Int->V):R2:=fun x y H Q=>∃i j,x= .int i/\y= .int j/\Q (g i j) H
def rU(g:Int->V):V->Hp->VK->Prop:=fun x H Q=>∃i,x= .int i/\Q (g i) H
noncomputable section
variable{X:Cx}{a b c:Expr}{ta tb tc:TE}{pos:Pos}
theorem Ak(ha:PE X a ta)(hb:PE X b tb){pins:List (Addr×Obj)}{s:Shared}{σ :St}{H:Hp}{R:V->V->Hp->Prop}(I:aA X pins σ H s)
  (h:ta σ H fun x H1=>tb σ H1 fun y H2=>R x y H2) {Q:Value->Shared->Prop} {f:Value->Value->Sem Value}
  (hf:∀v u s2 x y H2,aA X pins σ H2 s2->aR x v->aR y u->R x y H2->wpAny .(E) X.A (f v u) Q X.xe s2) :
  wpAny .(E) X.A (eval a X.env) (fun v s₁=>wpAny .(E) X.A (eval b X.env) (fun u s₂=>wpAny .(E) X.A (f v u) Q X.xe s₂) X.xe s₁) X.xe s:=by
 refine bC (ha pins s σ H _ I h) fun v s1 ⟨x,H1,I1,r1,q1⟩=> ?_
 refine bC (hb pins s1 σ H1 _ I1 q1) fun u s2 ⟨y,H2,I2,r2,q2⟩=> ?_
 exact hf v u s2 x y H2 I2 r1 r2 q2
theorem ud{op:Operator}{r:R2}(ho:fY X (binaryOp op) r)(ha:PE X a ta)(hb:PE X b tb):PE X (.BinOp a op b pos) (Dt r ta tb):=by
 intro pins s σ H Q I h
 exact wpAny_BinOp (Ak ha hb I h fun v u s2 x y H2 I2 rx ry q=>ho pins s2 σ H2 x y v u Q I2 rx ry q)
theorem zk{op:UnaryOp}{r:V->Hp->VK->Prop}(ho:G7 X (unaryOp op) r)(ha:PE X a ta):PE X (.UnaryOp op a pos) (KF r ta):=by
 intro pins s σ H Q I h
 exact UnaryOp_ (bC (ha pins s σ H _ I h) fun v s1 ⟨x,H1,I1,r1,q1⟩=>ho pins s1 σ H1 x v Q I1 r1 q1)
theorem Du{f:Value->Value->Sem Value}{C:Int->Int->Prop}{g:Int->Int->Int}
  (rule:∀(i j:Int) (t u:Tok) (s:Shared) (Q:Value->Shared->Prop) (E:Value->Shared->Prop),C i j->Q (.int (g i j) s.toks) { s with toks:=s.toks+1 }->wpAny .(E) X.A (f (.int i t) (.int j u)) Q E s) :
  fY X f (rI C fun i j=> .int (g i j)):=by
 intro pins s σ H x y v u Q I rx ry h
 obtain⟨i,j,rfl,rfl,hc,q⟩:=h
 obtain⟨t,rfl⟩:=rx
 obtain⟨t',rfl⟩:=ry
 exact rule i j t t' s _ _ hc ⟨.int (g i j),H,I.tok _,⟨_,rfl⟩,q⟩
theorem ue{f:Value->Value->Sem Value}{g:Int->Int->Int}
  (rule:∀(i j:Int) (t u:Tok) (s:Shared) (Q:Value->Shared->Prop) (E:Value->Shared->Prop),Q (.int (g i j) s.toks) { s with toks:=s.toks+1 }->wpAny .(E) X.A (f (.int i t) (.int j u)) Q E s) :
  fY X f (uc fun i j=> .int (g i j)):=by
 intro pins s σ H x y v u Q I rx ry h
 obtain⟨i,j,rfl,rfl,q⟩:=h
 obtain⟨t,rfl⟩:=rx
 obtain⟨t',rfl⟩:=ry
 exact rule i j t t' s _ _ ⟨.int (g i j),H,I.tok _,⟨_,rfl⟩,q⟩
theorem Al{f:Value->Value->Sem Value}{g:Int->Int->Bool}
  (rule:∀(i j:Int) (t u:Tok) (s:Shared) (Q:Value->Shared->Prop) (E:Value->Shared->Prop),Q (.bool (g i j)) s->wpAny .(E) X.A (f (.int i t) (.int j u)) Q E s) :
  fY X f (uc fun i j=> .bl (g i j)):=by
 intro pins s σ H x y v u Q I rx ry h
 obtain⟨i,j,rfl,rfl,q⟩:=h
 obtain⟨t,rfl⟩:=rx
 obtain⟨t',rfl⟩:=ry
 exact rule i j t t' s _ _ ⟨.bl (g i j),H,I,rfl,q⟩
def GZ(i j:Int):Prop:=0<j/\j<1073741824
def Ha(i j:Int):Prop:=0<=j/\j<=1000000/\i.natAbs<2 ^ 64
def Am(i j:Int):Prop:=(-(2 ^ 64)<i/\i<2 ^ 64)\/(-(2 ^ 64)<j/\j<2 ^ 64)
theorem Am.ok{i j:Int}(h:Am i j):IntMulOk i j:=by
 rcases h with⟨h1,h2⟩|⟨h1,h2⟩
 ·exact .of_left (intBits_le_64 h1 h2)
 ·exact .of_right (intBits_le_64 h1 h2)
theorem oN(k:Nat):(0:Int)<=2 ^ k:=by
 rw[two_pow_cast]
 exact Int.natCast_nonneg _
theorem An:fY X (binaryOp .Add) (uc fun i j=> .int (i+j)):=ue fun _ _ _ _ _ _ _ q=>add_int q
theorem Ao:fY X (binaryOp .Sub) (uc fun i j=> .int (i-j)):=ue fun _ _ _ _ _ _ _ q=>sub_int q
theorem Ap:fY X (binaryOp .Mult) (rI Am fun i j=> .int (i*j)):=Du fun _ _ _ _ _ _ _ hc q=>mul_int q hc.ok
theorem xH:fY X (binaryOp .FloorDiv) (rI GZ fun i j=> .int (i / j)):=Du fun i j _ _ _ _ _ hc q=>by
 have h1:(0:Int)<j:=hc.1
 have h2:j<1073741824:=hc.2
 exact floordiv_int (by omega) (by rw[Int.fdiv_eq_ediv_of_nonneg i (by omega)];exact q) (.inl (PyProof.noPylong_small (by omega)))
theorem Aq:fY X (binaryOp .Mod) (rI (fun _ j=>0<j) fun i j=> .int (i % j)):=Du fun i j _ _ _ _ _ hc q=>by
 have h1:(0:Int)<j:=hc
 exact mod_int' (by omega) (by rw[Int.fmod_eq_emod_of_nonneg i (by omega)];exact q)
theorem Ar:fY X (binaryOp .LShift) (rI Ha fun i j=> .int (i*2 ^ j.toNat)):=Du fun _ _ _ _ _ _ _ hc q=>lshift_int_small hc.1 hc.2.1 hc.2.2 q
theorem As:fY X (binaryOp .RShift) (rI (fun _ j=>0<=j) fun i j=> .int (i / 2 ^ j.toNat)):=Du fun i j _ _ _ _ _ hc q =>
 rshift_int hc (by rw[Int.fdiv_eq_ediv_of_nonneg i (oN _)];exact q)
theorem At:fY X (binaryOp .BitAnd) (uc fun i j=> .int (Builtin.bitAnd i j)):=ue fun _ _ _ _ _ _ _ q=>and_int q
theorem Dv:fY X (binaryOp .BitOr) (uc fun i j=> .int (Builtin.bitOr i j)):=ue fun _ _ _ _ _ _ _ q=>or_int q
theorem Au:fY X (binaryOp .BitXor) (uc fun i j=> .int (Builtin.bitXor i j)):=ue fun _ _ _ _ _ _ _ q=>xor_int q
theorem JL{f:Value->Sem Value}{g:Int->Int}
  (rule:∀(i:Int) (t:Tok) (s:Shared) (Q:Value->Shared->Prop) (E:Value->Shared->Prop),Q (.int (g i) s.toks) { s with toks:=s.toks+1 }->wpAny .(E) X.A (f (.int i t)) Q E s) :
  G7 X f (rU fun i=> .int (g i)):=by
 intro pins s σ H x v Q I rx h
 obtain⟨i,rfl,q⟩:=h
 obtain⟨t,rfl⟩:=rx
 exact rule i t s _ _ ⟨.int (g i),H,I.tok _,⟨_,rfl⟩,q⟩
theorem Aw:G7 X (unaryOp .USub) (rU fun i=> .int (-i)):=JL fun _ _ _ _ _ q=>neg_int q
theorem Ax:G7 X (unaryOp .Invert) (rU fun i=> .int (Builtin.bitNot i)):=JL fun _ _ _ _ _ q=>invert_int q
end
noncomputable section
variable{X:Cx}{a b c:Expr}{ta tb tc:TE}{pos:Pos}
theorem Ay{pins:List (Addr×Obj)}{σ :St}{H:Hp}{s:Shared}{Q:VK}{k k':Bool}(I:aA X pins σ H s)(q:Q (.bl k) H)(e:k=k'):EP X pins σ Q (.bool k') s:=by
 subst e
 exact⟨.bl k,H,I,rfl,q⟩
theorem Dw:fY X (compareOp .Lt) (uc fun i j=> .bl (decide (i<j))):=Al fun _ _ _ _ _ _ _ q=>lt_int q
theorem op_le:fY X (compareOp .LtE) (uc fun i j=> .bl (decide (i<=j))):=Al fun _ _ _ _ _ _ _ q=>le_int q
theorem Dx:fY X (compareOp .Gt) (uc fun i j=> .bl (decide (j<i))):=Al fun _ _ _ _ _ _ _ q=>gt_int q
theorem rD:fY X (compareOp .Lt) (fun x y H Q=>∃i j,x= .str i/\y= .str j/\Q (.bl (decide (i.cps.toList<j.cps.toList))) H):=by
 intro pins s σ H x y v u Q I rx ry h
 obtain⟨i,j,rfl,rfl,q⟩:=h
 obtain⟨t,rfl⟩:=rx
 obtain⟨t',rfl⟩:=ry
 exact lt_str (Ay I q rfl)
theorem gK(b:Expr){op:CmpOp}(h:op ≠ .In:=by decide)(h2:op ≠ .NotIn:=by decide):behindInMarks op b=false:=by
 have e1:(op == CmpOp.In)=false:=by cases op <;> first|rfl|exact absurd rfl h
 have e2:(op == CmpOp.NotIn)=false:=by cases op <;> first|rfl|exact absurd rfl h2
 cases b <;> simp[behindInMarks,e1,e2]
theorem xI{op:CmpOp}{r:R2}(ho:fY X (compareOp op) r)(ha:PE X a ta)(hb:PE X b tb)(hm:behindInMarks op b=false):PE X (.Compare a [op] [b] pos) (Dt r ta tb):=by
 intro pins s σ H Q I h
 exact wpAny_Compare1 (Ak ha hb I h fun v u s2 x y H2 I2 rx ry q=>ho pins s2 σ H2 x y v u Q I2 rx ry q) hm
def Dy(t:TE):TT:=fun σ H Q=>t σ H fun x H'=>∃k,x= .bl k/\Q k H'
theorem pY{op:CmpOp}{r:R2}(ho:fY X (compareOp op) r)(ha:PE X a ta)(hb:PE X b tb)(hm:behindInMarks op b=false):PT X (.Compare a [op] [b] pos) (Dy (Dt r ta tb)):=by
 intro pins s σ H Q I h
 refine wpAny_isTrue_Compare1 (bC (ha pins s σ H _ I h) fun v s1 ⟨x,H1,I1,r1,q1⟩=>bC (hb pins s1 σ H1 _ I1 q1) fun u s2 ⟨y,H2,I2,r2,q2⟩ =>
  bC (ho pins s2 σ H2 x y v u _ I2 r1 r2 q2) fun c s3 ⟨z,H3,I3,r3,k,e,q3⟩=> ?_) hm
 subst e
 cases r3
 exact wpAny_truthy_bool ⟨H3,I3,q3⟩
def uf(r r':R2)(ta tb tc:TE):TE:=fun σ H Q=>ta σ H fun x H1=>tb σ H1 fun y H2=>r x y H2 fun z H3=>∃k,z= .bl k /\
 (if k=true then tc σ H3 fun w' H4=>r' y w' H4 Q else Q (.bl false) H3)
theorem ug{op op':CmpOp}{r r':R2}(ho:fY X (compareOp op) r)(ho':fY X (compareOp op') r')(ha:PE X a ta)(hb:PE X b tb)(hc:PE X c tc)
  (hm:lastMarks [op,op'] [b,c]=false:=by with_unfolding_all rfl):PE X (.Compare a [op,op'] [b,c] pos) (uf r r' ta tb tc):=by
 intro pins s σ H Q I h
 refine Compare_chain (bC (ha pins s σ H _ I h) fun v s1 ⟨x,H1,I1,r1,q1⟩=>chain_link (bC (hb pins s1 σ H1 _ I1 q1) fun u s2 ⟨y,H2,I2,r2,q2⟩ =>
  bC (ho pins s2 σ H2 x y v u _ I2 r1 r2 q2) fun d s3 ⟨z,H3,I3,r3,k,e,q3⟩=> ?_)) hm
 subst e
 cases r3
 refine wpAny_truthy_bool ?_
 cases k with
 |false=>exact ite_ff ⟨.bl false,H3,I3,rfl,q3⟩
 |true=>exact ite_tt (chain_last (bC (hc pins s3 σ H3 _ I3 q3) fun w' s4 ⟨z',H4,I4,r4,q4⟩=>ho' pins s4 σ H4 y z' u w' Q I4 r2 r4 q4))
theorem jD:(sizeLine:Nat)<2 ^ 63:=by rw[sizeLine_eq];decide
theorem n0{x:V}{us:List Value}(r:aM [x] us):∃u,us=[u]/\aR x u:=by
 cases r with
 |cons r1 r2=>cases r2;exact⟨_,rfl,r1⟩
theorem Dz{x y:V}{us:List Value}(r:aM [x,y] us):∃u w',us=[u,w']/\aR x u/\aR y w':=by
 cases r with
 |cons r1 r2 =>
  cases r2 with
  |cons r3 r4=>cases r4;exact⟨_,_,rfl,r1,r3⟩
def DB(K:Fg)(x:V)(H:Hp)(n:Nat):Prop :=
 match x with
 |.str y=>y.length<=sizeLine/\n=y.length
 |.byt y=>y.size<=sizeLine/\n=y.size
 |.ref p=>(∃xs,eI K H p xs/\n=xs.length)\/ ∃xs,gA K H p xs/\n=xs.length
 |_=>False
theorem call_len:j5 X (.builtin "len") (fun xs H Q=>∃x n,xs=[x]/\DB X.K x H n/\Q (.int n) H):=by
 intro pins s σ H xs us Q I r h
 obtain⟨x,n,rfl,e,q⟩:=h
 obtain⟨u,rfl,rx⟩:=n0 r
 have hl:=jD
 have hs:sizeLine=16777216:=sizeLine_eq
 cases x with
 |str y =>
  obtain⟨t,rfl⟩:=rx
  obtain⟨hy,e'⟩:y.length<=sizeLine/\n=y.length:=e
  subst e'
  exact len_str (by omega) ⟨.int _,H,I.tok _,⟨_,rfl⟩,q⟩
 |byt y =>
  obtain⟨t,rfl⟩:=rx
  obtain⟨hy,e'⟩:y.size<=sizeLine/\n=y.size:=e
  subst e'
  exact PySem.W.len_bytes (by omega) ⟨.int _,H,I.tok _,⟨_,rfl⟩,q⟩
 |ref p =>
  cases rx
  have e':(∃xs,eI X.K H p xs/\n=xs.length)\/ ∃xs,gA X.K H p xs/\n=xs.length:=e
  rcases e' with⟨xs,hx,e'⟩|⟨xs,hx,e'⟩
  ·subst e'
   obtain⟨its,r',pl,hz⟩:=I.list hx
   have hlen:=r'.length
   exact Calls.call_len_list pl.isList (by simp only[List.size_toArray];omega) ⟨.int xs.length,H,I.tok _,⟨_,by simp only[List.size_toArray];rw[hlen]⟩,q⟩
  ·subst e'
   obtain⟨its,r',pl,hz⟩:=I.tuple hx
   have hlen:=r'.length
   exact len_tuple pl (by simp only[List.size_toArray];omega) ⟨.int xs.length,H,I.tok _,⟨_,by simp only[List.size_toArray];rw[hlen]⟩,q⟩
 |_=>exact(show False from e).elim
end
end L2
namespace L2
open PySem PySem.Spec PyProof.Rows
structure oO(h:Heap)(x dx C:Addr)(mA:Str->Option Value):Prop where
 obj:h.get? x=some (PySem.W.instObj C dx)
 ns:h.Ns1 dx mA
 ne:dx≠x
theorem rE{h:Heap}{dx:Addr}{mA:Str->Option Value}(n:h.Ns1 dx mA):∃od,h.get? dx=some od/\ ∀name,PySem.W.lookIn name od=some (mA name):=by
 obtain⟨o,es,ep,ho,hd,hk,_,hm⟩:=n
 refine⟨o,ho,fun name=> ?_⟩
 have e:=hm name
 unfold nsFind findBy at e
 rw[<-Array.find?_toList]at e
 unfold PySem.W.lookIn
 rw[hd]
 dsimp only
 split
 ·rename_i y q
  rw[q]at e
  exact congrArg some e
 ·rename_i q
  rw[q]at e
  have a:es.toList.any (·.refKey)=false:=by
   rw[List.any_eq_false]
   intro y hy
   obtain⟨z,t,hkey⟩:=hk y (Array.mem_toList_iff.mp hy)
   simp[DictEntry.refKey,hkey]
  have a':¬es.toList.any (·.refKey)=true:=by rw[a];exact Bool.false_ne_true
  rw[if_neg a']
  exact congrArg some e
theorem oO.look{h:Heap}{x dx C:Addr}{mA:Str->Option Value}(I:oO h x dx C mA):∃od,PySem.W.InstAt h x (PySem.W.instObj C dx) C (some od)/\ ∀name,PySem.W.lookIn name od=some (mA name) :=
 let ⟨od,ho,hl⟩:=rE I.ns
 ⟨od,⟨I.obj,rfl,rfl,ho⟩,hl⟩
noncomputable section
variable{prog:Program}{w:World}{A:Around}{E:Value->Shared->Prop}{s:Shared}{K:Fg}{x dx C f:Addr}{mA:Str->Option Value}{name:Str}{v:Value}
theorem xJ{expr:Bool}{Q:Value->Shared->Prop}(X:K.In s.heap)(I:oO s.heap x dx C mA)(hg:PySem.W.plainGet K C name=true)(hh:PySem.W.hasDictIn K C=true)
  (ha:PySem.W.findIn K (.ref C) name=some none) (hv:mA name=some v) (hv':PySem.W.handedIn v=true) (h:Q v { s with toks:=s.toks+1 }) :
  wpAny .(An) A (getAttr (.ref x) name expr) Q E s:=by
 obtain⟨od,J,hl⟩:=I.look
 exact PySem.W.get_value X J (PySem.W.plainGet_of hg).1 (PySem.W.findObj_own hh ha rfl (by rw[hl,hv])) hv' h
theorem uh{pl:Sem Bool}{Q:Value×List Value->Shared->Prop}(X:K.In s.heap)(I:oO s.heap x dx C mA)(hg:PySem.W.plainGet K C name=true)
  (hf:PySem.W.findIn K (.ref C) name=some (some (.ref f))) (ht:PySem.W.isFn K (.ref f)=true) (hv:mA name=none) (h:Q (.ref f,[.ref x]) s) :
  wpAny .(An) A (getMethod (.ref x) name pl) Q E s:=by
 obtain⟨od,J,hl⟩:=I.look
 exact PySem.W.method_fn X J (PySem.W.plainGet_of hg).1 (PySem.W.plainGet_of hg).2 hf (beq_iff_eq.mp ht) (by show(PySem.W.lookIn name od).map (·.isSome)=some false;rw[hl,hv];rfl) h
theorem xK{ns:List Str}{Q:Unit->Shared->Prop}(X:K.In s.heap)(I:oO s.heap x dx C mA)
  (hs:PySem.W.findIn K (.ref C) "__setattr__"=some (some (.builtin "object.__setattr__"))) (hp:PySem.W.plainOver K C=true) (ht:PySem.W.takerIn K C name=some none) (hh:PySem.W.hasDictIn K C=true)
  (hw:PySem.Within mA ns) (hsz:ns.length<=sizeLine)
  (h:∀h',oO h' x dx C (fun y=>if y=name then some v else mA y)->Heap.SameBut dx s.heap h'->Q () { s with heap:=h',toks:=s.toks+2 }) :
  wpAny .(An) A (setAttr (.ref x) name v) Q E s:=by
 obtain⟨od,J,hl⟩:=I.look
 refine PySem.W.set_plain X J hs (PySem.W.osa_open (s:={ s with toks:=s.toks+1 }) (r:=none) X J hp ht fun b=> ?_)
 obtain⟨cd,hc,hd'⟩:=PySem.W.any_some hh
 have hx:s.heap.get? x=some ⟨.ref C,some dx,.plain, #[]⟩:=I.obj
 refine wpAny_bind (wpAny_pure (wpAny_bind (wpAny_bind (wpAny_loadPart hx (wpAny_bind (PySem.W.Looks.here (s:={ s with toks:=s.toks+1 }) (PySem.W.looks_clsIn X hc) ?_))))))
 rw[hd']
 refine wpAny_pure (a:=some dx) (wpAny_bind (wpAny_pure (wpAny_bind ?_)))
 refine wpAny_nsSet1 (s:={ s with toks:=s.toks+1 }) I.ns fun h' hn2 hs2=> ?_
 obtain⟨oD,esD,epD,hoD,hdD,hcD⟩:=hn2.count (PySem.Within.cons name v hw)
 refine wpAny_bind (wpAny_lookBehind hoD (by rw[hdD];exact pastItsLine_dict (Nat.le_trans hcD (by rw[List.length_cons];omega))) ?_)
 exact wpAny_pure (h _ ⟨(hs2.2 _ (Ne.symm I.ne)).trans I.obj,hn2,I.ne⟩ hs2)
theorem ui{R:Result->Shared->Prop}{vs:List Value}{kw:List (Str×Value)}(X:K.In s.heap)(hm:PySem.W.makesIn K C=true)
  (hi:PySem.W.findIn K (.ref C) "__init__"=some (some (.ref f))) (hf:PySem.W.typeIn K (.ref f)=some (.type "function"))
  (h:codeAny .(An) (A.under (.builtin "type.__call__" ⟨.ref C::vs,kw⟩)) (.call (.ref f) ⟨.ref .(U)::vs,kw⟩) (PySem.W.InitBack .(U) R)
   { s with heap:=(s.heap.push PySem.W.emptyDict).push (PySem.W.instObj C s.heap.objs.size) }) :
  codeAny .(An) A (.call (.ref C) ⟨vs,kw⟩) R s:=by
 obtain⟨hh,g,d,t,os⟩:=s
 exact PySem.W.make_core (PySem.W.makes_of X hm) (PySem.W.looks_findIn X hi) (fun self=>PySem.W.bind_fn X self hf) (.inl rfl) h
theorem rF{R:Result->Shared->Prop}(X:K.In s.heap)(hm:PySem.W.makesIn K C=true)
  (hi:PySem.W.findIn K (.ref C) "__init__"=some (some (.builtin "object.__init__")))
  (hb:∀self,PySem.W.Looks .(An) s.heap (bindSpecial (.builtin "object.__init__") self) (.builtin "object.__init__",[self]))
  (h:codeAny .(An) (A.under (.builtin "type.__call__" ⟨[.ref C],[]⟩)) (.call (.builtin "object.__init__") ⟨[.ref .(U)],[]⟩) (PySem.W.InitBack .(U) R)
   { s with heap:=(s.heap.push PySem.W.emptyDict).push (PySem.W.instObj C s.heap.objs.size) }) :
  codeAny .(An) A (.call (.ref C) ⟨[],[]⟩) R s:=by
 obtain⟨hh,g,d,t,os⟩:=s
 exact PySem.W.make_core (PySem.W.makes_of X hm) (PySem.W.looks_findIn X hi) hb (.inr ⟨rfl,rfl⟩) h
end
noncomputable def cC(f:Str)(v:V):List (Str×V)->List (Str×V)
 |[]=>[(f,v)]
 | (g,x)::r=>if g=f then(g,v)::r else(g,x)::cC f v r
theorem j6(f g:Str)(v:V):∀fs:List (Str×V),(cC f v fs).lookup g=if g=f then some v else fs.lookup g
 |[]=>by
  show List.lookup g [(f,v)]=_
  by_cases h:g=f
  ·have hb:(g == f)=true:=beq_iff_eq.mpr h
   simp only[List.lookup,hb,if_pos h]
  ·have hb:(g == f)=false:=beq_eq_false_iff_ne.mpr h
   simp only[List.lookup,hb,if_neg h]
 | (k,x)::r=>by
  have ih:=j6 f g v r
  rw[show cC f v ((k,x)::r)=(if k=f then(k,v)::r else(k,x)::cC f v r) from rfl]
  by_cases hk:k=f
  ·rw[if_pos hk]
   by_cases h:g=k
   ·have hb:(g == k)=true:=beq_iff_eq.mpr h
    simp only[List.lookup,hb,if_pos (h.trans hk)]
   ·have hb:(g == k)=false:=beq_eq_false_iff_ne.mpr h
    simp only[List.lookup,hb,if_neg (fun e:g=f=>h (e.trans hk.symm))]
  ·rw[if_neg hk]
   by_cases h:g=k
   ·have hb:(g == k)=true:=beq_iff_eq.mpr h
    simp only[List.lookup,hb,if_neg (fun e:g=f=>hk (h.symm.trans e))]
   ·have hb:(g == k)=false:=beq_eq_false_iff_ne.mpr h
    simp only[List.lookup,hb]
    exact ih
theorem iJ(f:Str)(v:V):∀fs:List (Str×V),f∈(cC f v fs).map (·.1)/\ ∀g,g∈fs.map (·.1)->g∈(cC f v fs).map (·.1)
 |[]=>⟨by simp[cC],fun g h=>by simp at h⟩
 | (k,x)::r=>by
  obtain⟨i1,i2⟩:=iJ f v r
  rw[show cC f v ((k,x)::r)=(if k=f then(k,v)::r else(k,x)::cC f v r) from rfl]
  by_cases hk:k=f
  ·rw[if_pos hk]
   subst hk
   exact⟨by simp,fun g h=>by simpa using h⟩
  ·rw[if_neg hk]
   refine⟨?_,fun g h=> ?_⟩
   ·rw[List.map_cons]
    exact List.mem_cons_of_mem _ i1
   ·rw[List.map_cons]at h ⊢
    rcases List.mem_cons.mp h with e|e
    ·exact List.mem_cons.mpr (.inl e)
    ·exact List.mem_cons_of_mem _ (i2 g e)
theorem j7(f:Str)(v:V):∀fs:List (Str×V),(cC f v fs).length<=fs.length+1
 |[]=>by simp[cC]
 | (k,x)::r=>by
  have ih:=j7 f v r
  rw[show cC f v ((k,x)::r)=(if k=f then(k,v)::r else(k,x)::cC f v r) from rfl]
  by_cases hk:k=f
  ·rw[if_pos hk,List.length_cons,List.length_cons];omega
  ·rw[if_neg hk,List.length_cons,List.length_cons];omega
theorem fU.some_of{v:V}{o:Option Value}(r:fU (some v) o):∃u,o=some u/\aR v u:=by
 cases o with
 |none=>exact(show False from r).elim
 |some u=>exact⟨u,rfl,r⟩
theorem fU.none_of{o:Option Value}(r:fU none o):o=none:=by
 cases o with
 |none=>rfl
 |some u=>exact(show False from r).elim
theorem rG{v:V}{u:Value}(r:aR v u):PySem.W.handedIn u=true:=by
 cases v with
 |non=>cases (show u=Value.none from r);rfl
 |bl b=>cases (show u=Value.bool b from r);rfl
 |int i=>obtain⟨t,e⟩:=(show ∃t,u=Value.int i t from r);cases e;rfl
 |str x=>obtain⟨t,e⟩:=(show ∃t,u=Value.str x t from r);cases e;rfl
 |byt b=>obtain⟨t,e⟩:=(show ∃t,u=Value.bytes b t from r);cases e;rfl
 |flt b=>obtain⟨t,e⟩:=(show ∃t,u=Value.float b t from r);cases e;rfl
 |ref a=>cases (show u=Value.ref a from r);rfl
 |ty n=>cases (show u=Value.type n from r);rfl
noncomputable section
variable{P:Program}{w:World}{H H':Hp}{h h':Heap}{a C dx:Addr}{fs fs':List (Str×V)}
theorem gY(hok:gz P w H h)(e:H a=some (.ins C dx fs)):∃mA,oO h a dx C mA/\(∀f,fU (fs.lookup f) (mA f))/\PySem.Within mA (fs.map (·.1))/\fs.length<=1000/\H dx=some (.own a):=by
 obtain⟨d,z,ne,ob,mA,n,r,q⟩:=(show bJ P w H h a (.ins C dx fs) from hok a _ e)
 exact⟨mA,⟨ob,n,ne⟩,r,q,z,d⟩
end
structure kN(K:Fg)(C:Addr):Prop where
 pg:PySem.W.plainGet K C Str.empty=true
 hd:PySem.W.hasDictIn K C=true
 po:PySem.W.plainOver K C=true
 sa:PySem.W.findIn K (.ref C) "__setattr__"=some (some (.builtin "object.__setattr__"))
theorem kN.get{K:Fg}{C:Addr}(c:kN K C)(f:Str):PySem.W.plainGet K C f=true:=c.pg
def bq(K:Fg)(C:Addr)(f:Str):Prop:=PySem.W.findIn K (.ref C) f=some none
theorem bq.taker{K:Fg}{C:Addr}{f:Str}(n:bq K C f):PySem.W.takerIn K C f=some none:=by
 unfold PySem.W.takerIn
 rw[show PySem.W.findIn K (.ref C) f=some none from n]
 rfl
structure cX(K:Fg)(C:Addr)(m:Str)(f:Addr):Prop where
 at_:PySem.W.findIn K (.ref C) m=some (some (.ref f))
 fn:PySem.W.isFn K (.ref f)=true
 kp:PySem.W.keepIn K (.ref f)=true
noncomputable section
variable{X:Cx}{pins:List (Addr×Obj)}{σ :St}{H:Hp}{s:Shared}{a C dx:Addr}{fs:List (Str×V)}{f:Str}{v:V}{A:Around}{E:Value->Shared->Prop}
theorem jE{b:Bool}{Q:Value->Shared->Prop}(I:aA X pins σ H s)(e:H a=some (.ins C dx fs))(c:kN X.K C)(n:bq X.K C f)(l:fs.lookup f=some v)
  (h:∀u s',aA X pins σ H s'->aR v u->Q u s'):wpAny .(E) A (getAttr (.ref a) f b) Q E s:=by
 obtain⟨mA,O,r,_,_,_⟩:=gY I.hok e
 obtain⟨u,hu,ru⟩:=fU.some_of (v:=v) (o:=mA f) (by rw[<-l];exact r f)
 exact xJ I.kIn O (c.get f) c.hd n hu (rG ru) (h u _ (I.tok _) ru)
theorem jF{m:Str}{g:Addr}{pl:Sem Bool}{Q:Value×List Value->Shared->Prop}(I:aA X pins σ H s)(e:H a=some (.ins C dx fs))(c:kN X.K C)(k:cX X.K C m g)(l:fs.lookup m=none)
  (h:Q (.ref g,[.ref a]) s):wpAny .(E) A (getMethod (.ref a) m pl) Q E s:=by
 obtain⟨mA,O,r,_,_,_⟩:=gY I.hok e
 have hn:mA m=none:=fU.none_of (by rw[<-l];exact r m)
 exact uh I.kIn O (c.get m) k.at_ k.fn hn h
theorem oP{y:V}{u:Value}{Q:Unit->Shared->Prop}(I:aA X pins σ H s)(e:H a=some (.ins C dx fs))(c:kN X.K C)(n:bq X.K C f)(hl:fs.length<1000)(ry:aR y u)
  (h:∀s',aA X pins σ (upd H a (.ins C dx (cC f y fs))) s'->Q () s'):wpAny .(E) A (setAttr (.ref a) f u) Q E s:=by
 obtain⟨mA,O,r,wi,_,ho⟩:=gY I.hok e
 have hz:(fs.map (·.1)).length<=sizeLine:=by rw[List.length_map,sizeLine_eq];omega
 refine xK I.kIn O c.sa c.po n.taker c.hd wi hz fun h' O' sb=>h _ ?_
 have hd:∃o,h'.get? dx=some o:=let ⟨o,_,_,e',_⟩:=O'.ns;⟨o,e'⟩
 refine I.write (x:=a) (e:=dx) (by rw[e];exact True.intro) (.inr ho) (fun b q hb z=>(sb.2 b hb).trans z) hd ?_
 refine⟨by rw[aw O.ne];exact ho,?_,O.ne,O'.obj,_,O'.ns,fun g=> ?_,fun g hg=> ?_⟩
 ·have:=j7 f y fs;omega
 ·show fU ((cC f y fs).lookup g) (if g=f then some u else mA g)
  rw[j6]
  by_cases q:g=f
  ·rw[if_pos q,if_pos q];exact ry
  ·rw[if_neg q,if_neg q];exact r g
 ·by_cases q:g=f
  ·rw[q];exact(iJ f y fs).1
  ·refine(iJ f y fs).2 g (wi g fun z=>hg ?_)
   show(if g=f then some u else mA g)=none
   rw[if_neg q];exact z
theorem aA.made(I:aA X pins σ H s):aA X pins σ (upd (upd H s.heap.objs.size (.own .(U))) .(U) (.ins C s.heap.objs.size []))
  { s with heap:=(s.heap.push PySem.W.emptyDict).push (PySem.W.instObj C s.heap.objs.size) }:=by
 have e1:(s.heap.push PySem.W.emptyDict).get? s.heap.objs.size=some PySem.W.emptyDict:=Heap.get?_push_size s.heap rfl
 have e2:((s.heap.push PySem.W.emptyDict).push (PySem.W.instObj C s.heap.objs.size)).get? .(U)=some (PySem.W.instObj C s.heap.objs.size):=by
  have:=Heap.get?_push_size (s.heap.push PySem.W.emptyDict) (o:=PySem.W.instObj C s.heap.objs.size) rfl
  rwa [Heap.size_push]at this
 have e3:(s.heap.push PySem.W.emptyDict).Ns s.heap.objs.size (fun _=>none):=⟨PySem.W.emptyDict, #[],_,e1,rfl,(fun e he=>absurd he (by simp)),fun _=>rfl⟩
 have I1:=I.laid (a:=s.heap.objs.size) (o:= .own .(U)) (h':=s.heap.push PySem.W.emptyDict) (t':=s.toks) (fun b u q=>Heap.get?_push_of_some _ q) .(Ao) ⟨_,e1⟩
 refine I1.laid (a:=s.heap.objs.size+1) (o:= .ins C s.heap.objs.size []) (t':=s.toks) (fun b u q=>Heap.get?_push_of_some _ q) (Nat.le_of_eq (Heap.size_push _ _)) ?_
 have ne:s.heap.objs.size≠s.heap.objs.size+1:=Nat.ne_of_lt (Nat.lt_succ_self _)
 refine⟨by rw[aw ne,ax],Nat.zero_le _,ne,e2,fun _=>none,(Heap.Ns1.of_empty e3).at fun o q=>Heap.get?_push_of_some _ q,fun _=>True.intro,fun y hy=>absurd rfl hy⟩
theorem xL{prog:Program}{w:World}{env:Env}{e:Expr}{f:Str}{pos:Pos}{s:Shared}{Q:Value->Shared->Prop}(hb:attributeBase e f env (eval e env)=eval e env)
  (h:wpAny .(An) A (eval e env) (fun o s₁=>wpAny .(An) A (getAttr o f true) Q E s₁) E s):wpAny .(An) A (eval (.Attribute e f pos) env) Q E s :=
 Attribute_any_ h (by rw[arm_eval_Attribute,hb])
end
def DC(K:Fg)(ta:TE)(f:Str):TE:=fun σ H Q=>ta σ H fun x H1=>∃a C dx fs v,x= .ref a/\H1 a=some (.ins C dx fs)/\kN K C/\bq K C f/\fs.lookup f=some v/\Q v H1
def Hb(K:Fg)(ta tv:TE)(f:Str):TS:=fun D σ H=>tv σ H fun y H1=>ta σ H1 fun x H2=>∃a C dx fs,x= .ref a/\H2 a=some (.ins C dx fs)/\kN K C/\bq K C f/\fs.length<1000 /\
 D.nx σ (upd H2 a (.ins C dx (cC f y fs)))
noncomputable section
variable{X:Cx}{o e value:Expr}{f:Str}{pos pos' tpos:Pos}{ta tv:TE}
theorem uj(he:PE X e ta)(hb:attributeBase e f X.env (eval e X.env)=eval e X.env):PE X (.Attribute e f pos) (DC X.K ta f):=by
 intro pins s σ H Q I h
 refine xL hb (bC (he pins s σ H _ I h) fun u s1 ⟨x,H1,I1,rx,a,C,dx,fs,v,ex,ea,c,n,l,q⟩=> ?_)
 subst ex
 obtain rfl:u=Value.ref a:=rx
 exact jE I1 ea c n l fun u' s2 I2 ru=>⟨v,H1,I2,ru,q⟩
theorem dZ(ha:PE X o ta)(hv:PE X value tv)(hs:swapsWith value (some (.Attribute o f pos')) pos.line X.env=pure false):PS X (.Assign [.Attribute o f pos'] value pos) (Hb X.K ta tv f):=by
 intro pins s σ H D I h
 refine plainObj_wpAny_Assign_Attribute (bC (hv pins s σ H _ I h) fun u s1 ⟨y,H1,I1,ry,q⟩=>bC (ha pins s1 σ H1 _ I1 q) fun ov s2 ⟨x,H2,I2,rx,a,C,dx,fs,ex,ea,c,n,l,q2⟩=> ?_) hs
 subst ex
 obtain rfl:ov=Value.ref a:=rx
 exact oP I2 ea c n l ry fun s3 I3=>⟨σ,_,I3,q2⟩
end
noncomputable section
variable{X:Cx}{pins:List (Addr×Obj)}{σ :St}{H:Hp}{s:Shared}{A:Around}{E:Value->Shared->Prop}{Q:Value->Shared->Prop}{c:Value}{b:Bool}
inductive gZ (K:Fg) (H:Hp):V->Value->Prop where
 |non:gZ K H .non (.type "NoneType")
 |bl (x:Bool):gZ K H (.bl x) (.type "bool")
 |int (i:Int):gZ K H (.int i) (.type "int")
 |str (x:Str):gZ K H (.str x) (.type "str")
 |flt (x:UInt64):gZ K H (.flt x) (.type "float")
 |lst {a:Addr} {xs:List V} (e:H a=some (.lst xs)):gZ K H (.ref a) (.type "list")
 |frz {a:Addr} {o:Obj} {xs:List V} (e:H a=some (.frz o (.lst xs))):gZ K H (.ref a) (.type "list")
 |tup {a:Addr} {xs:List V} (e:H a=some (.tup xs)):gZ K H (.ref a) (.type "tuple")
 |dK {a:Addr} {kvs:List (Key×V)} {ep:Nat} (e:H a=some (.dK kvs ep)):gZ K H (.ref a) (.type "dict")
 |dT {a:Addr} {kvs:List (List Key×V)} {ep:Nat} (e:H a=some (.dT kvs ep)):gZ K H (.ref a) (.type "dict")
 |ins {a C dx:Addr} {fs:List (Str×V)} (e:H a=some (.ins C dx fs)) (cl:kN K C) (ha:PySem.W.findIn K (.ref C) "__class__"=some (some (.builtin "object.__class__")))
   (hn:PySem.W.specialIn K (.builtin "object.__class__") "__get__"=some (some (.builtin "getset_descriptor.__get__"))) (htk:PySem.W.takesIn K (.builtin "object.__class__")=some true)
   (hm:PySem.W.mroIn K C (.type "object")=some true):gZ K H (.ref a) (.ref C)
theorem dW{x:V}{u t:Value}(I:aA X pins σ H s)(rx:aR x u)(ty:gZ X.K H x t)(e:PySem.W.kitOne X.K t c=some b)(h:∀tk,Q (.bool b) { s with toks:=tk }) :
  wpAny .(E) A (call (.builtin "isinstance") [u,c]) Q E s:=by
 cases ty with
 |non=>cases (show u=Value.none from rx);exact PySem.W.kia_one PySem.W.kitx_none I.kIn True.intro e (fun z=>nomatch z) h
 |bl y=>cases (show u=Value.bool y from rx);exact PySem.W.kia_one PySem.W.kitx_bool I.kIn True.intro e (fun z=>nomatch z) h
 |int i=>obtain⟨t,q⟩:=(show ∃t,u=Value.int i t from rx);cases q;exact PySem.W.kia_one PySem.W.kitx_int I.kIn True.intro e (fun z=>nomatch z) h
 |str y=>obtain⟨t,q⟩:=(show ∃t,u=Value.str y t from rx);cases q;exact PySem.W.kia_one PySem.W.kitx_str I.kIn True.intro e (fun z=>nomatch z) h
 |flt y=>obtain⟨t,q⟩:=(show ∃t,u=Value.float y t from rx);cases q;exact PySem.W.kia_one PySem.W.kitx_float I.kIn True.intro e (fun z=>nomatch z) h
 | @lst a xs ea =>
  cases (show u=Value.ref a from rx)
  obtain⟨_,_,n,_,h1⟩:=(show bJ X.prog X.w H s.heap a (.lst xs) from I.hok a _ ea)
  exact PySem.W.kia_one PySem.W.kitx_list I.kIn ⟨_,h1,rfl⟩ e (fun z=>nomatch z) h
 | @frz a ob xs ea =>
  cases (show u=Value.ref a from rx)
  obtain⟨_,_,_,n,_,h1⟩:=(show bJ X.prog X.w H s.heap a (.frz ob (.lst xs)) from I.hok a _ ea)
  exact PySem.W.kia_one PySem.W.kitx_list I.kIn ⟨_,h1,rfl⟩ e (fun z=>nomatch z) h
 | @tup a xs ea =>
  cases (show u=Value.ref a from rx)
  obtain⟨_,_,_,p⟩:=(show bJ X.prog X.w H s.heap a (.tup xs) from I.hok a _ ea)
  obtain⟨o,h1,h2,_⟩:=p
  exact PySem.W.kia_one PySem.W.kitx_tuple I.kIn ⟨o,h1,h2⟩ e (fun z=>nomatch z) h
 | @dK a kvs ep ea =>
  cases (show u=Value.ref a from rx)
  obtain⟨_,_,vs,_,p⟩:=(show bJ X.prog X.w H s.heap a (.dK kvs ep) from I.hok a _ ea)
  obtain⟨o,es,h1,h2,_⟩:=p
  exact PySem.W.kia_one PySem.W.kitx_dict I.kIn ⟨o,h1,h2.1⟩ e (fun z=>nomatch z) h
 | @dT a kvs ep ea =>
  cases (show u=Value.ref a from rx)
  obtain⟨_,_,xs,_,o,es,h1,h2,_⟩:=(show bJ X.prog X.w H s.heap a (.dT kvs ep) from I.hok a _ ea)
  exact PySem.W.kia_one PySem.W.kitx_dict I.kIn ⟨o,h1,h2.1⟩ e (fun z=>nomatch z) h
 | @ins a C dx fs ea cl ha hn htk hm =>
  cases (show u=Value.ref a from rx)
  obtain⟨mA,O,_⟩:=gY I.hok ea
  obtain⟨od,J,_⟩:=O.look
  exact PySem.W.kia_one (PySem.W.kitx_own (cl.get _) cl.hd ha hn htk hm) I.kIn J e (fun z=>nomatch z) h
end
end L2
namespace L2
open PySem PySem.Spec PyProof.Rows
structure bv(k:Nat)(A:Around):Prop where
 hd:A.handled=none
 dp:A.depth+3*k+5<recursionLimit
 un:A.units+16*k+200<cLine
theorem bv.mono{j k:Nat}{A:Around}(r:bv k A)(h:j<=k):bv j A:=⟨r.hd,by have:=r.dp;omega,by have:=r.un;omega⟩
theorem bv.s{k:Nat}{A:Around}(h:bv (k+1) A):bv k A:=h.mono (Nat.le_succ _)
theorem bv.deeper{k:Nat}{A:Around}(r:bv (k+1) A)(env:Env):bv k (A.deeper env) :=
 ⟨r.hd,by have:=r.dp;show A.depth+1+3*k+5<_;omega,by have:=r.un;show A.units+3+16*k+200<_;omega⟩
theorem oQ{A:Around}{C:Addr}{us:List Value}{kw:List (Str×Value)}:(A.under (.builtin "type.__call__" ⟨.ref C::us,kw⟩)).depth=A.depth+1:=by
 first|rfl|simp[Around.under,Code.weight,Code.isCreation,Code.isGuard,Code.isCaller,Code.frames,Code.isFrame,guardIds]
theorem oR{A:Around}{C:Addr}{us:List Value}{kw:List (Str×Value)}:(A.under (.builtin "type.__call__" ⟨.ref C::us,kw⟩)).units=A.units+1:=by
 first|rfl|simp[Around.under,Code.cUnits,Code.frames,Code.isFrame]
theorem bv.make{k:Nat}{A:Around}(r:bv (k+1) A)(C:Addr)(us:List Value)(kw:List (Str×Value)):bv k (A.under (.builtin "type.__call__" ⟨.ref C::us,kw⟩)) :=
 ⟨r.hd,by have:=r.dp;rw[oQ];omega,by have:=r.un;rw[oR];omega⟩
theorem bv.depth{k:Nat}{A:Around}(r:bv k A):A.depth<recursionLimit:=by have:=r.dp;omega
theorem bv.units{k:Nat}{A:Around}(r:bv k A):A.units+64<cLine:=by have:=r.un;omega
def DD:TA:=fun _ H Q=>Q [] H
def DE(ta:TE)(tr:TA):TA:=fun σ H Q=>ta σ H fun x H1=>tr σ H1 fun xs H2=>Q (x::xs) H2
noncomputable section
variable{X:Cx}{e:Expr}{es:List Expr}{te:TE}{t:TA}{pos:Pos}
theorem fB:PA X [] DD:=fun _ _ _ _ H Q I h=>Calls.spliced_nil ⟨[],H,I,.nil,h⟩
theorem dg(ha:PE X e te)(hr:PA X es t)(hs:starEach (e::es) X.env=.(S)::starEach es X.env:=by rfl):PA X (e::es) (DE te t):=by
 intro pos pins s σ H Q I h
 rw[hs]
 show wpAny _ _ (spliced (.(S)::backTo pos (starEach es X.env))) _ _ s
 refine Calls.spliced_cons (bC (ha pins s σ H _ I h) fun u s1 ⟨x,H1,I1,r1,q1⟩=> ?_)
 exact bC (hr pos pins s1 σ H1 _ I1 q1) fun us s2 ⟨xs,H2,I2,r2,q2⟩=>⟨x::xs,H2,I2,.cons r1 r2,q2⟩
def Hc(t:TA):TE:=fun σ H Q=>t σ H fun xs H1=>xs.length<=sizeLine/\ ∀p,H1 p=none->Q (.ref p) (upd H1 p (.tup xs))
def Hd(t:TA):TE:=fun σ H Q=>t σ H fun xs H1=>xs.length<=sizeLine/\ ∀p,H1 p=none->Q (.ref p) (upd H1 p (.lst xs))
theorem uk{x1}(h:PA X es t):PE X (.Tuple es x1 pos) (Hc t):=by
 intro pins s σ H Q I hq
 refine wpAny_Tuple_spliced (bC (h pos pins s σ H _ I hq) fun us s1 ⟨xs,H1,I1,r,z,q⟩=>⟨by rw[<-r.length];exact z,?_⟩)
 have hf:H1 s1.heap.objs.size=none:=I1.hok.fresh .(Ao)
 refine⟨.ref s1.heap.objs.size,upd H1 s1.heap.objs.size (.tup xs),I1.laid (t':=s1.toks) (fun b u e=>Heap.get?_push_of_some _ e) .(Ao) ?_,rfl,q _ hf⟩
 exact⟨z,us,r,⟨_,Heap.get?_push_size _ rfl,rfl,_,rfl⟩⟩
theorem Az(h:PA X es t):PE X (.List es pos) (Hd t):=by
 intro pins s σ H Q I hq
 refine wpAny_List_spliced (bC (h pos pins s σ H _ I hq) fun us s1 ⟨xs,H1,I1,r,z,q⟩=>⟨by rw[<-r.length];exact z,?_⟩)
 have hf:H1 s1.heap.objs.size=none:=I1.hok.fresh .(Ao)
 refine⟨.ref s1.heap.objs.size,upd H1 s1.heap.objs.size (.lst xs),I1.laid (t':=s1.toks) (fun b u e=>Heap.get?_push_of_some _ e) .(Ao) ?_,rfl,q _ hf⟩
 exact⟨z,us,0,r,Heap.get?_push_size _ rfl⟩
end
abbrev Sp:=List V->Hp->VK->XK->Prop
abbrev jG:=List Env->Hp->Shared->XK->Value->Shared->Prop
structure lH(P:Program)(w:World)(K:Fg)(mg:Str->Option Value)(base:Bs)(A:Around)(outer:List Env)(s:Shared)(H:Hp):Prop where
 frames:A.frames=some outer
 mod:Mod K mg base
 bs:∀b o,base.get? b=some o->s.heap.get? b=some o/\H b=none
 bsz:base.objs.size<=s.heap.objs.size
 funs:s.heap.FunFrames base outer
 frf:∀b∈frs outer,H b=none
 hok:gz P w H s.heap
 bare:AllBare s.gens
 tab:∀P∈base.tabs,H P=some (.tbl 0)
def CE(outer:List Env)(P:Program)(w:World)(H:Hp)(s:Shared)(Q:VK)(u:Value)(s':Shared):Prop :=
 ∃v H',s'.os=s.os/\AllBare s'.gens/\Un (frs outer) [] H H' s.heap s'.heap/\gz P w H' s'.heap/\aR v u/\Q v H'
def CR(CX:jG)(outer:List Env)(P:Program)(w:World)(H:Hp)(s:Shared)(Q:VK)(E:XK)(r:Result)(s':Shared):Prop :=
 match r with
 |.ok (.ret u)=>CE outer P w H s Q u s'
 |.ok _=>False
 |.error e=>CX outer H s E e s'
structure cY(P:Program)(w:World)(K:Fg)(mg:Str->Option Value)(base:Bs)(CX:jG)(k:Nat)(f:Addr)(fd:FuncData)(ps:List Str)(sp:Sp):Prop where
 len:∀vs H Q E,sp vs H Q E->vs.length=ps.length
 run:∀(A:Around) (outer:List Env) (s:Shared) (H:Hp) (args:Args) (us:List Value) (vs:List V) (Q:VK) (E:XK),bv k A->lH P w K mg base A outer s H->BindsTo s fd args (ps.zip us)->aM vs us->sp vs H Q E ->
  codeAny (model P w) A (.call (.ref f) args) (CR CX outer P w H s Q E) s
theorem cY.imp{P:Program}{w:World}{K:Fg}{mg:Str->Option Value}{base:Bs}{CX:jG}{k:Nat}{f:Addr}{fd:FuncData}{ps:List Str}{sp sp':Sp}(F:cY P w K mg base CX k f fd ps sp)
  (h:∀vs H Q E,sp' vs H Q E->sp vs H Q E):cY P w K mg base CX k f fd ps sp' :=
 ⟨fun vs H Q E q=>F.len vs H Q E (h _ _ _ _ q),fun A outer s H args us vs Q E hr he hb hv hs=>F.run A outer s H args us vs Q E hr he hb hv (h _ _ _ _ hs)⟩
theorem lH.make{P:Program}{w:World}{K:Fg}{mg:Str->Option Value}{base:Bs}{A:Around}{outer:List Env}{s:Shared}{H:Hp}(e:lH P w K mg base A outer s H)(C:Addr)(us:List Value)(kw:List (Str×Value)) :
  lH P w K mg base (A.under (.builtin "type.__call__" ⟨.ref C::us,kw⟩)) outer s H:=⟨by first|exact e.frames|(simpa[Around.under,Code.envs,Code.isFrame,pushEnvs]using e.frames),e.mod,e.bs,e.bsz,e.funs,e.frf,e.hok,e.bare,e.tab⟩
noncomputable section
variable{X:Cx}{pins:List (Addr×Obj)}{σ :St}{H:Hp}{s s':Shared}
theorem aA.env0(I:aA X pins σ H s):lH X.prog X.w X.K X.mg X.base X.A X.stack s H :=
 ⟨I.ok.frames,I.ok.mod,I.bs,Nat.le_trans I.ok.bsz I.sz,I.stack,I.stkFree,I.hok,I.bare,fun P z=>I.base.tbls P 0 (I.ok.tab P z)⟩
theorem aA.after{Q:VK}{u:Value}(I:aA X pins σ H s)(h:CE X.stack X.prog X.w H s Q u s'):EP X pins σ Q u s':=by
 obtain⟨v,H',os,bare,un,hok,r,q⟩:=h
 obtain⟨hh,g,d,t,os'⟩:=s'
 obtain rfl:os'=s.os:=os
 exact⟨v,H',I.call (h':=hh) (g':=g) (d':=d) (t':=t) (ch:=[]) un hok bare (fun b z=>absurd z (by simp)),r,q⟩
end
def DF(sp:Sp)(dvs:List V)(E:XK)(t:TA):TE:=fun σ H Q=>t σ H fun vs H1=>sp (vs++dvs) H1 Q E
def zl(C:Addr)(sp:Sp)(dvs:List V)(E:XK)(t:TA):TE:=fun σ H Q=>t σ H fun vs H1=>∀x dx,H1 x=none->H1 dx=none->dx≠x ->
 sp (.ref x::(vs++dvs)) (upd (upd H1 dx (.own x)) x (.ins C dx [])) (fun v H2=>v= .non/\Q (.ref x) H2) E
def bw(K:Fg)(fd:FuncData)(ps:List Str)(ds:List Value):Prop :=
 ∀(s:Shared) (us:List Value),K.In s.heap->(us++ds).length=ps.length->BindsTo s fd ⟨us,[]⟩ (ps.zip (us++ds))
theorem bw.all{K:Fg}{fd:FuncData}{ps:List Str}(h:∀us:List Value,us.length=ps.length->bindArgs fd ⟨us,[]⟩=pure (ps.zip us)):bw K fd ps []:=fun s us _ hl=>by
 rw[List.append_nil]at hl ⊢
 exact .of_eq (h us hl)
def eQ(CX:jG)(X:Cx)(E:XK):Prop:=∀(pins:List (Addr×Obj)) (σ :St) (H:Hp) (s:Shared) (e:Value) (s':Shared),aA X pins σ H s->CX X.stack H s E e s'->X.xe e s'
noncomputable section
variable{X:Cx}{CX:jG}{k:Nat}{f C:Addr}{fd:FuncData}{ps:List Str}{sp:Sp}{dvs:List V}{ds:List Value}{E:XK}{x m:Str}{p pos apos:Pos}{e o:Expr}{es:List Expr}{ta:TE}{t:TA}
theorem oS{pins:List (Addr×Obj)}{σ :St}{H:Hp}{s:Shared}{Q:VK}{us:List Value}{vs:List V}(F:cY X.prog X.w X.K X.mg X.base CX k f fd ps sp)(hr:bv k X.A)(hb:bw X.K fd ps ds)(hd:aM dvs ds)(hx:eQ CX X E)
  (I:aA X pins σ H s) (r:aM vs us) (h:sp (vs++dvs) H Q E):wpAny .(E) X.A (call (.ref f) us) (EP X pins σ Q) X.xe s:=by
 have r2:aM (vs++dvs) (us++ds):=r.append hd
 have hl:(us++ds).length=ps.length:=by rw[<-r2.length];exact F.len _ _ _ _ h
 refine wpAny_call (codeAny_mono (F.run X.A X.stack s H ⟨us,[]⟩ (us++ds) (vs++dvs) Q E hr I.env0 (hb s us I.kIn hl) r2 h) fun r s' hq=> ?_)
 cases r with
 |error e=>exact hx pins σ H s e s' I hq
 |ok fl =>
  cases fl with
  |ret u=>exact I.after hq
  |next=>exact False.elim hq
  |brk=>exact False.elim hq
  |cont=>exact False.elim hq
theorem xM(F:cY X.prog X.w X.K X.mg X.base CX k f fd ps sp)(hr:bv k X.A)(hg:Gl X x)(hm:X.mg x=some (.ref f))(hk:PySem.W.keepIn X.K (.ref f)=true)(hb:bw X.K fd ps ds)(hd:aM dvs ds)(hx:eQ CX X E)
  (ha:PA X (e::es) t) (hdb:(x == .(L))=false:=by decide) (he:starEach (e::es) X.env=.(S)::starEach es X.env:=by rfl) (hpl:.(V).any (·.1)=false:=by rfl) :
  PE X .(Am) (DF sp dvs E t):=by
 intro pins s σ H Q I h
 refine wpAny_Call_Name_kw (gW I hg hm ?_ hdb)
 refine PySem.W.callWith_K (h₀:=X.base) I.ok.mod.kin hk (bC (ha pos pins s σ H _ I h) fun us s1 ⟨vs,H1,I1,r,q⟩=>⟨I1.kIn,?_⟩) he hpl
 exact oS F hr hb hd hx I1 r q
structure Mk(K:Fg)(C f:Addr):Prop where
 makes:PySem.W.makesIn K C=true
 init:PySem.W.findIn K (.ref C) "__init__"=some (some (.ref f))
 fn:PySem.W.isFn K (.ref f)=true
 kp:PySem.W.keepIn K (.ref C)=true
theorem n6{pins:List (Addr×Obj)}{σ :St}{H:Hp}{s:Shared}{Q:VK}{us:List Value}{vs:List V}(M:Mk X.K C f)(F:cY X.prog X.w X.K X.mg X.base CX k f fd ps sp)(hr:bv (k+1) X.A)(hb:bw X.K fd ps ds)(hd:aM dvs ds)
  (hx:eQ CX X E) (I:aA X pins σ H s) (r:aM vs us)
  (h:∀x dx,H x=none->H dx=none->dx≠x->sp (.ref x::(vs++dvs)) (upd (upd H dx (.own x)) x (.ins C dx [])) (fun v H2=>v= .non/\Q (.ref x) H2) E) :
  wpAny .(E) X.A (call (.ref C) us) (EP X pins σ Q) X.xe s:=by
 have hq:=h .(U) s.heap.objs.size (I.hok.fresh (Nat.le_succ _)) (I.hok.fresh .(Ao)) (Nat.ne_of_lt (Nat.lt_succ_self _))
 have I2:=aA.made (C:=C) I
 have r2:aM (V.ref .(U)::(vs++dvs)) (Value.ref .(U)::(us++ds)):= .cons rfl (r.append hd)
 have hl:(Value.ref .(U)::us++ds).length=ps.length:=by
  have e:=r2.length
  rw[F.len _ _ _ _ hq]at e
  exact e.symm
 refine wpAny_call (ui (f:=f) I.kIn M.makes M.init (beq_iff_eq.mp M.fn) (codeAny_mono (F.run _ X.stack _ _ ⟨Value.ref .(U)::us,[]⟩ (Value.ref .(U)::(us++ds)) _ _ E (hr.make C us [])
  (I2.env0.make C us []) (hb _ (Value.ref .(U)::us) I2.kIn hl) r2 hq) fun r s' hq'=> ?_))
 cases r with
 |error e=>exact hx pins σ _ _ e s' I2 hq'
 |ok fl =>
  cases fl with
  |ret u =>
   obtain⟨v,H',I3,rv,ev,q3⟩:=I2.after hq'
   subst ev
   exact⟨rv,⟨V.ref .(U),H',I3,rfl,q3⟩⟩
  |next=>exact False.elim hq'
  |brk=>exact False.elim hq'
  |cont=>exact False.elim hq'
theorem xN(M:Mk X.K C f)(F:cY X.prog X.w X.K X.mg X.base CX k f fd ps sp)(hr:bv (k+1) X.A)(hg:Gl X x)(hm:X.mg x=some (.ref C))(hb:bw X.K fd ps ds)(hd:aM dvs ds)(hx:eQ CX X E)
  (ha:PA X (e::es) t) (hdb:(x == .(L))=false:=by decide) (he:starEach (e::es) X.env=.(S)::starEach es X.env:=by rfl) (hpl:.(V).any (·.1)=false:=by rfl) :
  PE X .(Am) (zl C sp dvs E t):=by
 intro pins s σ H Q I h
 refine wpAny_Call_Name_kw (gW I hg hm ?_ hdb)
 refine PySem.W.callWith_K (h₀:=X.base) I.ok.mod.kin M.kp (bC (ha pos pins s σ H _ I h) fun us s1 ⟨vs,H1,I1,r,q⟩=>⟨I1.kIn,?_⟩) he hpl
 exact n6 M F hr hb hd hx I1 r q
end
noncomputable section
variable{X:Cx}{CX:jG}{k:Nat}{f C:Addr}{fd:FuncData}{ps ks:List Str}{sp:Sp}{E:XK}{x m:Str}{p pos apos kpos:Pos}{e o:Expr}{es:List Expr}{kws:List Keyword}{te ta:TE}{t tk:TA}{nm:Option Str}
variable{g:List Value->List Value->List Value}{gV:List V->List V->List V}
end
structure ap(N P:List Str)(sc:Scope):Prop where
 kind:sc.kind= .function
 co:sc.isCoroutine=false
 gen:sc.isGenerator=false
 nd:N.Nodup
 pre:N.take P.length=P
 par:∀x∈P,sc.names.lookup x=some .local\/sc.names.lookup x=some .cell
 nofree:∀y∈sc.names,y.2 ≠ .free
theorem ap.q{N P:List Str}{sc:Scope}(a:sc.kind= .function:=by rfl)(b:sc.isCoroutine=false:=by rfl)(c:sc.isGenerator=false:=by rfl)(d:N.Nodup:=by decide +kernel)(e:N.take P.length=P:=by rfl)(g:∀x∈P,sc.names.lookup x=some .local\/sc.names.lookup x=some .cell:=by decide +kernel)(h:∀y∈sc.names,y.2 ≠ .free:=by decide +kernel):ap N P sc:=⟨a,b,c,d,e,g,h⟩
theorem kO{kindOf:Str->Option NameKind}{x:Str}:∀{binds:List (Str×Value)} {m:Str->Option Value},(∀v,(x,v)∉binds)->bindL kindOf binds m x=m x
 |[],_,_=>rfl
 | (n,v)::r,m,h=>by
  unfold bindL
  rw[kO fun w hw=>h w (List.mem_cons_of_mem _ hw)]
  split
  ·have:x≠n:=by rintro rfl;exact h v List.mem_cons_self
   simp[this]
  ·rfl
theorem kP{kindOf:Str->Option NameKind}{x:Str}:∀{binds:List (Str×Value)} {m:Str->Option Value},(∀v,(x,v)∉binds)->bindC kindOf binds m x=m x
 |[],_,_=>rfl
 | (n,v)::r,m,h=>by
  unfold bindC
  rw[kP fun w hw=>h w (List.mem_cons_of_mem _ hw)]
  split
  ·rfl
  ·have:x≠n:=by rintro rfl;exact h v List.mem_cons_self
   simp[this]
theorem kQ{kindOf:Str->Option NameKind}{x:Str}{v:Value}:∀{P:List Str} {vs:List Value} {i:Nat} {m:Str->Option Value},P.Nodup->P[i]? =some x->vs[i]? =some v->kindOf x=some .local ->
  bindL kindOf (P.zip vs) m x=some v
 |[],_,_,_,_,h,_,_=>by simp at h
 |_::_,[],_,_,_,_,h,_=>by simp at h
 |p::P,w::vs,0,m,nd,h1,h2,hk=>by
  simp at h1 h2;subst h1;subst h2
  show bindL kindOf ((p,w)::P.zip vs) m p=_
  unfold bindL
  rw[kO fun v hv=>(List.nodup_cons.mp nd).1 (List.of_mem_zip hv).1,if_pos hk]
  simp
 |p::P,w::vs,i+1,m,nd,h1,h2,hk=>by
  show bindL kindOf ((p,w)::P.zip vs) m x=_
  unfold bindL
  exact kQ (i:=i) (List.nodup_cons.mp nd).2 (by simpa using h1) (by simpa using h2) hk
theorem kR{kindOf:Str->Option NameKind}{x:Str}{v:Value}:∀{P:List Str} {vs:List Value} {i:Nat} {m:Str->Option Value},P.Nodup->P[i]? =some x->vs[i]? =some v->kindOf x≠some .local ->
  bindC kindOf (P.zip vs) m x=some v
 |[],_,_,_,_,h,_,_=>by simp at h
 |_::_,[],_,_,_,_,h,_=>by simp at h
 |p::P,w::vs,0,m,nd,h1,h2,hk=>by
  simp at h1 h2;subst h1;subst h2
  show bindC kindOf ((p,w)::P.zip vs) m p=_
  unfold bindC
  rw[kP fun v hv=>(List.nodup_cons.mp nd).1 (List.of_mem_zip hv).1,if_neg hk]
  simp
 |p::P,w::vs,i+1,m,nd,h1,h2,hk=>by
  show bindC kindOf ((p,w)::P.zip vs) m x=_
  unfold bindC
  exact kR (i:=i) (List.nodup_cons.mp nd).2 (by simpa using h1) (by simpa using h2) hk
noncomputable def start(N:List Str)(vs:List V):St:=vs.map some++List.replicate (N.length-vs.length) none
noncomputable def iK(CX:jG)(P:Program)(w:World)(K:Fg)(mg:Str->Option Value)(base:Bs)(N:List Str)(qual:Str)(scope:Scope)(f:Addr)(cd:Value)(A:Around)(outer:List Env)(s:Shared)(H:Hp)(E:XK):Cx where
 prog:=P
 w:=w
 K:=K
 mg:=mg
 base:=base
 A:=A.deeper (envOfC qual scope s.heap.objs.size f cd)
 N:=N
 s₀:=s
 H₀:=H
 env:=envOfC qual scope s.heap.objs.size f cd
 outer:=outer
 stack:=envOfC qual scope s.heap.objs.size f cd::outer
 ex:=[]
 calm:=true
 fn:=fun _=>true
 cw:=fun _=>true
 pn:=[]
 xe:=fun e s'=>wpAny (model P w) (A.deeper (envOfC qual scope s.heap.objs.size f cd)) (leaving (envOfC qual scope s.heap.objs.size f cd) e) (fun _ s''=>CX outer H s E e s'') (fun e' s''=>CX outer H s E e' s'') s'
theorem ng{sc:Scope}{n:Nat}{x:Str}(h:sc.names.lookup x=some .cell):∃c,(cellsFrom n sc.names []).lookup x=some c:=by
 have q:=PySem.W.cellsFrom_some sc.names n [] (.inl h)
 exact Option.isSome_iff_exists.mp q
theorem rH{CX:jG}{P:Program}{w:World}{K:Fg}{mg:Str->Option Value}{base:Bs}{N ps:List Str}{qual:Str}{scope:Scope}{f:Addr}{cd:Value}{A:Around}{outer:List Env}{s s1:Shared}{H:Hp}{E:XK}{us:List Value}{vs:List V}
  (S:ap N ps scope) (hd:A.handled=none) (e0:lH P w K mg base A outer s H) (hl:vs.length=ps.length) (r:aM vs us)
  (x:InCallC s s.heap.objs.size (bindL (envOfC qual scope s.heap.objs.size f cd).kindOf (ps.zip us) fun _=>none) (cellsFrom .(U) scope.names []) (bindC (envOfC qual scope s.heap.objs.size f cd).kindOf (ps.zip us) fun _=>none) s1) :
  aA (iK CX P w K mg base N qual scope f cd A outer s H E) [] (start N vs) H s1:=by
 have hpl:ps.length<=N.length:=by have:=congrArg List.length S.pre;rw[List.length_take]at this;omega
 obtain⟨h1,tk,rfl,hk⟩:=x.done
 have noA:∀b:Addr,b∉(iK CX P w K mg base N qual scope f cd A outer s H E).ex:=fun b z=>absurd (show b∈([]:List Addr) from z) (by simp)
 refine⟨⟨e0.mod,S.kind,rfl,rfl,Nat.le_refl _,fun y z c h1 h2=> ?_,fun y hy=> ?_,fun y c _ h=> ?_,fun _=>hd,Around.frames_deeper e0.frames,.inr ⟨rfl,rfl⟩,fun b z=>absurd z (noA b),e0.bs,e0.bsz,fun b _ _=>noA b,fun b z=>absurd z (noA b),e0.funs,e0.frf,e0.tab,fun _ z=>z⟩,
  rfl,e0.bare,Un.kept hk,⟨_,x.toInCall.ns,fun i y v h1 h2 h3=> ?_⟩,fun y c h=>⟨_,x.cell y c h⟩,e0.hok.fresh .(Ao),fun y c h=> ?_,fun p hp=>absurd (show p∈([]:List (Addr×Obj)) from hp) (by simp),e0.hok.kept hk,?_⟩
 ·exact name_of_addr x.apart (PySem.mem_of_lookup h1) (PySem.mem_of_lookup h2)
 ·have hy:scope.names.lookup y=some .cell\/scope.names.lookup y=some .free:=hy
  rcases hy with hy|hy
  ·exact ng hy
  ·exact absurd rfl (S.nofree _ (PySem.mem_of_lookup hy))
 ·exact Nat.le_of_lt (x.above y c (PySem.mem_of_lookup h))
 ·have hi:i<vs.length:=by
   unfold start at h2
   by_cases hi:i<vs.length
   ·exact hi
   ·rw[List.getElem?_append_right (by simpa using hi)]at h2
    rw[List.getElem?_replicate]at h2
    split at h2 <;> cases h2
  have ha:vs[i]? =some v:=by
   unfold start at h2
   rw[List.getElem?_append_left (by simpa using hi),List.getElem?_map]at h2
   cases e:vs[i]? with
   |none=>rw[e]at h2;cases h2
   |some a=>rw[e]at h2;cases h2;rfl
  obtain⟨u,hu,rv⟩:=r.get ha
  have hp:ps[i]? =some y:=by
   rw[<-S.pre,List.getElem?_take_of_lt (by omega)];exact h1
  have ndP:ps.Nodup:=by rw[<-S.pre];exact S.nd.sublist (List.take_sublist _ _)
  refine⟨u,rv,?_⟩
  rcases S.par y (List.mem_of_getElem? hp)with k|k
  ·exact .inl ⟨k,kQ ndP hp hu k⟩
  ·obtain⟨c,e⟩:=ng (n:=s.heap.objs.size+1) k
   refine .inr ⟨.inl k,c,e,?_⟩
   have q:=x.cell y c e
   rw[kR ndP hp hu (by show scope.names.lookup y≠_;rw[k];decide)]at q
   exact q
 ·exact .inl (e0.hok.fresh (Nat.le_of_lt (x.above y c (PySem.mem_of_lookup h))))
 ·unfold start
  show _=N.length
  rw[List.length_append,List.length_map,List.length_replicate]
  omega
theorem zm{CX:jG}{P:Program}{w:World}{K:Fg}{mg:Str->Option Value}{base:Bs}{k:Nat}{f:Addr}{name qual:Str}{params:Arguments}{body:List Stmt}{scope:Scope}{dV kV doc pm cdv ct oc:Value}{an od:Option Addr}
  {osl:Array (Option Value)} {N ps:List Str} {sp:Sp} (lk:K.lookup f=some ⟨oc,od,.func (PySem.W.fnOf name qual params body scope dV kV doc pm an cdv ct),osl⟩) (hcd:PySem.W.codeIn K cdv qual=true) (S:ap N ps scope)
  (len:∀vs H Q E,sp vs H Q E->vs.length=ps.length)
  (hbody:∀(A:Around) (outer:List Env) (s:Shared) (H:Hp) (vs:List V) (Q:VK) (E:XK),bv k (A.deeper (envOfC qual scope s.heap.objs.size f cdv))->sp vs H Q E ->
   ∃t,mZ (iK CX P w K mg base N qual scope f cdv A outer s H E) body t/\t { nx:=fun _ H'=>Q .non H',rt:=Q } (start N vs) H) :
  cY P w K mg base CX (k+1) f (PySem.W.fnOf name qual params body scope dV kV doc pm an cdv ct) ps sp:=by
 refine⟨len,fun A outer s H args us vs Q E hr e0 hb r hsp=> ?_⟩
 have hl:=len _ _ _ _ hsp
 have KX:K.In s.heap:=e0.mod.kin.keeps fun b o e=>(e0.bs b o e).1
 have lim:s.heap.NoLimit:=e0.mod.nolimit.keeps fun b o e=>(e0.bs b o e).1
 have hkind:∀y∈ps.zip us,scope.names.lookup y.1=some .local\/(scope.names.lookup y.1=some .cell/\((cellsFrom .(U) scope.names []).lookup y.1).isSome=true):=fun⟨n,v⟩ hy=>by
  rcases S.par n (List.of_mem_zip hy).1 with q|q
  ·exact .inl q
  ·exact .inr ⟨q,PySem.W.cellsFrom_some _ _ _ (.inl q)⟩
 refine codeAny_call_function hr.depth (KX _ _ lk) rfl S.co S.gen rfl (PySem.W.codeRec_of KX hcd) (hb _ _ _ _ ?_)
 refine wpAny_newFunctionEnv_cells S.kind hkind fun env he s1 x=> ?_
 subst he
 refine⟨lim.keeps x.toInCall.keep,codeAny_func ?_⟩
 obtain⟨t,ht,hq⟩:=hbody A outer s H vs Q E (hr.deeper _) hsp
 have I:aA (iK CX P w K mg base N qual scope f cdv A outer s H E) [] (start N vs) H s1:=rH S hr.hd e0 hl r x
 refine wpAny_mono (ht [] s1 (start N vs) H _ I hq) (fun fl s' hs=> ?_) fun e s' hs=>hs
 have fin:∀{σ':St} {H':Hp} {v:V} {u:Value},aA (iK CX P w K mg base N qual scope f cdv A outer s H E) [] σ' H' s'->aR v u->Q v H'->CE outer P w H s Q u s' :=
  fun {σ' H' v u} J rv q=>⟨v,H',J.os,J.bare,J.base,J.hok,rv,q⟩
 cases fl with
 |ret u =>
  obtain⟨v,H',J,rv,q⟩:=hs
  exact⟨v,H',J.os,J.bare,J.base,J.hok,rv,q⟩
 |next =>
  obtain⟨σ',H',J,q⟩:=hs
  exact fin (v:=V.non) (u:=Value.none) J rfl q
 |brk =>
  obtain⟨_,_,_,q⟩:=hs
  exact False.elim q
 |cont =>
  obtain⟨_,_,_,q⟩:=hs
  exact False.elim q
end L2
namespace L2
open PySem PySem.Spec PyProof.Rows
noncomputable section
variable{X:Cx}{x:Str}{p pos:Pos}{e:Expr}{es:List Expr}{t:TA}{id T:String}{r:List V->Hp->VK->Prop}
def He(r:List V->Hp->VK->Prop)(t:TA):TE:=fun σ H Q=>t σ H fun vs H1=>r vs H1 Q
theorem nh(hc:j5 X (.builtin id) r)(hg:Gl X x)(hm:X.mg x=none)(hv:bootBuiltins x=some (.builtin id))(ha:PA X (e::es) t)(hn:x ≠ "__name__":=by decide)(hdb:(x == .(L))=false:=by decide)
  (he:starEach (e::es) X.env=.(S)::starEach es X.env:=by rfl) (hpl:.(V).any (·.1)=false:=by rfl):PE X .(Am) (He r t):=by
 intro pins s σ H Q I h
 refine wpAny_Call_Name_kw (iG I hg hm hv ?_ hn hdb)
 exact PyProof.Rows.callWith_builtin1 (bC (ha pos pins s σ H _ I h) fun us s1 ⟨vs,H1,I1,r1,q1⟩=>hc pins s1 σ H1 vs us Q I1 r1 q1) he hpl
theorem rJ(hc:j5 X (.type T) r)(hg:Gl X x)(hm:X.mg x=none)(hv:bootBuiltins x=some (.type T))(ha:PA X (e::es) t)(hn:x ≠ "__name__":=by decide)(hdb:(x == .(L))=false:=by decide)
  (he:starEach (e::es) X.env=.(S)::starEach es X.env:=by rfl) (hpl:.(V).any (·.1)=false:=by rfl):PE X .(Am) (He r t):=by
 intro pins s σ H Q I h
 refine wpAny_Call_Name_kw (iG I hg hm hv ?_ hn hdb)
 exact PyProof.Rows.callWith_type1 (bC (ha pos pins s σ H _ I h) fun us s1 ⟨vs,H1,I1,r1,q1⟩=>hc pins s1 σ H1 vs us Q I1 r1 q1) he hpl
end
end L2
namespace HT
open PySem PyProof.Rows
noncomputable section
open PySem.SeqAt
open PySem.AutoSeq1 (wpAny_loadPart')
open PySem.MeetsSeq PySem.MeetsSeq2 PySem.MeetsSeq3
end
noncomputable section
variable{prog:Program}{w:World}{A:Around}{E:Value->Shared->Prop}{s:Shared}
def sIx(n d:Nat):Option Int->Nat
 |none=>d
 |some v=>if v<0 then(v+(n:Int)).toNat else min v.toNat n
end
end HT
namespace L2
open PySem PySem.Spec PyProof.Rows
abbrev TO:=St->Hp->(Option Int->Hp->Prop)->Prop
def PO(X:Cx)(e:Option Expr)(t:TO):Prop :=
 ∀(pins:List (Addr×Obj)) (s:Shared) (σ :St) (H:Hp) (Q:Option Int->Hp->Prop),aA X pins σ H s->t σ H Q ->
  wpAny .(E) X.A (evalPart e X.env) (fun u s'=>∃o H',aA X pins σ H' s'/\IsPart u o/\Q o H') X.xe s
def xO:TO:=fun _ H Q=>Q none H
def DH(t:TE):TO:=fun σ H Q=>t σ H fun x H1=>∃i,x= .int i/\Q (some i) H1
noncomputable section
variable{X:Cx}{e:Expr}{te:TE}{lo hi:Option Expr}{tl th:TO}{pos p2:Pos}
theorem xP:PO X none xO:=by
 intro pins s σ H Q I h
 rw[evalPart_none]
 exact wpAny_pure ⟨none,H,I,.none,h⟩
theorem xQ(h:PE X e te):PO X (some e) (DH te):=by
 intro pins s σ H Q I hw
 rw[evalPart_some]
 refine bC (h pins s σ H _ I hw) fun u s1 ⟨x,H1,I1,r1,q1⟩=> ?_
 obtain⟨i,rfl,q⟩:=q1
 obtain⟨t,rfl⟩:=r1
 exact⟨some i,H1,I1,.int i t,q⟩
def JQ(X:Cx)(r:V->Option Int->Option Int->Hp->VK->Prop):Prop :=
 ∀(pins:List (Addr×Obj)) (s:Shared) (σ :St) (H:Hp) (x:V) (v vl vu:Value) (lo hi:Option Int) (sl:Addr) (Q:VK),aA X pins σ H s->aR x v->s.heap.IsSliceOf sl vl vu .none->IsPart vl lo->IsPart vu hi->r x lo hi H Q ->
  ∃T id,typeLookup (.type T) "__getitem__"=pure (some (.builtin id))/\s.TypeIs v T/\wpAny .(E) X.A (getItem v (.ref sl)) (EP X pins σ Q) X.xe s
def KG(r:V->Option Int->Option Int->Hp->VK->Prop)(te:TE)(tl th:TO):TE:=fun σ H Q=>te σ H fun x H1=>tl σ H1 fun l H2=>th σ H2 fun u H3=>r x l u H3 Q
theorem ul{r:V->Option Int->Option Int->Hp->VK->Prop}(hr:JQ X r)(he:PE X e te)(hl:PO X lo tl)(hu:PO X hi th):PE X (.Subscript e (.Slice lo hi none p2) pos) (KG r te tl th):=by
 intro pins s σ H Q I h
 refine Subscript_ (bC (he pins s σ H _ I h) fun v s1 ⟨x,H1,I1,r1,q1⟩=> ?_)
 refine wpAny_Slice (bC (hl pins s1 σ H1 _ I1 q1) fun vl s2 ⟨l,H2,I2,pl,q2⟩=>bC (hu pins s2 σ H2 _ I2 q2) fun vu s3 ⟨u,H3,I3,pu,q3⟩=> ?_)
 rw[evalPart_none]
 refine wpAny_pure ?_
 have I4:aA X pins σ H3 { s3 with heap:=s3.heap.push { cls:= .type "slice",data:= .fields #[vl,vu,.none] } }:=I3.kept (t':=s3.toks) fun b ob q=>Heap.get?_push_of_some _ q
 obtain⟨T,id,hT,ht,hg⟩:=hr pins { s3 with heap:=s3.heap.push { cls:= .type "slice",data:= .fields #[vl,vu,.none] } } σ H3 x v vl vu l u s3.heap.objs.size Q I4 r1 (Heap.IsSliceOf.new ..) pl pu q3
 show wpAny .(E) X.A (subscriptTail e (.Slice lo hi none p2) v (.ref s3.heap.objs.size)) (EP X pins σ Q) X.xe { s3 with heap:=s3.heap.push { cls:= .type "slice",data:= .fields #[vl,vu,.none] } }
 exact tail_any (ops:=[.ref s3.heap.objs.size,v]) ht hT hg (by with_unfolding_all rfl)
noncomputable def rK(xs:List V)(lo hi:Option Int):List V:=(xs.drop (HT.sIx xs.length 0 lo)).take (HT.sIx xs.length xs.length hi-HT.sIx xs.length 0 lo)
theorem ni(xs:List V)(lo hi:Option Int):(rK xs lo hi).length<=xs.length:=by
 unfold rK
 rw[List.length_take,List.length_drop]
 omega
end
end L2
namespace L2
open PySem PySem.Spec PyProof.Rows
noncomputable def oT(n:Nat)(i:Int):Option Nat:=if 0<=i then(if i<n then some i.toNat else none) else if -(n:Int)<=i then some (i+n).toNat else none
noncomputable def iL{α :Type}(xs:List α)(i:Int):Option α :=(oT xs.length i).bind fun j=>xs[j]?
theorem lI{n:Nat}{i:Int}{j:Nat}(h:oT n i=some j):seqIndex? i n=some j/\j<n/\ -(n:Int)<=i/\i<n:=by
 unfold oT at h
 by_cases h0:0<=i
 ·rw[if_pos h0]at h
  by_cases h1:i<n
  ·rw[if_pos h1]at h
   have e:i.toNat=j:=Option.some.inj h
   exact⟨by rw[seqIndex_of h0 h1,e],by omega,by omega,h1⟩
  ·rw[if_neg h1]at h;cases h
 ·rw[if_neg h0]at h
  by_cases h1: -(n:Int)<=i
  ·rw[if_pos h1]at h
   have e:(i+n).toNat=j:=Option.some.inj h
   exact⟨by rw[seqIndex_neg (by omega) h1,e],by omega,h1,by omega⟩
  ·rw[if_neg h1]at h;cases h
theorem lJ{α :Type}{xs:List α}{i:Int}{v: α}(h:iL xs i=some v):∃j,seqIndex? i xs.length=some j/\xs[j]? =some v/\j<xs.length/\ -(xs.length:Int)<=i/\i<xs.length:=by
 unfold iL at h
 cases e:oT xs.length i with
 |none=>rw[e]at h;cases h
 |some j =>
  rw[e]at h
  obtain⟨h1,h2,h3,h4⟩:=lI e
  exact⟨j,h1,h,h2,h3,h4⟩
theorem eJ{α :Type}{xs:List α}{j:Nat}{v: α}(h:xs[j]? =some v):iL xs (j:Int)=some v:=by
 have hj:j<xs.length:=(List.getElem?_eq_some_iff.mp h).1
 have e:oT xs.length (j:Int)=some j:=by
  unfold oT
  rw[if_pos (by omega),if_pos (by omega)];simp
 unfold iL;rw[e];exact h
def lK(b:Expr):Prop:=∀o i,subscripted b false o i=operate [o,i] (getItem o i)
def xR(X:Cx)(r:R2):Prop :=
 ∀(value slice:Expr) (pins:List (Addr×Obj)) (s:Shared) (σ :St) (H:Hp) (x y:V) (v u:Value) (Q:VK),aA X pins σ H s->aR x v->aR y u->r x y H Q ->
  subscripted slice false v u=operate [v,u] (getItem v u)->wpAny .(E) X.A (subscriptTail value slice v u) (EP X pins σ Q) X.xe s
def G8(X:Cx)(id:String)(r:V->List V->Hp->VK->Prop):Prop :=
 ∀(pins:List (Addr×Obj)) (s:Shared) (σ :St) (H:Hp) (x:V) (xs:List V) (v:Value) (us:List Value) (Q:VK),aA X pins σ H s->aR x v->aM xs us->r x xs H Q ->
  wpAny .(E) X.A (call (.builtin id) (v::us)) (EP X pins σ Q) X.xe s
noncomputable section
variable{X:Cx}{a b:Expr}{ta tb:TE}{pos:Pos}
theorem xR.or{r r':R2}(h:xR X r)(h':xR X r'):xR X (fun x y H Q=>r x y H Q\/r' x y H Q):=by
 intro value slice pins s σ H x y v u Q I rx ry q hs
 rcases q with q|q
 ·exact h value slice pins s σ H x y v u Q I rx ry q hs
 ·exact h' value slice pins s σ H x y v u Q I rx ry q hs
theorem DI{r:R2}(hr:xR X r)(ha:PE X a ta)(hb:PE X b tb)(hs:lK b):PE X (.Subscript a b pos) (Dt r ta tb):=by
 intro pins s σ H Q I h
 exact Subscript_ (Ak ha hb I h fun v u s2 x y H2 I2 rx ry q=>hr a b pins s2 σ H2 x y v u Q I2 rx ry q (hs _ _))
def DJ(K:Fg):R2:=fun x y H Q=>∃p xs i v,x= .ref p/\y= .int i/\eI K H p xs/\iL xs i=some v/\Q v H
def DK(K:Fg):R2:=fun x y H Q=>∃p xs i v,x= .ref p/\y= .int i/\gA K H p xs/\iL xs i=some v/\Q v H
def DL:R2:=fun x y H Q=>∃z i c,x= .str z/\y= .int i/\z.length<=sizeLine/\iL z.cps.toList i=some c/\Q (.str ⟨#[c]⟩) H
theorem xS:xR X (DJ X.K):=by
 intro value slice pins s σ H x y v u Q I rx ry h hs
 obtain⟨p,xs,i,z,rfl,rfl,hq,he,q⟩:=h
 cases rx
 obtain⟨t,rfl⟩:=ry
 obtain⟨its,r,pl,hz⟩:=I.list hq
 obtain⟨j,h1,h2,h3,h4,h5⟩:=lJ he
 obtain⟨w,ew,rw'⟩:=r.get h2
 have hl:=r.length
 have hn:=jD
 have fin:EP X pins σ Q w s:=⟨z,H,I,rw',q⟩
 by_cases h0:0<=i
 ·have hj:i.toNat=j:=by
   rw[seqIndex_of h0 h5]at h1
   exact Option.some.inj h1
  exact item_listR pl.isList h0 (by omega) (by rw[hj];simpa using ew) fin hs
 ·have hj:(i+(its.toArray.size:Int)).toNat=j:=by
   rw[seqIndex_neg (by omega) h4]at h1
   rw[List.size_toArray,<-hl]
   exact Option.some.inj h1
  exact subscriptTail_builtinR (x:=w) pl.isList.typeIs slot_list_getitem.lookup
   (wpAny_getItem_list_neg (Q:=fun r s'=>r=w/\EP X pins σ Q r s') pl.isList (by omega) (by rw[List.size_toArray] <;> omega) (by omega) (by rw[hj];simpa using ew) ⟨rfl,fin⟩) hs
theorem AA:xR X (DK X.K):=by
 intro value slice pins s σ H x y v u Q I rx ry h hs
 obtain⟨p,xs,i,z,rfl,rfl,hq,he,q⟩:=h
 cases rx
 obtain⟨t,rfl⟩:=ry
 obtain⟨its,r,pl,hz⟩:=I.tuple hq
 obtain⟨j,h1,h2,h3,h4,h5⟩:=lJ he
 obtain⟨w,ew,rw'⟩:=r.get h2
 have hl:=r.length
 have hn:=jD
 have fin:EP X pins σ Q w s:=⟨z,H,I,rw',q⟩
 exact subscriptTail_builtinR (x:=w) pl.typeIs slot_tuple_getitem.lookup
  (getItem_tuple (j:=j) (Q:=fun r s'=>r=w/\EP X pins σ Q r s') pl (by omega) (by omega) (by rw[List.size_toArray,<-hl];exact h1) (by simpa using ew) ⟨rfl,fin⟩) hs
theorem AB:xR X DL:=by
 intro value slice pins s σ H x y v u Q I rx ry h hs
 obtain⟨z,i,c,rfl,rfl,hz,he,q⟩:=h
 obtain⟨t,rfl⟩:=rx
 obtain⟨t',rfl⟩:=ry
 obtain⟨j,h1,h2,h3,h4,h5⟩:=lJ he
 have hl:z.cps.toList.length=z.length:=by simp[Str.length]
 rw[hl]at h1 h4 h5
 have hn:=jD
 exact tail_any (typeIs_str s z t) slot_str_getitem.lookup (getItem_str (c:=c) (by
  have e1:decide (i < -(2 ^ 63:Int))=false:=decide_eq_false (by omega)
  have e2:decide (i ≥ 2 ^ 63)=false:=decide_eq_false (by omega)
  rw[e1,e2,Bool.or_false]) (by rw[h1];simpa using h2) ⟨.str ⟨#[c]⟩,H,I.tok _,⟨_,rfl⟩,q⟩) hs
def Hf(K:Fg):R2:=fun x y H Q=>DJ K x y H Q\/DK K x y H Q\/DL x y H Q
theorem AC:xR X (Hf X.K):=xS.or (AA.or AB)
theorem oU(its:List Value)(n j:Nat)(u:Value):Obj.mapSeq (·.setIfInBounds j u) { cls:= .type "list",data:= .seq its.toArray n }={ cls:= .type "list",data:= .seq (its.set j u).toArray n }:=by
 simp[Obj.mapSeq]
theorem aA.lst{pins:List (Addr×Obj)}{σ :St}{H:Hp}{s:Shared}{p:Addr}{xs:List V}(I:aA X pins σ H s)(h:H p=some (.lst xs)) :
  ∃(its:List Value) (n:Nat),aM xs its/\s.heap.get? p=some { cls:= .type "list",data:= .seq its.toArray n }/\xs.length<=sizeLine:=by
 obtain⟨z,its,n,r,e⟩:=I.hok p _ h
 exact⟨its,n,r,e,z⟩
theorem aA.lstUpd{pins:List (Addr×Obj)}{σ :St}{H:Hp}{s:Shared}{p:Addr}{xs ys:List V}{its its':List Value}{n n':Nat}{f:Obj->Obj}(I:aA X pins σ H s)(h:H p=some (.lst xs))
  (ho:s.heap.get? p=some { cls:= .type "list",data:= .seq its.toArray n }) (hf:f { cls:= .type "list",data:= .seq its.toArray n }={ cls:= .type "list",data:= .seq its'.toArray n' }) (r:aM ys its') (hz:ys.length<=sizeLine) (t:Nat) :
  aA X pins σ (upd H p (.lst ys)) { s with heap:=s.heap.update p f,toks:=t }:=by
 have e:(s.heap.update p f).get? p=some { cls:= .type "list",data:= .seq its'.toArray n' }:=by
  rw[Heap.get?_update_self f ho (by rw[hf] <;> rfl),hf]
 refine I.write (x:=p) (e:=p) (by rw[h];trivial) (.inl rfl) (fun b u hb q=>(Heap.get?_update_other _ _ (Ne.symm hb)).trans q) ⟨_,e⟩ ?_
 exact⟨hz,its',n',r,e⟩
def DO:V->V->V->Hp->(Hp->Prop)->Prop:=fun o i v H Q=>∃p xs k j,o= .ref p/\i= .int k/\H p=some (.lst xs)/\oT xs.length k=some j/\Q (upd H p (.lst (xs.set j v)))
theorem um:Dk X DO:=by
 intro pins s σ H o i v ov iv u Q I ro ri rv h
 obtain⟨p,xs,k,j,rfl,rfl,hp,hj,q⟩:=h
 cases ro
 obtain⟨t,rfl⟩:=ri
 obtain⟨its,n,r,ho,hz⟩:=I.lst hp
 obtain⟨h1,h2,h3,h4⟩:=lI hj
 have hl:=r.length
 have hn:=jD
 have I':aA X pins σ (upd H p (.lst (xs.set j v))) { s with heap:=s.heap.update p (Obj.mapSeq (·.setIfInBounds j u)) } :=
  I.lstUpd hp ho (oU its n j u) (r.set rv j) (by rw[List.length_set];exact hz) s.toks
 by_cases h0:0<=k
 ·have hk:k.toNat=j:=by
   rw[seqIndex_of h0 h4]at h1
   exact Option.some.inj h1
  exact PySem.W.ki_setAt ho h0 (by omega) (by rw[List.size_toArray,<-hl];exact h4) (by rw[hk];exact⟨_,I',q⟩)
 ·have hk:(k+(its.toArray.size:Int)).toNat=j:=by
   rw[seqIndex_neg (by omega) h3]at h1
   rw[List.size_toArray,<-hl]
   exact Option.some.inj h1
  exact PySem.W.ki_setBack ho (by omega) (by rw[List.size_toArray,<-hl];exact h3) (by omega) (by rw[hk];exact⟨_,I',q⟩)
theorem lL(lo hi:Option Int)(n:Nat):(sliceBounds lo hi none n).1=((HT.sIx n 0 lo:Nat):Int)/\(sliceBounds lo hi none n).2.1=((HT.sIx n n hi:Nat):Int)/\(sliceBounds lo hi none n).2.2=1:=by
 refine⟨?_,?_,rfl⟩
 ·cases lo with
  |none=>simp[sliceBounds,HT.sIx]
  |some i =>
   simp only[sliceBounds,HT.sIx,Option.getD_none,show(1:Int)>0 by decide,if_true]
   by_cases h:i<0
   ·simp only[h,if_true] <;> omega
   ·simp only[h,if_false] <;> omega
 ·cases hi with
  |none=>simp[sliceBounds,HT.sIx]
  |some i =>
   simp only[sliceBounds,HT.sIx,Option.getD_none,show(1:Int)>0 by decide,if_true]
   by_cases h:i<0
   ·simp only[h,if_true] <;> omega
   ·simp only[h,if_false] <;> omega
theorem ky(its:List Value)(lo hi:Option Int):slicePick its.toArray lo hi none=((its.drop (HT.sIx its.length 0 lo)).take (HT.sIx its.length its.length hi-HT.sIx its.length 0 lo)).toArray:=by
 obtain⟨h1,h2,h3⟩:=lL lo hi its.toArray.size
 unfold slicePick
 rw[h1,h2,h3]
 simp only[sliceRange_one,pick_run,List.size_toArray] <;> rfl
def Hg(K:Fg):V->Option Int->Option Int->Hp->VK->Prop:=fun x lo hi H Q=>∃a xs,x= .ref a/\eI K H a xs/\ ∀p,H p=none->Q (.ref p) (upd H p (.lst (rK xs lo hi)))
theorem xT:JQ X (Hg X.K):=by
 intro pins s σ H x v vl vu lo hi sl Q I rx hs pl pu h
 obtain⟨a,xs,rfl,hx,q⟩:=h
 cases rx
 obtain⟨its,r,ht,hz⟩:=I.list hx
 have hlen:=r.length
 refine⟨"list",_,slot_list_getitem.lookup,ht.isList.typeIs,?_⟩
 refine wpAny_getItem_list_slice ht.isList hs pl pu .none (by simp) ?_ (by rw[List.size_toArray] <;> omega)
 rw[ky,<-hlen]
 refine⟨.ref s.heap.objs.size,_,I.laid (t':=s.toks) (o:= .lst (rK xs lo hi)) (fun b ob q=>Heap.get?_push_of_some _ q) .(Ao) ?_,rfl,q _ (I.hok.fresh .(Ao))⟩
 exact⟨Nat.le_trans (ni xs lo hi) hz,_,0,(r.drop (HT.sIx xs.length 0 lo)).take (HT.sIx xs.length xs.length hi-HT.sIx xs.length 0 lo),Heap.get?_push_size _ rfl⟩
def eK:V->Bool
 |.non=>true
 |.bl _=>true
 |.int _=>true
 |.str _=>true
 |_=>false
noncomputable def lM:V->V->Bool
 |.non,.non=>true
 |.bl a,.bl b=>a == b
 |.bl a,.int b=>(if a then 1 else 0) == b
 |.int a,.bl b=>a == (if b then 1 else 0)
 |.int a,.int b=>a == b
 |.str a,.str b=>a == b
 |_,_=>false
theorem AE{A:Around}{s:Shared}{y x:V}{u v:Value}(ry:aR y u)(rx:aR x v)(fy:eK y=true)(fx:eK x=true):SeqAt.EqAt A s u v (lM y x):=by
 cases y with
 |non =>
  cases ry
  cases x with
  |non=>cases rx;exact SeqAt.EqAt.same _
  |bl b=>cases rx;exact SeqAt.EqAt.none_bool b
  |int b=>obtain⟨t,rfl⟩:=rx;exact SeqAt.EqAt.none_int b t
  |str b=>obtain⟨t,rfl⟩:=rx;exact SeqAt.EqAt.none_str b t
  |_=>exact absurd (show false=true from fx) Bool.false_ne_true
 |bl a =>
  cases ry
  cases x with
  |non=>cases rx;exact SeqAt.EqAt.bool_none a
  |bl b=>cases rx;exact SeqAt.EqAt.bool_bool a b
  |int b=>obtain⟨t,rfl⟩:=rx;exact SeqAt.EqAt.bool_int a b t
  |str b=>obtain⟨t,rfl⟩:=rx;exact SeqAt.EqAt.bool_str a b t
  |_=>exact absurd (show false=true from fx) Bool.false_ne_true
 |int a =>
  obtain⟨t',rfl⟩:=ry
  cases x with
  |non=>cases rx;exact SeqAt.EqAt.int_none a t'
  |bl b=>cases rx;exact SeqAt.EqAt.int_bool a t' b
  |int b=>obtain⟨t,rfl⟩:=rx;exact SeqAt.EqAt.int_int a t' b t
  |str b=>obtain⟨t,rfl⟩:=rx;exact SeqAt.EqAt.int_str a t' b t
  |_=>exact absurd (show false=true from fx) Bool.false_ne_true
 |str a =>
  obtain⟨t',rfl⟩:=ry
  cases x with
  |non=>cases rx;exact SeqAt.EqAt.str_none a t'
  |bl b=>cases rx;exact SeqAt.EqAt.str_bool a t' b
  |int b=>obtain⟨t,rfl⟩:=rx;exact SeqAt.EqAt.str_int a t' b t
  |str b=>obtain⟨t,rfl⟩:=rx;exact SeqAt.EqAt.str_str a t' b t
  |_=>exact absurd (show false=true from fx) Bool.false_ne_true
 |_=>exact absurd (show false=true from fy) Bool.false_ne_true
noncomputable def mS(x:V)(u:Value):Bool:=match u with
 |.none=>lM .non x
 |.bool b=>lM (.bl b) x
 |.int i _=>lM (.int i) x
 |.str z _=>lM (.str z) x
 |_=>false
theorem lN{x y:V}{u:Value}(r:aR y u)(f:eK y=true):mS x u=lM y x:=by
 cases y with
 |non=>cases r;rfl
 |bl b=>cases r;rfl
 |int i=>obtain⟨t,rfl⟩:=r;rfl
 |str z=>obtain⟨t,rfl⟩:=r;rfl
 |_=>exact absurd (show false=true from f) Bool.false_ne_true
theorem hG{x:V}:∀{xs:List V} {us:List Value},aM xs us->xs.all eK=true->us.any (mS x)=xs.any fun y=>lM y x
 |_,_,.nil,_=>rfl
 |y::xs,u::us,.cons r t,f=>by
  rw[List.all_cons,Bool.and_eq_true]at f
  rw[List.any_cons,List.any_cons,lN r f.1,hG t f.2]
theorem eX{A:Around}{s:Shared}{x:V}{v:Value}(rx:aR x v)(fx:eK x=true):∀{xs:List V} {us:List Value},aM xs us->xs.all eK=true->∀u∈us,SeqAt.EqAt A s u v (mS x u)
 |_,_,.nil,_=>fun u hu=>by cases hu
 |y::xs,u::us,.cons r t,f=>fun u' hu=>by
  rw[List.all_cons,Bool.and_eq_true]at f
  rcases List.mem_cons.mp hu with rfl|hu
  ·rw[lN r f.1];exact AE r rx f.1 fx
  ·exact eX rx fx t f.2 u' hu
def CI(x:V)(xs:List V):Bool:=xs.any fun y=>lM y x
def DQ(K:Fg)(neg:Bool):R2:=fun x y H Q=>∃p xs,y= .ref p/\(eI K H p xs\/gA K H p xs)/\eK x=true/\xs.all eK=true/\Q (.bl (if neg then !CI x xs else CI x xs)) H
theorem rL:fY X (compareOp .In) (DQ X.K false):=by
 intro pins s σ H x y v u Q I rx ry h
 obtain⟨p,xs,rfl,hq,fx,fs,q⟩:=h
 cases ry
 rcases hq with hq|hq
 ·obtain⟨its,r,pl,hz⟩:=I.list hq
  refine SeqAt.in_listAt (mS x) pl.isList (fun w hw=>eX rx fx r fs w (by simpa using hw)) ⟨.bl _,H,I,rfl,?_⟩
  rw[show its.toArray.any (mS x)=its.any (mS x)by simp,hG r fs]
  exact q
 ·obtain⟨its,r,pl,hz⟩:=I.tuple hq
  refine SeqAt.in_tupleAt (mS x) pl (fun w hw=>eX rx fx r fs w (by simpa using hw)) ⟨.bl _,H,I,rfl,?_⟩
  rw[show its.toArray.any (mS x)=its.any (mS x)by simp,hG r fs]
  exact q
theorem hJ:fY X (compareOp .NotIn) (DQ X.K true):=by
 intro pins s σ H x y v u Q I rx ry h
 obtain⟨p,xs,rfl,hq,fx,fs,q⟩:=h
 cases ry
 rcases hq with hq|hq
 ·obtain⟨its,r,pl,hz⟩:=I.list hq
  refine SeqAt.notIn_listAt (mS x) pl.isList (fun w hw=>eX rx fx r fs w (by simpa using hw)) ⟨.bl _,H,I,rfl,?_⟩
  rw[show its.toArray.any (mS x)=its.any (mS x)by simp,hG r fs]
  exact q
 ·obtain⟨its,r,pl,hz⟩:=I.tuple hq
  refine SeqAt.notIn_tupleAt (mS x) pl (fun w hw=>eX rx fx r fs w (by simpa using hw)) ⟨.bl _,H,I,rfl,?_⟩
  rw[show its.toArray.any (mS x)=its.any (mS x)by simp,hG r fs]
  exact q
theorem lO:j5 X (.type "list") (fun xs H Q=>∃p ys,xs=[.ref p]/\(eI X.K H p ys\/gA X.K H p ys)/\ ∀l,H l=none->Q (.ref l) (upd H l (.lst ys))):=by
 intro pins s σ H xs us Q I r h
 obtain⟨p,ys,rfl,hq,q⟩:=h
 obtain⟨u,rfl,rx⟩:=n0 r
 cases rx
 have fin:∀(its:List Value),aM ys its->ys.length<=sizeLine->∀(h':Heap) (c':Nat),(∀b o',s.heap.get? b=some o'->h'.get? b=some o') ->
   h'.get? s.heap.objs.size=some { cls:= .type "list",dict:=none,data:= .seq its.toArray c',slots:= #[] }->EP X pins σ Q (.ref s.heap.objs.size) { s with heap:=h' }:=fun its r' hz h' c' kp e =>
  ⟨.ref s.heap.objs.size,_,I.laid (t':=s.toks) kp .(Ao) (show bJ X.prog X.w _ h' _ (.lst ys) from⟨hz,its,c',r',e⟩),rfl,q _ (I.hok.fresh .(Ao))⟩
 rcases hq with hq|hq
 ·obtain⟨its,r',pl,hz⟩:=I.list hq
  have hlen:=r'.length
  obtain⟨o,ho,hc,n,hd⟩:=pl.isList
  exact call_list_seq p (.inl rfl) ho hc hd (fun h' c' kp e=>fin its r' hz h' c' kp e) (by simp only[List.size_toArray] <;> omega)
 ·obtain⟨its,r',pl,hz⟩:=I.tuple hq
  have hlen:=r'.length
  obtain⟨o,ho,hc,n,hd⟩:=pl
  exact call_list_seq p (.inr rfl) ho hc hd (fun h' c' kp e=>fin its r' hz h' c' kp e) (by simp only[List.size_toArray] <;> omega)
def G9(K:Fg)(T:String)(x:V)(H:Hp):Prop:=match x with
 |.str _=>T="str"
 |.int _=>T="int"
 |.ref p=>(T="list"/\ ∃xs,eI K H p xs)\/(T="tuple"/\ ∃o,K.lookup p=some o/\o.cls= .type "tuple"/\o.dict=none) \/
   (T="dict"/\((∃kvs ep,H p=some (.dK kvs ep))\/ ∃kvs ep,H p=some (.dT kvs ep)))\/(T="set"/\ ∃S n,H p=some (.set S n))
 |_=>False
theorem uo{pins:List (Addr×Obj)}{σ :St}{H:Hp}{s:Shared}{T:String}{x:V}{v:Value}(I:aA X pins σ H s)(r:aR x v)(ty:G9 X.K T x H) :
  s.TypeIs v T/\ ∀a,v= .ref a->∃ob,s.heap.get? a=some ob/\ob.dict=none:=by
 cases x with
 |str z =>
  obtain⟨t,rfl⟩:=r
  cases (show T="str" from ty)
  exact⟨typeIs_str s z t,fun _ e=>nomatch e⟩
 |int i =>
  obtain⟨t,rfl⟩:=r
  cases (show T="int" from ty)
  exact⟨typeIs_int s i t,fun _ e=>nomatch e⟩
 |ref p =>
  cases r
  rcases ty with⟨rfl,xs,hq⟩|⟨rfl,o,hk,hc,hd⟩|⟨rfl,hk⟩|⟨rfl,S,n,hk⟩
  ·obtain⟨its,_,pl,_⟩:=I.list hq
   refine⟨pl.isList.typeIs,fun a e=> ?_⟩
   cases e
   obtain⟨o,n,e,c,hd,_⟩:=pl
   exact⟨o,e,hd⟩
  ·refine⟨⟨o,I.kIn p o hk,hc⟩,fun a e=> ?_⟩
   cases e
   exact⟨o,I.kIn _ o hk,hd⟩
  ·have z:∃o,s.heap.get? p=some o/\o.ExactDict:=by
    rcases hk with⟨kvs,ep,hk⟩|⟨kvs,ep,hk⟩
    ·obtain⟨_,_,_,_,o,_,e,ex,_⟩:=I.hok p _ hk
     exact⟨o,e,ex⟩
    ·obtain⟨_,_,_,_,o,_,e,ex,_⟩:=I.hok p _ hk
     exact⟨o,e,ex⟩
   obtain⟨o,e,ex⟩:=z
   refine⟨⟨o,e,ex.1⟩,fun a e2=> ?_⟩
   cases e2
   exact⟨o,e,ex.2.1⟩
  ·obtain⟨o,_,_,_,e,ex,_⟩:=I.hok p _ hk
   refine⟨⟨o,e,ex.1⟩,fun a e2=> ?_⟩
   cases e2
   exact⟨o,e,ex.2.1⟩
 |_=>exact False.elim ty
def Hh(K:Fg)(T:String)(r:V->List V->Hp->VK->Prop)(to:TE):TE:=fun σ H Q=>to σ H fun x H1=>G9 K T x H1/\r x [] H1 Q
def KH(K:Fg)(T:String)(r:V->List V->Hp->VK->Prop)(to:TE)(t:TA):TE:=fun σ H Q=>to σ H fun x H1=>G9 K T x H1/\t σ H1 fun xs H2=>r x xs H2 Q
variable{o e:Expr}{es:List Expr}{to:TE}{t:TA}{name:Str}{apos cpos:Pos}{T id:String}{r:V->List V->Hp->VK->Prop}
theorem uq(pa:PlainAttrs T)(slot:Slot T name id)(hty:typeOf (.builtin id)=pure (.type "method_descriptor"))(hm:G8 X id r)(ho:PE X o to)
  (hbase:attributeBase o name X.env (eval o X.env)=eval o X.env:=by rfl) (hline:(apos.endLine == cpos.line)=true:=by rfl):PE X (.Call (.Attribute o name apos) [] [] cpos) (Hh X.K T r to):=by
 intro pins s σ H Q I h
 refine wpAny_Call_method0_late hbase hline (bC (ho pins s σ H _ I h) fun v s1 ⟨x,H1,I1,r1,ty,q1⟩=> ?_)
 obtain⟨h1,h2⟩:=uo I1 r1 ty
 exact⟨T,id,pa,slot,hty,h1,h2,Calls.callWith_builtin rfl (PySem.evalArgs_none (hm pins s1 σ H1 x [] v [] Q I1 r1 .nil q1))⟩
theorem nj(pa:PlainAttrs T)(slot:Slot T name id)(hty:typeOf (.builtin id)=pure (.type "method_descriptor"))(hm:G8 X id r)(ho:PE X o to)(ha:PA X (e::es) t)
  (hbase:attributeBase o name X.env (eval o X.env)=eval o X.env:=by rfl)
  (hfew:((backTo cpos (starEach (e::es) X.env)).all (fun x=> !x.1) && (backToKw cpos (keywordEach [] X.env)).all (fun x=>x.1.isSome)
   && decide ((e::es).length+([]:List Keyword).length+(if ([]:List Keyword).isEmpty then 0 else 1)<30))=true:=by rfl)
  (hline:(apos.endLine == cpos.line)=true:=by rfl) (hs:starEach (e::es) X.env=.(S)::starEach es X.env:=by rfl) (hplain:(backTo cpos (starEach es X.env)).any (·.1)=false:=by rfl) :
  PE X (.Call (.Attribute o name apos) (e::es) [] cpos) (KH X.K T r to t):=by
 intro pins s σ H Q I h
 refine wpAny_Call_method_late hbase hfew hline rfl (bC (ho pins s σ H _ I h) fun v s1 ⟨x,H1,I1,r1,ty,q1⟩=> ?_)
 obtain⟨h1,h2⟩:=uo I1 r1 ty
 refine⟨T,id,pa,slot,hty,h1,h2,?_⟩
 have hA:=ha cpos pins s1 σ H1 _ I1 q1
 rw[hs]at hA ⊢
 refine Calls.callWith_builtin (by show(false || (backTo cpos (starEach es X.env)).any (·.1))=false;rw[hplain] <;> rfl) (Calls.evalArgs_plain ?_)
 exact bC hA fun us s2 ⟨vs,H2,I2,r2,q2⟩=>hm pins s2 σ H2 x vs v us Q I2 r1 r2 q2
end
end L2
namespace L2
open PySem PySem.Spec PyProof.Rows
def DR(X:Cx)(id:String)(r:V->List V->Hp->VK->Prop):Prop :=
 ∀(pins:List (Addr×Obj)) (s:Shared) (σ :St) (H:Hp) (x:V) (xs:List V) (v:Value) (us:List Value) (Q:VK),aA X pins σ H s->aR x v->aM xs us->r x xs H Q ->
  wpAny .(E) X.A (call (.builtin id) (v::us)) (EP X pins σ Q) X.xe s
theorem aM.one:∀{x:V} {us:List Value},aM [x] us->∃u,us=[u]/\aR x u
 |_,_,.cons r .nil=>⟨_,rfl,r⟩
theorem aM.zero:∀{us:List Value},aM [] us->us=[]
 |_,.nil=>rfl
theorem aM.dropLast{xs:List V}{us:List Value}(h:aM xs us):aM xs.dropLast us.dropLast:=by
 induction h with
 |nil=>exact .nil
 |cons r t ih =>
  cases t with
  |nil=>exact .nil
  |cons q t'=>exact .cons r ih
theorem aM.eraseIdx:∀{xs:List V} {us:List Value} (i:Nat),aM xs us->aM (xs.eraseIdx i) (us.eraseIdx i)
 |_,_,_,.nil=> .nil
 |_,_,0,.cons _ t=>t
 |_,_,i+1,.cons r t=> .cons r (aM.eraseIdx i t)
theorem aM.reverse{xs:List V}{us:List Value}(h:aM xs us):aM xs.reverse us.reverse:=by
 induction h with
 |nil=>exact .nil
 |cons r t ih=>rw[List.reverse_cons,List.reverse_cons];exact aM.append ih (.cons r .nil)
theorem aM.rep{xs:List V}{us:List Value}(h:aM xs us):∀k:Nat,aM (List.replicate k xs).flatten (List.replicate k us).flatten
 |0=> .nil
 |k+1=>by
  rw[List.replicate_succ,List.replicate_succ,List.flatten_cons,List.flatten_cons]
  exact aM.append h (aM.rep h k)
theorem oV{α :Type}(l:List α):l.eraseIdx (l.length-1)=l.dropLast:=by
 induction l with
 |nil=>rfl
 |cons a r ih =>
  cases r with
  |nil=>rfl
  |cons b r =>
   have e:(a::b::r).length-1=((b::r).length-1)+1:=by
    have h1:(a::b::r).length=r.length+2:=rfl
    have h2:(b::r).length=r.length+1:=rfl
    omega
   rw[e,List.eraseIdx_cons_succ,ih]
   all_goals rfl
theorem kS{α :Type}:∀(l:List α) (i:Nat),(l.eraseIdx i).length<=l.length
 |[],_=>Nat.le_refl _
 |_::_,0=>Nat.le_succ _
 |_::r,i+1=>Nat.succ_le_succ (kS r i)
theorem kT(its:List Value):∀(k:Nat) (acc:List Value),
  List.foldl (fun x1 x2=>x1++x2) acc.toArray (List.replicate k its.toArray)=(acc++(List.replicate k its).flatten).toArray
 |0,acc=>by simp
 |k+1,acc=>by
  have e:acc.toArray++its.toArray=(acc++its).toArray:=by simp
  have e2:(acc++its)++(List.replicate k its).flatten=acc++(List.replicate (k+1) its).flatten:=by
   rw[List.replicate_succ,List.flatten_cons,List.append_assoc]
  rw[<-e2,<-kT its k (acc++its),<-e,List.replicate_succ,List.foldl_cons]
noncomputable section
variable{X:Cx}{pins:List (Addr×Obj)}{σ :St}{H:Hp}{s:Shared}{l b:Addr}{xs ys zs:List V}
theorem aA.lset{its its':List Value}{n:Nat}{f:Array Value->Array Value}{t':Nat}(I:aA X pins σ H s)(hH:H l=some (.lst xs))
  (e:s.heap.get? l=some { cls:= .type "list",data:= .seq its.toArray n }) (hf:f its.toArray=its'.toArray) (hv:aM ys its') (hz:ys.length<=sizeLine) :
  aA X pins σ (upd H l (.lst ys)) { s with heap:=s.heap.update l (Obj.mapSeq f),toks:=t' }:=by
 have q:=PySem.IsL.update e f
 rw[hf]at q
 refine I.write (x:=l) (e:=l) (by rw[hH];exact trivial) (.inl rfl) (fun b' u hb hu=>(Heap.get?_update_other s.heap (Obj.mapSeq f) (Ne.symm hb)).trans hu) ⟨_,q⟩ ?_
 exact⟨hz,its',_,hv,q⟩
theorem aA.lnew{its:List Value}{t':Nat}(I:aA X pins σ H s)(hv:aM ys its)(hz:ys.length<=sizeLine) :
  aA X pins σ (upd H s.heap.objs.size (.lst ys)) { s with heap:=s.heap.push { cls:= .type "list",data:= .seq its.toArray },toks:=t' } :=
 I.laid (fun _ _ q=>Heap.get?_push_of_some _ q) .(Ao) ⟨hz,its,0,hv,Heap.get?_push_size _ rfl⟩
theorem aA.fresh(I:aA X pins σ H s):H s.heap.objs.size=none:=I.hok.fresh .(Ao)
theorem aA.lstM(I:aA X pins σ H s)(hH:H l=some (.lst xs)):xs.length<=sizeLine/\ ∃(its:List Value) (n:Nat),aM xs its/\xs.length=its.length/\s.heap.get? l=some { cls:= .type "list",data:= .seq its.toArray n }:=by
 obtain⟨z,its,n,r,e⟩:=I.hok l _ hH
 exact⟨z,its,n,r,r.length,e⟩
theorem nk{n:Nat}(h:n<=sizeLine):Builtin.List.listTooLong n=false:=by
 unfold Builtin.List.listTooLong
 exact decide_eq_false (by omega)
end
noncomputable section
variable{X:Cx}
def xU:V->List V->Hp->VK->Prop:=fun x vs H Q=>∃l xs y,x= .ref l/\vs=[y]/\H l=some (.lst xs)/\xs.length<sizeLine/\Q .non (upd H l (.lst (xs++[y])))
theorem iM:DR X "list.append" xU:=by
 intro pins s σ H x vs v us Q I rx rv h
 obtain⟨l,xs,y,rfl,rfl,hH,hz,q⟩:=h
 cases rx
 obtain⟨u,rfl,ru⟩:=rv.one
 obtain⟨z,its,n,r,hl,e⟩:=I.lstM hH
 refine call_meets F.slot_list_append ⟨_,e,rfl⟩ F.entry_list_append (F.args_list_append_2 _ _) (PySem.list_append l its.toArray n u (by rw[List.size_toArray];omega)) ⟨e,?_⟩
 refine⟨.non,_,I.lset (its':=its++[u]) hH e (by simp) (r.append (.cons ru .nil)) ?_,rfl,q⟩
 rw[List.length_append,List.length_singleton]
 omega
def xV:V->List V->Hp->VK->Prop:=fun x vs H Q=>∃l b xs zs,x= .ref l/\vs=[.ref b]/\H l=some (.lst xs)/\H b=some (.lst zs)/\xs.length+zs.length<=sizeLine/\Q .non (upd H l (.lst (xs++zs)))
theorem rM:DR X "list.extend" xV:=by
 intro pins s σ H x vs v us Q I rx rv h
 obtain⟨l,b,xs,zs,rfl,rfl,hH,hB,hz,q⟩:=h
 cases rx
 obtain⟨u,rfl,ru⟩:=rv.one
 cases ru
 obtain⟨z,its,n,r,hl,e⟩:=I.lstM hH
 obtain⟨z2,its2,n2,r2,hl2,e2⟩:=I.lstM hB
 have hsz:its.toArray.size+its2.toArray.size<=sizeLine:=by rw[List.size_toArray,List.size_toArray];omega
 have hlong:¬(!its.toArray.isEmpty && Builtin.List.listTooLong (its.toArray.size+its2.toArray.size))=true:=by
  rw[nk hsz,Bool.and_false]
  exact Bool.false_ne_true
 refine call_meets F.slot_list_extend ⟨_,e,rfl⟩ F.entry_list_extend (F.args_list_extend_2 _ _)
  (AutoSeq1.list_extend_list_list_0 l its.toArray n b its2.toArray n2 hlong (by rw[List.size_toArray];omega) (by omega)) ⟨e,e2,?_⟩
 refine⟨.non,_,I.lset (its':=its++its2) hH e (by simp) (r.append r2) ?_,rfl,q⟩
 rw[List.length_append]
 omega
def Hi:V->List V->Hp->VK->Prop:=fun x vs H Q=>∃l xs y,x= .ref l/\vs=[]/\H l=some (.lst xs)/\xs[xs.length-1]? =some y/\Q y (upd H l (.lst xs.dropLast))
theorem AF:DR X "list.pop" Hi:=by
 intro pins s σ H x vs v us Q I rx rv h
 obtain⟨l,xs,y,rfl,rfl,hH,hy,q⟩:=h
 cases rx
 have hus:=rv.zero
 subst hus
 obtain⟨z,its,n,r,hl,e⟩:=I.lstM hH
 obtain⟨u,hu,ru⟩:=r.get hy
 have hy':its.toArray[its.toArray.size-1]? =some u:=by
  show its.toArray[its.length-1]? =some u
  rw[<-Array.getElem?_toList,<-hl]
  exact hu
 refine call_meets F.slot_list_pop ⟨_,e,rfl⟩ F.entry_list_pop (F.args_list_pop_1 _) (MeetsSeq.list_pop_last l its.toArray n u hy' (by rw[List.size_toArray];omega)) ⟨e,?_⟩
 refine⟨y,_,I.lset (its':=its.dropLast) hH e ?_ r.dropLast ?_,ru,q⟩
 ·show its.toArray.eraseIdxIfInBounds (its.toArray.size-1)=its.dropLast.toArray
  rw[List.size_toArray,List.eraseIdxIfInBounds_toArray,oV]
 ·rw[List.length_dropLast]
  omega
def AG:V->List V->Hp->VK->Prop:=fun x vs H Q=>∃l xs i k y,x= .ref l/\vs=[.int i]/\H l=some (.lst xs)/\ -(2 ^ 63)<=i/\i<2 ^ 63/\seqIndex? i xs.length=some k/\xs[k]? =some y/\Q y (upd H l (.lst (xs.eraseIdx k)))
theorem ur:DR X "list.pop" AG:=by
 intro pins s σ H x vs v us Q I rx rv h
 obtain⟨l,xs,i,k,y,rfl,rfl,hH,h1,h2,hk,hy,q⟩:=h
 cases rx
 obtain⟨u,rfl,ru⟩:=rv.one
 obtain⟨t,rfl⟩:=ru
 obtain⟨z,its,n,r,hl,e⟩:=I.lstM hH
 obtain⟨w,hw,rw'⟩:=r.get hy
 refine call_meets F.slot_list_pop ⟨_,e,rfl⟩ F.entry_list_pop (F.args_list_pop_2 _ _)
  (MeetsSeq.list_pop_at l its.toArray n i t k w (fitsIndex_both h1 h2) (by rw[List.size_toArray,<-hl];exact hk) (by rw[<-Array.getElem?_toList];exact hw) (by rw[List.size_toArray];omega)) ⟨e,?_⟩
 refine⟨y,_,I.lset (its':=its.eraseIdx k) hH e ?_ (r.eraseIdx k) ?_,rw',q⟩
 ·show its.toArray.eraseIdxIfInBounds k=(its.eraseIdx k).toArray
  rw[List.eraseIdxIfInBounds_toArray]
 ·have:=kS xs k
  omega
def ut:V->List V->Hp->VK->Prop:=fun x vs H Q=>∃l xs,x= .ref l/\vs=[]/\H l=some (.lst xs)/\Q .non (upd H l (.lst xs.reverse))
theorem oW:DR X "list.reverse" ut:=by
 intro pins s σ H x vs v us Q I rx rv h
 obtain⟨l,xs,rfl,rfl,hH,q⟩:=h
 cases rx
 have hus:=rv.zero
 subst hus
 obtain⟨z,its,n,r,hl,e⟩:=I.lstM hH
 refine call_meets F.slot_list_reverse ⟨_,e,rfl⟩ F.entry_list_reverse (F.args_list_reverse_1 _) (AutoSeq1.list_reverse_list_0 l its.toArray n (by rw[List.size_toArray];omega)) ⟨e,?_⟩
 refine⟨.non,_,I.lset (its':=its.reverse) hH e (by simp) r.reverse ?_,rfl,q⟩
 rw[List.length_reverse]
 omega
def Hj:R2:=fun x y H Q=>∃l k xs,x= .ref l/\y= .int k/\H l=some (.lst xs)/\ -(2 ^ 63)<=k/\k<2 ^ 63/\xs.length*k.toNat<=sizeLine /\
 ∀p,H p=none->Q (.ref p) (upd H p (.lst (List.replicate k.toNat xs).flatten))
theorem xW{α :Type}(xs:List α)(k:Nat):(List.replicate k xs).flatten.length=k*xs.length:=by
 induction k with
 |zero=>simp
 |succ k ih=>rw[List.replicate_succ,List.flatten_cons,List.length_append,ih,Nat.succ_mul,Nat.add_comm]
theorem AH:fY X (binaryOp .Mult) Hj:=by
 intro pins s σ H x y v u Q I rx ry h
 obtain⟨l,k,xs,rfl,rfl,hH,h1,h2,hz,q⟩:=h
 cases rx
 obtain⟨t,rfl⟩:=ry
 obtain⟨z,its,n,r,hl,e⟩:=I.lstM hH
 have hlen:its.toArray.size*k.toNat<=sizeLine:=by rw[List.size_toArray,<-hl];exact hz
 have hcap:¬its.toArray.size*k.toNat>(2 ^ 63-1) / 8:=by
  have:(sizeLine:Nat)<=(2 ^ 63-1) / 8:=by decide
  omega
 have hfit:¬(!Builtin.List.listFitsIndex k)=true:=by
  rw[fitsIndex_both h1 h2]
  exact Bool.false_ne_true
 have hlong:¬Builtin.List.listTooLong (its.toArray.size*k.toNat)=true:=by
  rw[nk hlen]
  exact Bool.false_ne_true
 have hnew:List.foldl (fun x1 x2=>x1++x2) #[] (List.replicate (if its.toArray.isEmpty=true then 0 else k.toNat) its.toArray)=(List.replicate k.toNat its).flatten.toArray:=by
  have f0:∀m:Nat,List.foldl (fun x1 x2=>x1++x2) #[] (List.replicate m its.toArray)=(List.replicate m its).flatten.toArray:=fun m=>by
   have:=kT its m []
   rw[List.nil_append]at this
   exact this
  rw[f0]
  cases its with
  |nil=>simp
  |cons a r'=>rw[if_neg (by simp)]
 refine wpAny_binaryOp_repeat_ref (T:="list") (U:="int") (by decide) ⟨_,e,rfl⟩ (fun s'=>typeIs_int s' k t) noFill_list_mul F.fills_int_mul F.slot_int_rmul repeat_list F.slot_int_index.lookup
  (call_meets F.slot_int_rmul (typeIs_int s k t) F.entry_int_rmul (F.args_int_rmul_2 _ _) (int___rmul___int_list k t l its.toArray n)
   ⟨e,rfl,⟨_,e,rfl⟩,call_meets F.slot_list_mul ⟨_,e,rfl⟩ F.entry_list_mul (F.args_list_mul_2 _ _) (AutoListH.list___mul___list_int_3 l its.toArray n k t hfit hcap hlong) ⟨e,?_⟩⟩)
 rw[hnew]
 exact⟨.ref _,_,I.lnew (t':=s.toks) (r.rep k.toNat) (by rw[xW,Nat.mul_comm];exact hz),rfl,q _ I.fresh⟩
end
noncomputable section
variable{prog:Program}{w:World}{A:Around}{E:Value->Shared->Prop}{s:Shared}
end
noncomputable section
variable{X:Cx}
end
end L2
namespace Att
open PySem PySem.W PySem.Calls PyProof.Rows
theorem jk{P:Params}{h:Heap}:∀(ns:List Int) (vs:List Value),WellAll P h vs (ns.map WData.int)->IntsAre vs ns:=by
 intro ns
 induction ns with
 |nil =>
  intro vs w
  rw[List.map_nil]at w
  cases w
  exact .nil
 |cons n ns ih =>
  intro vs w
  rw[List.map_cons]at w
  cases w with
  |cons a b =>
   cases a
   exact .cons _ _ (ih _ b)
theorem rN{l:OpenLaw}{n:Nat}(hn:l.most=some n){P:Params}{h:Heap}{args:List WData}{vals:List Value}
  (hpre:l.row.toRowW.claim.pre args=true) (hwl:WellAll P h vals args) :
  ∃a vs ns,vals=[Value.ref a]/\args=[WData.list (ns.map WData.int)]/\h.get? a=some { cls:= .type "list",data:= .seq vs.toArray }/\IntsAre vs ns/\ns.length<=n:=by
 have hsh:WShape.hasAll [] args [.list .int]=true:=(pre_splitW hpre).1
 have hc:l.pre.holds [] { args:=args }=true:=(pre_splitW hpre).2
 obtain⟨d,r,rfl,h1,h2⟩:=hasAllW_cons hsh
 obtain rfl:=hasAllW_nil h2
 obtain⟨xs,rfl,h3⟩:=hasW_list h1
 obtain⟨ns,rfl⟩:=items_int h3
 have hlen:ns.length<=n:=by
  unfold OpenLaw.pre at hc
  have h4:(WTm.not (.lt (.lit (.int (n:Int))) (.len (.arg 0)))).holds [] { args:=[.list (ns.map .int)] }=true:=by
   have h4:=(holds_andW hc).1
   rw[hn]at h4
   exact h4
  have h5:=condW_of h4 (w_not (w_lt w_lit (w_len_list (w_arg rfl))))
  rw[List.length_map]at h5
  refine Nat.le_of_not_lt fun q=> ?_
  have q':(n:Int)<((ns.length:Nat):Int):=by omega
  first
   | (rw[decide_eq_true q']at h5;exact absurd h5 (by decide))
   | (simp at h5;omega)
 cases hwl with
 |cons w1 w2 =>
  cases w2
  cases w1 with
  |list ho hall=>exact⟨_,_,ns,rfl,rfl,ho,jk ns _ hall,hlen⟩
theorem rO(l:OpenLaw)(args:List WData):l.row.toRowW.claim.post args (.bool true) args=true :=
 postW_of (r:=l.row.toRowW) (X:=(true == true))
  (show WShape.has [] (.bool true) .bool=true by first|rfl|decide|simp[WShape.has,WShape.arms,WShape.armsAll])
  (show(WTm.eq .res (.lit (.bool true))).value [] { args:=args,res:=some (.bool true),after:=args }=some (.bool (true == true)) from w_eq_bool (w_res rfl) w_lit) rfl
theorem attach_call{l:OpenLaw}{n:Nat}{q:Program}{loose:List Str}{XP:(Str->Option Value)->Heap->Prop}{YP:World->Heap->Prop}{d:DefRec}
  (hn:l.most=some n) (hdf:d.params.defaults=[])
  (call:∀(w:World) (s₀ s₁:Shared) (mg mb:Str->Option Value) (fa:Addr) (o:Obj) (pm cd doc:Value) (a:Addr) (vs:List Value) (ns:List Int),
   Ground q loose [] XP w s₀ mg mb s₁.heap->YP w s₁.heap ->
   s₁.heap.get? fa=some o->o.data= .func (docDef d.name d.params d.body d.scope pm cd doc)->s₁.heap.CodeRec cd d.name->mg d.name=some (.ref fa) ->
   s₁.heap.get? a=some { cls:= .type "list",data:= .seq vs.toArray }->IntsAre vs ns->ns.length<=n->s₁.gens= #[] ->
   codeAny (model l.prog w) callerA (.call (.ref fa) ⟨[.ref a],[]⟩) (fun r s'=>r= .ok (.ret (.bool true))/\OldK s₁.heap s'.heap/\s'.os=s₁.os/\AllBare s'.gens) s₁) :
  WalkO q loose XP YP l.row.toRowW d [] (fun f vs=>PySem.call f vs):=by
 intro w s₀ s₁ mg mb G Y fa o pm cd doc dV kV ho hd hcd hD hmg hg args vals as hpre hlay hrd hwl hlo
 obtain rfl:dV= .none:=Dflts.none hD hdf
 obtain rfl:kV= .none:=Dflts.noKw hD
 obtain⟨a,vs,ns,rfl,rfl,hobj,hints,hlen⟩:=rN hn hpre hwl
 refine enter_call (codeAny_mono (call w s₀ s₁ mg mb fa o pm cd doc a vs ns G Y ho (fd_plain hd) hcd hmg hobj hints hlen hg) fun r s' hq=> ?_)
 obtain⟨rfl,h2,h3,h4⟩:=hq
 exact⟨.inl ⟨.bool true,.bool true,[],rfl,fun _=>rfl,.bool true,rO l _,fun _=>⟨List.Pairwise.nil,fun _ hm=>(nomatch hm)⟩⟩,h2,h3,h4⟩
noncomputable section
variable{prog:Program}{w:World}{A:Around}{E:Value->Shared->Prop}{s:Shared}{K:Frag}
end
end Att
namespace L2
open PySem PySem.Spec PyProof.Rows
theorem kU:∀{vs:List Value} {ns:List Int},IntsAre vs ns->aM (ns.map V.int) vs
 |_,_,.nil=> .nil
 |_,_,.cons n t h=> .cons ⟨t,rfl⟩ (kU h)
def uv(H:Hp):Prop:=∀b,H b=none\/(∃o xs,H b=some (.frz o (.lst xs)))\/H b=some (.tbl 0)
theorem DU:TriplesOk []:=by first|trivial|constructor|simp[TriplesOk]
theorem AI(pos:Pos):codeAmong pos []=none:=by first|rfl|simp[codeAmong]
theorem AJ{h₀ h:Heap}(k:∀b o,h₀.get? b=some o->h.get? b=some o\/(isCodeTable h₀ b/\o=PySem.W.tabObj #[]/\ ∃ps,h.get? b=some (PySem.W.tabObj ps))):OldK h₀ h :=
 ⟨fun b o e=>by
  rcases k b o e with z|⟨ht,rfl,ps,hP⟩
  ·exact .inl z
  ·exact .inr (.inl ⟨ht,rfl, #[],ps,rfl,by rw[Array.empty_append];exact hP⟩),fun b o e=>by
  rcases k b o e with z|⟨_,_,ps,hP⟩
  ·exact⟨o,z⟩
  ·exact⟨_,hP⟩⟩
open Classical in
noncomputable def pZ(ts:List Addr)(H:Hp):Hp:=fun b=>if b∈ts then some (.tbl 0) else H b
theorem eY{ts:List Addr}{H:Hp}{b:Addr}(h:b∈ts):pZ ts H b=some (.tbl 0):=if_pos h
theorem cW{ts:List Addr}{H:Hp}{b:Addr}(h:b∉ts):pZ ts H b=H b:=if_neg h
theorem uw{P:Program}{w:World}{K:Fg}{mg mb:Str->Option Value}{CX:jG}{k:Nat}{fa a:Addr}{fd:FuncData}{x:Str}{sp:Sp}{s₁:Shared}{vs:List Value}{ns:List Int}
  (KX:K.In s₁.heap) (hns:s₁.heap.Ns mainGlobals mg) (hb:s₁.heap.Ns builtinsNs mb) (hbb:∀x:Str,x ≠ "__name__"->mb x=bootBuiltins x) (hlim:s₁.heap.NoLimit) (hbm:∃bm ob,mg "__builtins__"=some (.ref bm)/\bm≠builtinsNs/\s₁.heap.get? bm=some ob/\ob.cls= .type "module"/\ob.dict=some builtinsNs/\ob.data= .plain) (hg:s₁.gens= #[])
  (ha:s₁.heap.get? a=some { cls:= .type "list",data:= .seq vs.toArray }) (hi:IntsAre vs ns) (hl:ns.length<=sizeLine) (hr:bv k callerA)
  {ts:List Addr} (hts:∀P∈ts,s₁.heap.get? P=some (PySem.W.tabObj #[])/\isCodeTable s₁.heap P/\K.lookup P=none)
  (F:∀base:Bs,K.In base->base.Ns mainGlobals mg->base.tabs=ts->cY P w K mg base CX k fa fd [x] sp) (hbind:∀(s:Shared) (u:Value),BindsTo s fd ⟨[u],[]⟩ [(x,u)])
  (hsp:∀H:Hp,uv H->eI K H a (ns.map V.int)->sp [.ref a] H (fun v _=>v= .bl true) fun _ _ _=>False)
  (hCX:∀H e s',CX [] H s₁ (fun _ _ _=>False) e s'->False) :
  codeAny (model P w) callerA (.call (.ref fa) ⟨[.ref a],[]⟩) (fun r s'=>r= .ok (.ret (.bool true))/\OldK s₁.heap s'.heap/\s'.os=s₁.os/\AllBare s'.gens) s₁:=by
 have rv:=kU hi
 have lenV:=hi.length
 -- from an abstract heap in which nothing but the script may be tracked
 have core:∀H:Hp,uv H->eI K H a (ns.map V.int)->gz P w H s₁.heap->(∀b,H b≠none->b=a\/b∈ts)->(H a≠none->K.lookup a=none)->(∀P∈ts,H P=some (.tbl 0)) ->
   codeAny (model P w) callerA (.call (.ref fa) ⟨[.ref a],[]⟩) (fun r s'=>r= .ok (.ret (.bool true))/\OldK s₁.heap s'.heap/\s'.os=s₁.os/\AllBare s'.gens) s₁:=by
  intro H hO hS hok hA hK hTb
  have base_of:∀{b:Addr} {o:Obj},s₁.heap.get? b=some o->H b=none->(kx s₁.heap H).get? b=some o:=fun e n=>tY e n
  have noA:∀{b:Addr} {o:Obj} {es:Array DictEntry} {ep:Nat},s₁.heap.get? b=some o->o.data= .dict es ep->H b=none:=fun {b o es ep} e d=>by
   cases q:H b with
   |none=>rfl
   |some u =>
    rcases hA b (by rw[q];simp)with e'|e'
    case inr=>rw[(hts b e').1]at e;cases e;cases d
    subst e'
    rw[ha]at e;cases e
    have d':Data.seq vs.toArray _=Data.dict es ep:=d
    cases d'
  have nsK:∀{b:Addr} {m:Str->Option Value},s₁.heap.Ns b m->(kx s₁.heap H).Ns b m:=fun {b m} ⟨o,es,ep,e,d,r⟩=>⟨o,es,ep,base_of e (noA e d),d,r⟩
  have hKb:K.In (kx s₁.heap H):=fun b o e=>base_of (KX b o e) (by
   cases q:H b with
   |none=>rfl
   |some u =>
    rcases hA b (by rw[q];simp)with e'|e'
    case inr=>rw[(hts b e').2.2]at e;cases e
    subst e'
    rw[hK (by rw[q];simp)]at e;cases e)
  have hM:Mod K mg (⟨kx s₁.heap H,ts⟩:Bs):=⟨hKb,nsK hns,⟨mb,nsK hb,hbb⟩,let ⟨mc,h1,h2⟩:=hlim;⟨mc,nsK h1,h2⟩,let ⟨bm,ob,a1,a2,a3,a4,a5,a6⟩:=hbm;⟨bm,ob,a1,a2,base_of a3 (by
   cases q:H bm with
   |none=>rfl
   |some u =>
    rcases hA bm (by rw[q];simp)with e'|e'
    ·rw[e',ha]at a3;cases a3;exact absurd a6 (by simp)
    ·rw[(hts bm e').1]at a3;cases a3;exact absurd a6 (by simp)),a4,a5,a6⟩⟩
  have e0:lH P w K mg (⟨kx s₁.heap H,ts⟩:Bs) callerA [] s₁ H:=⟨rfl,hM,fun b o e=>xw e,Nat.le_of_eq (rq _ _),trivial,fun b hb=>absurd (show b∈([]:List Addr) from hb) (by simp),hok,.of_eq hg,hTb⟩
  refine codeAny_mono ((F ⟨kx s₁.heap H,ts⟩ hKb (nsK hns) rfl).run callerA [] s₁ H ⟨[.ref a],[]⟩ [.ref a] [.ref a] _ _ hr e0 (hbind s₁ (.ref a)) (.cons rfl .nil) (hsp H hO hS)) fun r s' h=> ?_
  cases r with
  |error e=>exact(hCX H e s' h).elim
  |ok fl =>
   cases fl with
   |next=>exact False.elim h
   |brk=>exact False.elim h
   |cont=>exact False.elim h
   |ret u =>
    obtain⟨v,H',os,bare,un,hok',r',q⟩:=h
    have q':v= .bl true:=q
    subst q'
    obtain rfl:u=Value.bool true:=r'
    refine⟨rfl,AJ fun b o e=> ?_,os,bare⟩
    cases q:H b with
    |none=>exact .inl (un.keep b o e q (by intro z;exact absurd (show b∈([]:List Addr) from z) (by simp)) (by simp))
    |some u =>
     rcases hO b with z|⟨ob,xs,z⟩|z
     case inr.inr =>
      rcases hA b (by rw[q];simp)with e'|e'
      case inl =>
       subst e'
       obtain⟨ps,e1,_⟩:=hok _ _ z
       rw[ha]at e1;cases e1
      obtain⟨ps,e2,_⟩:=hok' b _ (un.tbls b 0 z)
      rw[(hts b e').1]at e;cases e
      exact .inr ⟨(hts b e').2.1,rfl,ps,e2⟩
     ·rw[q]at z;cases z
     ·have z2:=un.frzs b ob _ z
      obtain⟨e1,_⟩:=hok b _ z
      obtain⟨e2,_⟩:=hok' b _ z2
      rw[e]at e1;cases e1
      exact .inl e2
 have haT:a∉ts:=fun z=>by have:=(hts a z).1;rw[ha]at this;cases this
 have okT:∀b∈ts,∀H:Hp,bJ P w H s₁.heap b (.tbl 0):=fun b hb H=>⟨#[],(hts b hb).1,DU,fun pos cv z=>by rw[show(#[]:Array Value).toList=[] from rfl,AI]at z;cases z⟩
 cases hk:K.lookup a with
 |some o =>
  have e:=KX a o hk
  rw[ha]at e
  cases e
  refine core (pZ ts fun _=>none) (fun b=> ?_) (.inr ⟨_,vs.toArray,_,hk,rfl,rfl,rfl,by rw[List.size_toArray,lenV];exact hl,by simpa using rv⟩) (fun b u z=> ?_) (fun b z=> ?_) (fun z=> ?_) fun P hP=>eY hP
  ·by_cases hb:b∈ts
   ·exact .inr (.inr (eY hb))
   ·exact .inl (cW hb)
  ·by_cases hb:b∈ts
   ·rw[eY hb]at z;cases z;exact okT b hb _
   ·rw[cW hb]at z;cases z
  ·by_cases hb:b∈ts
   ·exact .inr hb
   ·exact absurd (cW hb) z
  ·exact absurd (cW haT) z
 |none =>
  refine core (pZ ts fun b=>if b=a then some (.frz { cls:= .type "list",data:= .seq vs.toArray } (.lst (ns.map V.int))) else none) (fun b=> ?_) (.inl (.inr ⟨{ cls:= .type "list",data:= .seq vs.toArray },by rw[cW haT];exact if_pos rfl⟩)) (fun b u z=> ?_) (fun b z=> ?_) (fun _=>hk) fun P hP=>eY hP
  ·by_cases hb:b∈ts
   ·exact .inr (.inr (eY hb))
   ·rw[cW hb]
    by_cases hb:b=a
    ·exact .inr (.inl ⟨_,_,if_pos hb⟩)
    ·exact .inl (if_neg hb)
  ·by_cases hT:b∈ts
   ·rw[eY hT]at z;cases z;exact okT b hT _
   ·rw[cW hT]at z
    by_cases hb:b=a
    ·have z':=(if_pos hb).symm.trans z
     cases z'
     subst hb
     exact⟨ha,by rw[List.length_map];exact hl,vs,_,rv,ha⟩
    ·have z':=(if_neg hb).symm.trans z
     cases z'
  ·by_cases hT:b∈ts
   ·exact .inr hT
   ·rw[cW hT]at z
    by_cases hb:b=a
    ·exact .inl hb
    ·exact absurd (if_neg hb) z
end L2
namespace L2
open PySem PySem.Spec PyProof.Rows
theorem xX{l:PySem.W.OpenLaw}{n k:Nat}{q:Program}{loose:List Str}{XP:(Str->Option Value)->Heap->Prop}{YP:World->Heap->Prop}{d:DefRec}{K:Params->Fg}{CX:World->jG}{sp:World->Sp}{x:Str}
  (hn:l.most=some n) (hn2:n<=sizeLine) (hdf:d.params.defaults=[]) (hr:bv k callerA)
  (hY:∀(w:World) (h:Heap),YP w h->(K w.params).In h) {ts:List Addr} (hts:∀(w:World) (h:Heap),YP w h->∀P∈ts,h.get? P=some (PySem.W.tabObj #[])/\isCodeTable h P/\(K w.params).lookup P=none)
  (F:∀(w:World) (mg:Str->Option Value) (fa:Addr) (h:Heap),(K w.params).In h->h.Ns mainGlobals mg->mg d.name=some (.ref fa) ->
   ∃fd:FuncData,(∀(s:Shared) (u:Value),BindsTo s fd ⟨[u],[]⟩ [(x,u)]) /\
    ∀base:Bs,(K w.params).In base->base.Ns mainGlobals mg->base.tabs=ts->cY l.prog w (K w.params) mg base (CX w) k fa fd [x] (sp w))
  (hsp:∀(w:World) (H:Hp) (a:Addr) (ns:List Int),ns.length<=n->uv H->eI (K w.params) H a (ns.map V.int)->sp w [.ref a] H (fun v _=>v= .bl true) fun _ _ _=>False)
  (hCX:∀(w:World) (H:Hp) (s:Shared) (e:Value) (s':Shared),CX w [] H s (fun _ _ _=>False) e s'->False) :
  PySem.W.WalkO q loose XP YP l.row.toRowW d [] (fun f vs=>PySem.call f vs):=by
 refine Att.attach_call hn hdf fun w s₀ s₁ mg mb fa o pm cd doc a vs ns G Y ho hd hcd hmg hobj hints hlen hg=> ?_
 have KX:=hY w _ Y
 obtain⟨fd,hb,hF⟩:=F w mg fa _ KX G.T.g hmg
 exact uw KX G.T.g G.T.b G.T.builtins G.T.nolimit G.T.bmain hg hobj hints (Nat.le_trans hlen hn2) hr (hts w _ Y) hF hb (fun H hO hS=>hsp w H a ns hlen hO hS) fun H e s'=>hCX w H s₁ e s'
theorem DV{l:PySem.W.OpenLaw}{n k:Nat}{q:Program}{loose:List Str}{XP:(Str->Option Value)->Heap->Prop}{YP:World->Heap->Prop}{d:DefRec}{K:Params->Fg}{CX:jG}{sp:Fg->Sp}{x:Str}
  (hn:l.most=some n) (hn2:n<=sizeLine) (hdf:d.params.defaults=[]) (hr:bv k callerA)
  (hY:∀(w:World) (h:Heap),YP w h->(K w.params).In h) {ts:List Addr} (hts:∀(w:World) (h:Heap),YP w h->∀P∈ts,h.get? P=some (PySem.W.tabObj #[])/\isCodeTable h P/\(K w.params).lookup P=none)
  (F:∀(w:World) (mg:Str->Option Value) (fa:Addr) (h:Heap),(K w.params).In h->h.Ns mainGlobals mg->mg d.name=some (.ref fa) ->
   ∃fd:FuncData,(∀(s:Shared) (u:Value),BindsTo s fd ⟨[u],[]⟩ [(x,u)]) /\
    ∀base:Bs,(K w.params).In base->base.Ns mainGlobals mg->base.tabs=ts->cY l.prog w (K w.params) mg base CX k fa fd [x] (sp (K w.params)))
  (hsp:∀(K:Fg) (H:Hp) (a:Addr) (ns:List Int),ns.length<=n->uv H->eI K H a (ns.map V.int)->sp K [.ref a] H (fun v _=>v= .bl true) fun _ _ _=>False)
  (hCX:∀(H:Hp) (s:Shared) (e:Value) (s':Shared),CX [] H s (fun _ _ _=>False) e s'->False) :
  PySem.W.WalkO q loose XP YP l.row.toRowW d [] (fun f vs=>PySem.call f vs) :=
 xX (K:=K) (CX:=fun _=>CX) (sp:=fun w=>sp (K w.params)) hn hn2 hdf hr hY hts F (fun w H a ns h1 h2 h3=>hsp (K w.params) H a ns h1 h2 h3) fun _ H s e s'=>hCX H s e s'
end L2
namespace L2
open PySem PySem.Spec PyProof.Rows
noncomputable def aN(s:Stmt)(j:Nat):Stmt:=match s with
 |.ClassDef _ _ _ body _ _ _ _ _ _ _=>body.getD j (.Pass ⟨0,0,0,0⟩)
 |_=> .Pass ⟨0,0,0,0⟩
noncomputable def eL(s:Stmt):Arguments:=match s with
 |.FunctionDef _ a _ _ _ _ _ _ _ _=>a
 |_=>{ posonlyargs:=[],args:=[],vararg:=none,kwonlyargs:=[],kw_defaults:=[],kwarg:=none,defaults:=[] }
def bF(s:Stmt):List Stmt:=match s with
 |.FunctionDef _ _ b _ _ _ _ _ _ _=>b
 |_=>[]
noncomputable def al(s:Stmt):Scope:=match s with
 |.FunctionDef _ _ _ _ _ _ sc _ _ _=>sc
 |_=>{ kind:= .function,names:=[],isGenerator:=false,isCoroutine:=false }
abbrev fX:jG:=fun _ _ _ _ _ _=>False
abbrev E0:XK:=fun _ _ _=>False
theorem kW{X:Cx}:eQ fX X E0:=fun _ _ _ _ _ _ _ h=>h.elim
structure fC(K:Fg)(x qual:Str)(st:Stmt)(f:Addr)(fd:FuncData):Prop where
 ex:∃(oc:Value) (od:Option Addr) (kV doc pm:Value) (an:Option Addr) (cdv ct:Value) (osl:Array (Option Value)),
  fd=PySem.W.fnOf x qual (eL st) (bF st) (al st) .none kV doc pm an cdv ct/\K.lookup f=some ⟨oc,od,.func fd,osl⟩/\PySem.W.codeIn K cdv qual=true
 kp:PySem.W.keepIn K (.ref f)=true
noncomputable section
variable{P:Program}{w:World}{K:Fg}{mg:Str->Option Value}{base:Bs}
theorem fC.ok{x qual:Str}{st:Stmt}{f:Addr}{fd:FuncData}{N ps:List Str}{k:Nat}{sp:Sp}(F:fC K x qual st f fd)(S:ap N ps (al st))(len:∀vs H Q E,sp vs H Q E->vs.length=ps.length)
  (hbody:∀(cdv:Value) (A:Around) (outer:List Env) (s:Shared) (H:Hp) (vs:List V) (Q:VK) (E:XK),bv k (A.deeper (envOfC qual (al st) s.heap.objs.size f cdv))->sp vs H Q E ->
   ∃t,mZ (iK fX P w K mg base N qual (al st) f cdv A outer s H E).nox (bF st) t/\t { nx:=fun _ H'=>Q .non H',rt:=Q } (start N vs) H):cY P w K mg base fX (k+1) f fd ps sp:=by
 obtain⟨oc,od,kV,doc,pm,an,cdv,ct,osl,rfl,lk,hcd⟩:=F.ex
 refine zm lk hcd S len fun A outer s H vs Q E hr hsp=> ?_
 obtain⟨t,h,q⟩:=hbody cdv A outer s H vs Q E hr hsp
 exact⟨t,h.nox,q⟩
theorem fC.binds{x qual:Str}{st:Stmt}{f:Addr}{fd:FuncData}{ps:List Str}(F:fC K x qual st f fd)
  (h:∀(kV doc pm:Value) (an:Option Addr) (cdv ct:Value) (us:List Value),us.length=ps.length->bindArgs (PySem.W.fnOf x qual (eL st) (bF st) (al st) .none kV doc pm an cdv ct) ⟨us,[]⟩=pure (ps.zip us)):bw K fd ps []:=by
 obtain⟨oc,od,kV,doc,pm,an,cdv,ct,osl,rfl,lk,hcd⟩:=F.ex
 exact .all (h kV doc pm an cdv ct)
theorem ux{x qual:Str}{st:Stmt}{f:Addr}{oc:Value}{od an:Option Addr}{osl:Array (Option Value)}{kV doc pm cdv ct:Value}(l:K.lookup f=some ⟨oc,od,.func (PySem.W.fnOf x qual (eL st) (bF st) (al st) .none kV doc pm an cdv ct),osl⟩)
  (c:PySem.W.codeIn K cdv qual=true) (k:PySem.W.keepIn K (.ref f)=true):fC K x qual st f (PySem.W.fnOf x qual (eL st) (bF st) (al st) .none kV doc pm an cdv ct):=⟨⟨oc,od,kV,doc,pm,an,cdv,ct,osl,rfl,l,c⟩,k⟩
end
theorem hU{A:Around}{k:Nat}(hr:bv k A):A.units+1<cLine:=Nat.lt_of_le_of_lt (Nat.add_le_add_left (by decide:1<=64) _) hr.units
theorem iN{n:Nat}(h:n<=1000):n<sizeLine:=Nat.lt_of_le_of_lt h (by decide)
noncomputable section
variable{X:Cx}
end
theorem lP{A B:Prop}(h:B):if false=true then A else B:=by
 rw[if_neg Bool.false_ne_true]
 exact h
theorem iteT{A B:Prop}(h:A):if true=true then A else B:=by
 rw[if_pos rfl]
 exact h
def Same(H H':Hp):Prop:=∀b o,H b=some o->H' b=some o
theorem Same.refl(H:Hp):Same H H:=fun _ _ h=>h
theorem Same.trans{H H1 H2:Hp}(a:Same H H1)(b:Same H1 H2):Same H H2:=fun c o h=>b c o (a c o h)
theorem Same.free{H H':Hp}(e:Same H H'){l:Addr}(h:H' l=Option.none):H l=Option.none:=by
 cases q:H l with
 |none=>rfl
 |some o =>
  rw[e l o q]at h
  cases h
theorem Same.seq{K:Fg}{H H':Hp}{a:Addr}{xs:List V}(e:Same H H')(h:eI K H a xs):eI K H' a xs:=by
 rcases h with(h|⟨o,h⟩)|h
 ·exact .inl (.inl (e _ _ h))
 ·exact .inl (.inr ⟨o,e _ _ h⟩)
 ·exact .inr h
end L2
end
noncomputable section
namespace L2
open PySem PySem.Spec PyProof.Rows
noncomputable section
variable{κ :Type}[DecidableEq κ]
noncomputable def hV(kvs:List (κ×V))(k: κ):Option V:=(kvs.find? fun kv=>decide (kv.1=k)).map (·.2)
noncomputable def eR(kvs:List (κ×V))(k: κ)(v:V):List (κ×V) :=
 if (kvs.any fun kv=>decide (kv.1=k))=true then kvs.map (fun kv=>if kv.1=k then(kv.1,v) else kv) else kvs++[(k,v)]
theorem hX{p: κ×V}{r:List (κ×V)}{k: κ}(e:p.1=k):hV (p::r) k=some p.2:=by simp[hV,List.find?_cons,e]
theorem hZ{p: κ×V}{r:List (κ×V)}{k: κ}(e:¬p.1=k):hV (p::r) k=hV r k:=by simp[hV,List.find?_cons,e]
theorem nq(k: κ):∀kvs:List (κ×V),(kvs.any fun kv=>decide (kv.1=k))=(hV kvs k).isSome
 |[]=>rfl
 |p::r=>by
  rw[List.any_cons]
  by_cases e:p.1=k
  ·simp only[hX e,decide_eq_true e,Bool.true_or,Option.isSome_some]
  ·rw[hZ e,decide_eq_false e,Bool.false_or];exact nq k r
theorem fZ(kvs:List (κ×V))(k: κ)(v:V):(eR kvs k v).length<=kvs.length+1:=by
 unfold eR
 split
 ·rw[List.length_map];omega
 ·rw[List.length_append,List.length_cons,List.length_nil];omega
theorem fU.isSome_eq{o:Option V}{u:Option Value}(r:fU o u):o.isSome=u.isSome:=by
 cases o with
 |none=>cases u with
  |none=>rfl
  |some _=>exact(show False from r).elim
 |some _=>cases u with
  |none=>exact(show False from r).elim
  |some _=>rfl
theorem fU.getD{o:Option V}{u:Option Value}{d:V}{d':Value}(r:fU o u)(rd:aR d d'):aR (o.getD d) (u.getD d'):=by
 cases o with
 |none=>cases u with
  |none=>exact rd
  |some _=>exact(show False from r).elim
 |some _=>cases u with
  |none=>exact(show False from r).elim
  |some _=>exact r
theorem KV.val{kvs:List (κ×V)}{vs:List (κ×Value)}(r:KV kvs vs)(k: κ):fU (hV kvs k) (valueAt vs k):=by
 unfold KV at r
 induction r with
 |nil=>exact True.intro
 | @cons p q ps qs h t ih =>
  obtain⟨h1,h2⟩:=h
  by_cases e:p.1=k
  ·have e':q.1=k:=h1.symm.trans e
   have b:valueAt (q::qs) k=some q.2:=by simp[valueAt,List.find?_cons,e']
   rw[hX e,b];exact h2
  ·have e':¬q.1=k:=fun z=>e (h1.trans z)
   have b:valueAt (q::qs) k=valueAt qs k:=by simp[valueAt,List.find?_cons,e']
   rw[hZ e,b];exact ih
theorem KV.any{kvs:List (κ×V)}{vs:List (κ×Value)}(r:KV kvs vs)(k: κ):(kvs.any fun kv=>decide (kv.1=k))=vs.any fun kv=>decide (kv.1=k):=by
 unfold KV at r
 induction r with
 |nil=>rfl
 |cons h t ih=>rw[List.any_cons,List.any_cons,ih,h.1]
theorem KV.repl{kvs:List (κ×V)}{vs:List (κ×Value)}(r:KV kvs vs)(k: κ){y:V}{u:Value}(ry:aR y u) :
  KV (kvs.map fun kv=>if kv.1=k then(kv.1,y) else kv) (vs.map fun kv=>if kv.1=k then(kv.1,u) else kv):=by
 unfold KV at r ⊢
 induction r with
 |nil=>exact .nil
 | @cons p q ps qs h t ih =>
  rw[List.map_cons,List.map_cons]
  refine .cons ?_ ih
  obtain⟨h1,h2⟩:=h
  by_cases e:p.1=k
  ·rw[if_pos e,if_pos (h1.symm.trans e)];exact⟨h1,ry⟩
  ·rw[if_neg e,if_neg (fun z=>e (h1.trans z))];exact⟨h1,h2⟩
theorem KV.put{kvs:List (κ×V)}{vs:List (κ×Value)}(r:KV kvs vs)(k: κ){y:V}{u:Value}(ry:aR y u):KV (eR kvs k y) (stored vs k u):=by
 unfold eR stored
 rw[r.any k]
 by_cases e:(vs.any fun kv=>decide (kv.1=k))=true
 ·rw[if_pos e,if_pos e];exact r.repl k ry
 ·rw[if_neg e,if_neg e];exact Paired.snoc r ⟨rfl,ry⟩
theorem KV.length{kvs:List (κ×V)}{vs:List (κ×Value)}(r:KV kvs vs):kvs.length=vs.length:=Paired.length r
end
theorem nr{P:Program}{w:World}{k:Key}{u:Value}(r:aR (kV k) u):(bu P w).is k u=true:=by
 cases k with
 |inl i=>obtain⟨t,e⟩:=(show ∃t,u=Value.int i t from r);subst e;exact j4 P w i t
 |inr x=>obtain⟨t,e⟩:=(show ∃t,u=Value.str x t from r);subst e;exact mV P w x t
theorem kX{P:Program}{w:World}:∀{ks:List Key} {us:List Value},aM (ks.map kV) us->ItemsAre (bu P w) ks us
 |[],_,r=>by rw[List.map_nil]at r;cases r;exact .nil
 |k::ks,_,r=>by
  rw[List.map_cons]at r
  cases r with
  |cons h t=>exact .cons (nr h) (kX t)
abbrev KT(H:Hp):List (List Key×V)->List (List Key×Addr×Value)->Prop:=Paired fun p q=>p.1=q.1/\H q.2.1=some (.tup (p.1.map kV))/\aR p.2 q.2.2
theorem KT.val{H:Hp}{kvs:List (List Key×V)}{xs:List (List Key×Addr×Value)}(r:KT H kvs xs)(k:List Key):fU (hV kvs k) ((atKey xs k).map (·.2)):=by
 induction r with
 |nil=>exact True.intro
 | @cons p q ps qs h t ih =>
  obtain⟨h1,_,h2⟩:=h
  by_cases e:p.1=k
  ·have e':q.1=k:=h1.symm.trans e
   have b:atKey (q::qs) k=some q.2:=by simp[atKey,List.find?_cons,e']
   rw[hX e,b];exact h2
  ·have e':¬q.1=k:=fun z=>e (h1.trans z)
   have b:atKey (q::qs) k=atKey qs k:=by simp[atKey,List.find?_cons,e']
   rw[hZ e,b];exact ih
theorem KT.repl{H:Hp}{kvs:List (List Key×V)}{xs:List (List Key×Addr×Value)}(r:KT H kvs xs)(k:List Key){y:V}{u:Value}(ry:aR y u) :
  KT H (kvs.map fun kv=>if kv.1=k then(kv.1,y) else kv) (xs.map (putAt k u)):=by
 induction r with
 |nil=>exact .nil
 | @cons p q ps qs h t ih =>
  rw[List.map_cons,List.map_cons]
  refine .cons ?_ ih
  obtain⟨h1,h2,h3⟩:=h
  unfold putAt
  by_cases e:p.1=k
  ·rw[if_pos e,if_pos (h1.symm.trans e)];exact⟨h1,h2,ry⟩
  ·rw[if_neg e,if_neg (fun z=>e (h1.trans z))];exact⟨h1,h2,h3⟩
theorem KT.put{H:Hp}{kvs:List (List Key×V)}{xs:List (List Key×Addr×Value)}(r:KT H kvs xs)(k:List Key){b:Addr}{y:V}{u:Value}(hb:H b=some (.tup (k.map kV)))(ry:aR y u) :
  KT H (eR kvs k y) (storedH xs k b u):=by
 have e:(kvs.any fun kv=>decide (kv.1=k))=(atKey xs k).isSome:=by
  rw[nq,(r.val k).isSome_eq,Option.isSome_map]
 unfold eR storedH
 rw[e]
 by_cases q:(atKey xs k).isSome=true
 ·rw[if_pos q,if_pos q];exact r.repl k ry
 ·rw[if_neg q,if_neg q];exact Paired.snoc r ⟨rfl,hb,ry⟩
theorem KT.keeps{H H':Hp}{kvs:List (List Key×V)}{xs:List (List Key×Addr×Value)}(r:KT H kvs xs)(ht:∀b ys,H b=some (.tup ys)->H' b=some (.tup ys)):KT H' kvs xs :=
 Paired.mapP r fun _ _ z=>⟨z.1,ht _ _ z.2.1,z.2.2⟩
noncomputable section
variable{P:Program}{w:World}{H:Hp}{h:Heap}{a:Addr}
theorem zn{u:HO}(ok:gz P w H h)(e:Rd H a u):bJ P w H h a u:=e.ok ok
theorem nt{kvs:List (Key×V)}{ep:Nat}(ok:gz P w H h)(e:Rd H a (.dK kvs ep)):kvs.length<=sizeLine/\(a == sysModules)=false/\ ∃vs,KV kvs vs/\h.DictOf (bu P w) a vs :=
 let ⟨z,y,vs,r,d⟩:=(show bJ P w H h a (.dK kvs ep) from zn ok e);⟨z,y,vs,r,d.dictOf⟩
theorem zo{kvs:List (Key×V)}{ep:Nat}(ok:gz P w H h)(e:H a=some (.dK kvs ep)):kvs.length<=sizeLine/\(a == sysModules)=false/\ ∃vs,KV kvs vs/\h.DictOf (bu P w) a vs:=nt ok (.inl e)
theorem lQ{ks:List Key}(ok:gz P w H h)(e:H a=some (.tup (ks.map kV))):(tupleKind (bu P w)).is h ks a:=by
 obtain⟨_,its,r,o,h1,h2,n,h3⟩:=(show bJ P w H h a (.tup (ks.map kV)) from ok a _ e)
 exact⟨o,its.toArray,n,h1,h2,h3,by simpa using kX r⟩
theorem nu{kvs:List (List Key×V)}{ep:Nat}(ok:gz P w H h)(e:Rd H a (.dT kvs ep)):kvs.length<=sizeLine/\(a == sysModules)=false /\
  ∃xs,KT H kvs xs/\h.DictOfH (tupleKind (bu P w)) a xs:=by
 obtain⟨z,y,xs,r,o,es,h1,h2,h3,h4,h5⟩:=(show bJ P w H h a (.dT kvs ep) from zn ok e)
 refine⟨z,y,xs,r,o,es,ep,h1,h2,h3,h4,fun x hx=> ?_,h5⟩
 have all:∀{l:List (List Key×V)} {m:List (List Key×Addr×Value)},KT H l m->∀x∈m,(tupleKind (bu P w)).is h x.1 x.2.1:=by
  intro l m q
  induction q with
  |nil=>intro x hx;exact nomatch hx
  | @cons p q ps qs hq t ih =>
   intro x hx
   rcases List.mem_cons.mp hx with e|hx
   ·subst e
    exact lQ ok (by rw[<-hq.1];exact hq.2.1)
   ·exact ih x hx
 exact all r x hx
theorem DW{kvs:List (List Key×V)}{ep:Nat}(ok:gz P w H h)(e:H a=some (.dT kvs ep)):kvs.length<=sizeLine/\(a == sysModules)=false /\
  ∃xs,KT H kvs xs/\h.DictOfH (tupleKind (bu P w)) a xs:=nu ok (.inl e)
end
def lR(H:Hp)(a:Addr)(y:V)(r:Option V):Prop :=
 (∃kvs k ep,Rd H a (.dK kvs ep)/\y=kV k/\r=hV kvs k)\/ ∃kvs k b ep,Rd H a (.dT kvs ep)/\y= .ref b/\H b=some (.tup (k.map kV))/\r=hV kvs k
def uy(H:Hp)(a:Addr)(y v:V)(R:Hp->Prop):Prop :=
 (∃kvs k ep,H a=some (.dK kvs ep)/\y=kV k/\kvs.length<sizeLine/\ ∀ep',R (upd H a (.dK (eR kvs k v) ep'))) \/
 ∃kvs k b ep,H a=some (.dT kvs ep)/\y= .ref b/\H b=some (.tup (k.map kV))/\kvs.length<sizeLine/\ ∀ep',R (upd H a (.dT (eR kvs k v) ep'))
theorem lR.k{H:Hp}{a:Addr}{kvs:List (Key×V)}{k:Key}{ep:Nat}(e:H a=some (.dK kvs ep)):lR H a (kV k) (hV kvs k):= .inl ⟨kvs,k,ep,.inl e,rfl,rfl⟩
theorem uy.k{H:Hp}{a:Addr}{kvs:List (Key×V)}{k:Key}{v:V}{ep:Nat}{R:Hp->Prop}(e:H a=some (.dK kvs ep))(hl:kvs.length<sizeLine)(q:∀ep',R (upd H a (.dK (eR kvs k v) ep'))):uy H a (kV k) v R:= .inl ⟨kvs,k,ep,e,rfl,hl,q⟩
noncomputable section
variable{X:Cx}{pins:List (Addr×Obj)}{σ :St}{H:Hp}{s:Shared}{a:Addr}{y v:V}{u r:Value}{o:Option V}{A:Around}{E:Value->Shared->Prop}
theorem aA.big(I:aA X pins σ H s):sysModules<s.heap.objs.size:=by
 have h:mainGlobals<s.heap.objs.size:=(I.mod.glob.keeps I.bk).lt
 exact Nat.lt_trans (by decide) h
theorem rP{Q:Value->Shared->Prop}(hu:A.units+1<cLine)(I:aA X pins σ H s)(g:lR H a y (some v))(ry:aR y u)(h:∀w' s',aA X pins σ H s'->aR v w'->Q w' s') :
  wpAny .(E) A (getItem (.ref a) u) Q E s:=by
 rcases g with⟨kvs,k,_,e,ey,l⟩|⟨kvs,k,b,_,e,ey,eb,l⟩
 ·subst ey
  obtain⟨z,hd,vs,rel,dd⟩:=nt I.hok e
  obtain⟨w',hw,rw'⟩:=fU.some_of (v:=v) (o:=valueAt vs k) (by rw[l];exact rel.val k)
  exact wpAny_getItem_of (nr ry) dd.mapOf hw (h w' _ (I.tok _) rw')
 ·subst ey
  cases (show u=Value.ref b from ry)
  obtain⟨z,hd,xs,rel,dd⟩:=nu I.hok e
  obtain⟨w',hw,rw'⟩:=fU.some_of (v:=v) (o:=(atKey xs k).map (·.2)) (by rw[l];exact rel.val k)
  obtain⟨p,hp,hp2⟩:=Option.map_eq_some_iff.mp hw
  refine wpAny_getItem_heap (tupleKind_room_in1 hu) (lQ I.hok eb) dd hp ?_
  rw[hp2]
  exact h w' _ (I.tok _) rw'
theorem lS{h':Heap}{t':Nat}{ob:HO}(I:aA X pins σ H s)(mu:CY (H a))(hs:Heap.SameBut a s.heap h')(he:∃q,h'.get? a=some q)(new:bJ X.prog X.w (upd H a ob) h' a ob) :
  aA X pins σ (upd H a ob) { s with heap:=h',toks:=t' } :=
 I.write (x:=a) (e:=a) mu (.inl rfl) (fun b q hb z=>(hs.2 b hb).trans z) he new
theorem uz{P:Program}{w:World}{h':Heap}{kvs:List (Key×V)}{vs:List (Key×Value)}(z:kvs.length<=sizeLine)(hd:(a == sysModules)=false)(rel:KV kvs vs)(dd:h'.DictOf (bu P w) a vs) :
  ∃ep,∀H',bJ P w H' h' a (.dK kvs ep):=let ⟨ep,d⟩:=dd.dictAt;⟨ep,fun _=>⟨z,hd,vs,rel,d⟩⟩
theorem rQ{R:Hp->Prop}{Q:Unit->Shared->Prop}(hu:A.units+1<cLine)(I:aA X pins σ H s)(g:uy H a y v R)(ry:aR y u)(rv:aR v r)(h:∀H' s',aA X pins σ H' s'->R H'->Q () s') :
  wpAny .(E) A (setItem (.ref a) u r) Q E s:=by
 rcases g with⟨kvs,k,ep0,e,ey,l,hR⟩|⟨kvs,k,b,ep0,e,ey,eb,l,hR⟩
 ·subst ey
  obtain⟨z,hd,vs,rel,dd⟩:=zo I.hok e
  have hz:vs.length<=sizeLine:=by rw[<-rel.length];exact z
  have hl:(eR kvs k v).length<=sizeLine:=by have:=fZ kvs k v;omega
  refine wpAny_setItem_pairs (hsz:=hz) (nr ry) dd fun h' dd' hs=> ?_
  have he:∃q,h'.get? a=some q:=let ⟨q,_,_,hq,_⟩:=dd';⟨q,hq⟩
  obtain⟨ep,ok⟩:=uz hl hd (rel.put k rv) dd'
  exact h _ _ (lS I (by rw[e];exact True.intro) hs he (ok _)) (hR ep)
 ·subst ey
  cases (show u=Value.ref b from ry)
  obtain⟨z,hd,xs,rel,dd⟩:=DW I.hok e
  have hz:xs.length<=sizeLine:=by rw[<-Paired.length rel];exact z
  have hl:(eR kvs k v).length<=sizeLine:=by have:=fZ kvs k v;omega
  refine wpAny_setItem_heap (hsz:=hz) (tupleKind_room_in1 hu) (lQ I.hok eb) dd fun h' dd' hs=> ?_
  obtain⟨q,es,ep,hq,h2,h3,h4,_,h5⟩:=dd'
  refine h _ _ (lS (ob:= .dT (eR kvs k v) ep) I (by rw[e];exact True.intro) hs ⟨q,hq⟩ ⟨hl,hd,_,(rel.put k eb rv).keeps fun c ys ec=> ?_,q,es,hq,h2,h3,h4,h5⟩) (hR ep)
  rw[aw (CW ec e (fun z=>nomatch z))]
  exact ec
end
noncomputable section
variable{X:Cx}{pins:List (Addr×Obj)}{σ :St}{H:Hp}{s:Shared}{a:Addr}{kvs:List (Key×V)}{k:Key}{u:Value}{A:Around}{E:Value->Shared->Prop}
end
def AK(i:Expr):Prop:=∀ov iv,subscripted i false ov iv=operate [ov,iv] (getItem ov iv)
theorem xY{prog:Program}{w:World}{A:Around}{E:Value->Shared->Prop}{s:Shared}{env:Env}{value slice:Expr}{pos:Pos}{T id:String}{Q:Value->Shared->Prop}
  (hl:typeLookup (.type T) "__getitem__"=pure (some (.builtin id))) (hs:AK slice)
  (h:wpAny .(An) A (eval value env) (fun o s₁=>wpAny .(An) A (eval slice env) (fun i s₂=>s₂.TypeIs o T/\wpAny .(An) A (getItem o i) Q E s₂) E s₁) E s) :
  wpAny .(An) A (eval (.Subscript value slice pos) env) Q E s:=by
 refine Subscript_ (wpAny_mono h (fun o s₁ h₁=>wpAny_mono h₁ (fun i s₂ h₂=> ?_) fun _ _ x=>x) fun _ _ x=>x)
 obtain⟨hT,h₂⟩:=h₂
 unfold subscriptTail
 refine wpAny_bind ?_
 rw[getitemInPython_of_ne hT.not_modules]
 refine wpAny_bind (wpAny_specialOf hT hl ?_)
 have fin:wpAny .(An) A (subscripted slice false o i) (fun r s₃ =>wpAny .(An) A (letTemporaryGo value o r >>= fun _=>pure r) Q E s₃) E s₂:=by
  rw[hs o i]
  exact wpAny_operating (wpAny_mono h₂ (fun r s₃ h₃ =>wpAny_bind (wpAny_letTemporaryGo (wpAny_pure h₃))) fun _ _ x=>x)
 first
  |exact wpAny_pure (wpAny_bind fin)
  |exact wpAny_bind (wpAny_pure (wpAny_bind fin))
  |exact wpAny_bind fin
theorem nv{X:Cx}{pins:List (Addr×Obj)}{σ :St}{H:Hp}{s:Shared}{a:Addr}{y:V}{o:Option V}(I:aA X pins σ H s)(g:lR H a y o):s.TypeIs (.ref a) "dict":=by
 rcases g with⟨kvs,k,_,e,_,_⟩|⟨kvs,k,b,_,e,_,_,_⟩
 ·obtain⟨_,_,vs,_,dd⟩:=nt I.hok e
  exact dd.typeIs
 ·obtain⟨_,_,xs,_,dd⟩:=nu I.hok e
  exact dd.typeIs
def DX(td ty:TE):TE:=fun σ H Q=>td σ H fun x H1=>ty σ H1 fun y H2=>∃a v,x= .ref a/\lR H2 a y (some v)/\Q v H2
def DY(td ty tv:TE):TS:=fun D σ H=>tv σ H fun v H1=>td σ H1 fun x H2=>ty σ H2 fun y H3=>∃a,x= .ref a/\uy H3 a y v (D.nx σ)
noncomputable section
variable{X:Cx}{o i e value:Expr}{pos pos' tpos:Pos}{td ty tv:TE}
theorem xZ(hu:X.A.units+1<cLine)(ho:PE X o td)(hi:PE X i ty)(hs:AK i):PE X (.Subscript o i pos) (DX td ty):=by
 intro pins s σ H Q I h
 refine xY PySem.F.slot_dict_getitem.lookup hs (bC (ho pins s σ H _ I h) fun u s1 ⟨x,H1,I1,rx,q1⟩=>bC (hi pins s1 σ H1 _ I1 q1) fun iv s2 ⟨y,H2,I2,ry,a,v,ex,g,q2⟩=> ?_)
 subst ex
 obtain rfl:u=Value.ref a:=rx
 exact⟨nv I2 g,rP hu I2 g ry fun w' s3 I3 rw'=>⟨v,H2,I3,rw',q2⟩⟩
theorem y0(hu:X.A.units+1<cLine)(ho:PE X o td)(hi:PE X i ty)(hv:PE X value tv)(hs:swapsWith value (some (.Subscript o i pos')) pos.line X.env=pure false) :
  PS X (.Assign [.Subscript o i pos'] value pos) (DY td ty tv):=by
 intro pins s σ H D I h
 refine wpAny_Assign_Subscript (bC (hv pins s σ H _ I h) fun r s1 ⟨v,H1,I1,rv,q1⟩=>bC (ho pins s1 σ H1 _ I1 q1) fun u s2 ⟨x,H2,I2,rx,q2⟩=>bC (hi pins s2 σ H2 _ I2 q2) fun iv s3 ⟨y,H3,I3,ry,a,ex,g⟩=> ?_) hs
 subst ex
 obtain rfl:u=Value.ref a:=rx
 exact rQ hu I3 g ry rv fun H4 s4 I4 q3=>⟨σ,H4,I4,q3⟩
end
theorem nw{P:Program}{w:World}{H:Hp}(h:Heap)(hb:sysModules<h.objs.size):bJ P w H (h.push { cls:= .type "dict",data:= .dict #[] }) h.objs.size (.dK [] 0) :=
 ⟨Nat.zero_le _,beq_eq_false_iff_ne.mpr (Ne.symm (Nat.ne_of_lt hb)),[],.nil,by
  obtain⟨o,es,ep,ho,hx,hd,r⟩:=(Heap.DictOf.new h:(h.push { cls:= .type "dict",data:= .dict #[] }).DictOf (bu P w) h.objs.size [])
  have e:=Heap.get?_push_size h (o:={ cls:= .type "dict",data:= .dict #[] }) rfl
  rw[ho]at e
  cases e
  cases hd
  exact⟨_,_,ho,hx,rfl,r⟩⟩
def AL:TE:=fun _ H Q=>∀p,H p=none->Q (.ref p) (upd H p (.dK [] 0))
noncomputable section
variable{X:Cx}{pos:Pos}
theorem uA:PE X (.Dict [] [] pos) AL:=fun pins s σ H Q I h =>
 wpAny_Dict_empty ⟨.ref s.heap.objs.size,_,I.laid (a:=s.heap.objs.size) (o:= .dK [] 0) (t':=s.toks) (fun _ _ q=>Heap.get?_push_of_some _ q) .(Ao) (nw s.heap I.big),rfl,h _ (I.hok.fresh .(Ao))⟩
end
def oX:List (TE×TE)->St->Hp->(List (V×V)->Hp->Prop)->Prop
 |[],_,H,Q=>Q [] H
 | (tk,tv)::r, σ,H,Q=>tk σ H fun x H1=>tv σ H1 fun y H2=>oX r σ H2 fun ps H3=>Q ((x,y)::ps) H3
abbrev VV:List (V×V)->List (Value×Value)->Prop:=Paired fun p q=>aR p.1 q.1/\aR p.2 q.2
def Ga(X:Cx)(pos:Pos)(keys:List (Option Expr))(values:List Expr)(trs:List (TE×TE)):Prop :=
 ∀(pins:List (Addr×Obj)) (s:Shared) (σ :St) (H:Hp) (Q:List (V×V)->Hp->Prop),aA X pins σ H s->oX trs σ H Q ->
  wpAny .(E) X.A (evalPairs (pairTrees keys values X.env pos)) (fun vs s'=>∃ps H',aA X pins σ H' s'/\VV ps vs/\Q ps H') X.xe s
theorem y1{X:Cx}{pos:Pos}:Ga X pos [] [] []:=fun pins s σ H Q I h=>pairTrees_nil_walk ⟨[],H,I,.nil,h⟩
theorem uB{X:Cx}{pos:Pos}{k v:Expr}{ks:List (Option Expr)}{vs:List Expr}{tk tv:TE}{trs:List (TE×TE)}(hk:PE X k tk)(hv:PE X v tv)(hr:Ga X pos ks vs trs) :
  Ga X pos (some k::ks) (v::vs) ((tk,tv)::trs):=fun pins s σ H Q I h =>
 pairTrees_cons_walk (bC (hk pins s σ H _ I h) fun u s1 ⟨x,H1,I1,rx,q1⟩=>bC (hv pins s1 σ H1 _ I1 q1) fun w2 s2 ⟨y,H2,I2,ry,q2⟩ =>
  bC (hr pins s2 σ H2 _ I2 q2) fun ws s3 ⟨ps,H3,I3,rel,q3⟩=>⟨(x,y)::ps,H3,I3,.cons ⟨rx,ry⟩ rel,q3⟩)
def jH(kvs more:List (Key×V)):List (Key×V):=more.foldl (fun acc kv=>eR acc kv.1 kv.2) kvs
theorem KV.merge:∀{more:List (Key×V)} {rs:List (Key×Value)} {kvs:List (Key×V)} {vs:List (Key×Value)},KV more rs->KV kvs vs->KV (jH kvs more) (merged vs rs):=by
 intro more rs kvs vs r
 unfold KV at r
 induction r generalizing kvs vs with
 |nil=>intro q;exact q
 | @cons p q ps qs h t ih =>
  intro r0
  have e:KV (eR kvs p.1 p.2) (stored vs q.1 q.2):=by
   have:=r0.put p.1 h.2
   rw[<-h.1];exact this
  exact ih e
theorem gB:∀(more kvs:List (Key×V)),(jH kvs more).length<=kvs.length+more.length
 |[],kvs=>by show kvs.length<=kvs.length+0;omega
 |p::r,kvs=>by
  have h1:=gB r (eR kvs p.1 p.2)
  have h2:=fZ kvs p.1 p.2
  show(jH (eR kvs p.1 p.2) r).length<=_
  rw[List.length_cons];omega
theorem jI{P:Program}{w:World}:∀{kvs:List (Key×V)} {ws:List (Value×Value)},VV (kvs.map fun kv=>(kV kv.1,kv.2)) ws->∃rs,Carries (bu P w) ws rs/\KV kvs rs
 |[],_,r=>by rw[List.map_nil]at r;cases r;exact⟨[],True.intro,.nil⟩
 |p::kvs,_,r=>by
  rw[List.map_cons]at r
  cases r with
  | @cons a b as bs h t =>
   obtain⟨rs,c,q⟩:=jI (P:=P) (w:=w) t
   obtain⟨b1,b2⟩:=b
   exact⟨(p.1,b2)::rs,⟨nr h.1,rfl,c⟩,.cons ⟨rfl,h.2⟩ q⟩
def DZ(trs:List (TE×TE)):TE:=fun σ H Q=>∀p,H p=none->oX trs σ (upd H p (.dK [] 0)) fun ps H2=>H2 p=some (.dK [] 0)/\ ∃kvs:List (Key×V),ps=kvs.map (fun kv=>(kV kv.1,kv.2))/\kvs.length<=15/\ ∀ep,Q (.ref p) (upd H2 p (.dK (jH [] kvs) ep))
theorem y2{X:Cx}{pos:Pos}{keys:List (Option Expr)}{values:List Expr}{trs:List (TE×TE)}(h:Ga X pos keys values trs)(hall:keys.all (·.isSome)=true)(hl:keys.length=values.length)(h0:keys≠[])
  (h15:keys.length<=15):PE X (.Dict keys values pos) (DZ trs):=by
 intro pins s σ H Q I q
 have hn:=I.hok.fresh (Nat.le_refl s.heap.objs.size)
 have I1:=I.laid (a:=s.heap.objs.size) (o:= .dK [] 0) (h':=s.heap.push { cls:= .type "dict",data:= .dict #[] }) (t':=s.toks) (fun _ _ q=>Heap.get?_push_of_some _ q) .(Ao) (nw s.heap I.big)
 refine wpAny_Dict_walk (knd:=bu X.prog X.w) hall hl h0 h15 (bC (h pins _ σ _ _ I1 (q _ hn)) fun ws s2 ⟨ps,H2,I2,rel,e,kvs,ep,lk,q2⟩=> ?_)
 subst ep
 obtain⟨rs,c,rk⟩:=jI (P:=X.prog) (w:=X.w) rel
 obtain⟨z,hd,vs0,r0,dd⟩:=zo I2.hok e
 cases r0
 refine⟨rs,c,dd,fun h' dd' hs=> ?_⟩
 have hz:(jH [] kvs).length<=sizeLine:=by
  have h1:=gB kvs []
  rw[List.length_nil]at h1
  rw[sizeLine_eq];omega
 have he:∃q,h'.get? s.heap.objs.size=some q:=let ⟨q,_,_,hq,_⟩:=dd';⟨q,hq⟩
 obtain⟨ep1,ok⟩:=uz hz hd (rk.merge .nil) dd'
 exact⟨.ref s.heap.objs.size,_,lS I2 (by rw[e];exact True.intro) hs he (ok _),rfl,q2 ep1⟩
structure M2(X:Cx)(o:Expr)(m:Str)(apos:Pos)(e f:Expr)(cpos:Pos):Prop where
 base:attributeBase o m X.env (eval o X.env)=eval o X.env
 few:((backTo cpos (starEach [e,f] X.env)).all (fun x=> !x.1) && (backToKw cpos (keywordEach [] X.env)).all (fun x=>x.1.isSome)
  && decide (([e,f]:List Expr).length+([]:List Keyword).length+(if ([]:List Keyword).isEmpty then 0 else 1)<30))=true
 line:(apos.endLine == cpos.line)=true
 trees:backTo cpos (starEach [e,f] X.env)=[.(S),(false,eval f X.env)]
def JR(H:Hp)(a:Addr):Prop:=(∃kvs ep,Rd H a (.dK kvs ep))\/ ∃kvs ep,Rd H a (.dT kvs ep)
theorem uC{X:Cx}{pins:List (Addr×Obj)}{σ :St}{H:Hp}{s:Shared}{a:Addr}(I:aA X pins σ H s)(d:JR H a) :
  s.TypeIs (.ref a) "dict"/\(∀b,Value.ref a= .ref b->∃ob,s.heap.get? b=some ob/\ob.dict=none)/\(a == sysModules)=false:=by
 rcases d with⟨kvs,_,e⟩|⟨kvs,_,e⟩
 ·obtain⟨_,hd,vs,_,dd⟩:=nt I.hok e
  refine⟨dd.typeIs,fun b q=> ?_,hd⟩
  cases q
  obtain⟨ob,_,_,h1,h2,_⟩:=dd
  exact⟨ob,h1,h2.2.1⟩
 ·obtain⟨_,hd,xs,_,dd⟩:=nu I.hok e
  refine⟨dd.typeIs,fun b q=> ?_,hd⟩
  cases q
  obtain⟨ob,_,_,h1,h2,_⟩:=dd
  exact⟨ob,h1,h2.2.1⟩
noncomputable section
variable{X:Cx}{pins:List (Addr×Obj)}{σ :St}{H:Hp}{s:Shared}{a:Addr}{y d:V}{u r:Value}{o:Option V}{A:Around}{E:Value->Shared->Prop}
theorem AM{Q:Value->Shared->Prop}(hu:A.units+1<cLine)(I:aA X pins σ H s)(g:lR H a y o)(ry:aR y u)(rd:aR d r)(h:∀w' s',aA X pins σ H s'->aR (o.getD d) w'->Q w' s') :
  wpAny .(E) A (call (.builtin "dict.get") [.ref a,u,r]) Q E s:=by
 rcases g with⟨kvs,k,_,e,ey,l⟩|⟨kvs,k,b,_,e,ey,eb,l⟩
 ·subst ey
  obtain⟨z,hd,vs,rel,dd⟩:=nt I.hok e
  refine call_meetsIn PySem.F.slot_dict_get dd.typeIs PySem.F.entry_dict_get (PySem.F.args_dict_get_3 _ _ _) (meets_dict_get_default (bu X.prog X.w) a (nr ry) hd r) ⟨_,dd.mapOf,h _ _ (I.tok _) ?_⟩
  rw[l]
  exact(rel.val k).getD rd
 ·subst ey
  cases (show u=Value.ref b from ry)
  obtain⟨z,hd,xs,rel,dd⟩:=nu I.hok e
  refine call_meetsIn PySem.F.slot_dict_get dd.typeIs PySem.F.entry_dict_get (PySem.F.args_dict_get_3 _ _ _) (meetsH_dict_get_default (tupleKind (bu X.prog X.w)) a b hd r) ⟨tupleKind_room_in1 hu,k,xs,lQ I.hok eb,dd,h _ _ (I.tok _) ?_⟩
  rw[l]
  exact(rel.val k).getD rd
end
def AN(td ty tx:TE):TE:=fun σ H Q=>td σ H fun x H1=>∃a,x= .ref a/\JR H1 a/\ty σ H1 fun y H2=>tx σ H2 fun z H3=>∃o,lR H3 a y o/\Q (o.getD z) H3
noncomputable section
variable{X:Cx}{o e f:Expr}{apos cpos:Pos}{td ty tx:TE}
theorem uD(hu:X.A.units+1<cLine)(ho:PE X o td)(he:PE X e ty)(hf:PE X f tx)(m:M2 X o "get" apos e f cpos):PE X (.Call (.Attribute o "get" apos) [e,f] [] cpos) (AN td ty tx):=by
 intro pins s σ H Q I h
 refine wpAny_Call_method m.base m.few m.line PySem.F.plainAttrs_dict PySem.F.slot_dict_get PySem.F.type_dict_get (bC (ho pins s σ H _ I h) fun u s1 ⟨x,H1,I1,rx,a,ex,d,q1⟩=> ?_)
 subst ex
 obtain rfl:u=Value.ref a:=rx
 obtain⟨t1,t2,_⟩:=uC I1 d
 refine⟨t1,t2,?_⟩
 rw[m.trees]
 refine Calls.callWith_builtin rfl (Calls.evalArgs_plain (Calls.spliced_cons (bC (he pins s1 σ H1 _ I1 q1) fun iv s2 ⟨y,H2,I2,ry,q2⟩ =>
  Calls.spliced_cons (bC (hf pins s2 σ H2 _ I2 q2) fun fv s3 ⟨z,H3,I3,rz,ov,g,q3⟩=>Calls.spliced_nil ?_))))
 exact AM hu I3 g ry rz fun w' s4 I4 rw'=>⟨_,H3,I4,rw',q3⟩
end
noncomputable section
variable{X:Cx}{pins:List (Addr×Obj)}{σ :St}{H:Hp}{s:Shared}{a:Addr}{kvs:List (Key×V)}{A:Around}{E:Value->Shared->Prop}
end
noncomputable section
variable{X:Cx}{pins:List (Addr×Obj)}{σ :St}{H:Hp}{s:Shared}{a:Addr}{y:V}{u:Value}{A:Around}{E:Value->Shared->Prop}
end
end L2
namespace L2
open PySem PySem.Spec PyProof.Rows
noncomputable section
variable{X:Cx}
end
noncomputable section
variable{κ :Type}[DecidableEq κ]
end
end L2
end
noncomputable section
namespace L2
open PySem PySem.Spec PyProof.Rows
structure lT(P:Program)(w:World)(K:Fg)(mg:Str->Option Value)(base:Bs)(CX:jG)(k:Nat)(C:Addr)(m:Str)(sp:Sp):Prop where
 cl:kN K C
 ex:∃(f:Addr) (fd:FuncData) (ps:List Str),cX K C m f/\cY P w K mg base CX k f fd ps sp/\bw K fd ps []
noncomputable section
variable{X:Cx}{CX:jG}{k:Nat}{E:XK}{m:Str}{pos apos:Pos}{e o:Expr}{es:List Expr}{ta:TE}{t:TA}
def oY{ι :Type}(R: ι ->Addr)(m:Str)(sp: ι ->Sp)(E:XK)(ta:TE)(t:TA):TE:=fun σ H Q=>ta σ H fun x H1=>∃i a dx fs,x= .ref a/\H1 a=some (.ins (R i) dx fs)/\fs.lookup m=none /\
 t σ H1 fun vs H2=>sp i (x::vs) H2 Q E
theorem uE{ι :Type}{R: ι ->Addr}{sp: ι ->Sp}{pl:Sem Bool}(he:PE X o ta)(hR:∀i,lT X.prog X.w X.K X.mg X.base CX k (R i) m (sp i))(hr:bv k X.A)(hx:eQ CX X E)(ha:PA X (e::es) t)
  (hst:starEach (e::es) X.env=.(S)::starEach es X.env:=by rfl) (hpl:.(V).any (·.1)=false:=by rfl)
  (ht:eval (.Call (.Attribute o m apos) (e::es) [] pos) X.env=(do
   let ov <- eval o X.env
   standAt apos.atName
   let (f,first) <- holding [ov] (getMethod ov m pl)
   callWith pos f first (backTo pos (starEach (e::es) X.env)) (backToKw pos (keywordEach [] X.env))):=by rfl) :
  PE X (.Call (.Attribute o m apos) (e::es) [] pos) (oY R m sp E ta t):=by
 intro pins s σ H Q I h
 refine PySem.W.methodCall_KW (pl:=pl) (bC (he pins s σ H _ I h) fun u s1 ⟨x,H1,I1,rx,i,a,dx,fs,ex,ea,l,q⟩=> ?_) ht
 subst ex
 obtain rfl:u=Value.ref a:=rx
 obtain⟨c,f,fd,ps,hm,F,hb⟩:=hR i
 refine jF I1 ea c hm l ?_
 refine PySem.W.callWith_K (first:=[.ref a]) (h₀:=X.base) I.ok.mod.kin hm.kp (bC (ha pos pins s1 σ H1 _ I1 q) fun us s2 ⟨vs,H2,I2,r,q2⟩=>⟨I2.kIn,?_⟩) hst hpl
 exact oS (us:= .ref a::us) (vs:= .ref a::vs) (dvs:=[]) (ds:=[]) F hr hb .nil hx I2 (.cons rfl r) (by rw[List.append_nil];exact q2)
theorem rR{ι :Type}{R: ι ->Addr}{sp: ι ->Sp}{pl:Sem Bool}(he:PE X o ta)(hR:∀i,lT X.prog X.w X.K X.mg X.base CX k (R i) m (sp i))(hr:bv k X.A)(hx:eQ CX X E)
  (ht:eval (.Call (.Attribute o m apos) [] [] pos) X.env=(do
   let ov <- eval o X.env
   standAt apos.atName
   let (f,first) <- holding [ov] (getMethod ov m pl)
   callWith pos f first (backTo pos (starEach [] X.env)) (backToKw pos (keywordEach [] X.env))):=by rfl) :
  PE X (.Call (.Attribute o m apos) [] [] pos) (oY R m sp E ta DD):=by
 intro pins s σ H Q I h
 refine PySem.W.methodCall_KW (pl:=pl) (bC (he pins s σ H _ I h) fun u s1 ⟨x,H1,I1,rx,i,a,dx,fs,ex,ea,l,q⟩=> ?_) ht
 subst ex
 obtain rfl:u=Value.ref a:=rx
 obtain⟨c,f,fd,ps,hm,F,hb⟩:=hR i
 refine jF I1 ea c hm l ?_
 exact PySem.W.callWith_K0 (first:=[.ref a]) I1.kIn hm.kp (oS (us:=[.ref a]) (vs:=[.ref a]) (dvs:=[]) (ds:=[]) F hr hb .nil hx I1 (.cons rfl .nil) (by rw[List.append_nil];exact q))
end
noncomputable section
variable{X:Cx}
theorem y3{x:Str}{n:String}{pos:Pos}(hg:Gl X x)(hm:X.mg x=none)(hv:bootBuiltins x=some (.type n))(hn:x ≠ "__name__":=by decide)(hd:(x == .(L))=false:=by decide):PE X (.Name x pos) (tC (.ty n)) :=
 xz hg hm hv rfl hn hd
end
structure AO(K:Fg)(C:Addr):Prop where
 makes:PySem.W.makesIn K C=true
 init:PySem.W.findIn K (.ref C) "__init__"=some (some (.builtin "object.__init__"))
 kp:PySem.W.keepIn K (.ref C)=true
noncomputable section
variable{X:Cx}{C:Addr}{x:Str}{p pos:Pos}
def AQ(C:Addr):TE:=fun _ H Q=>∀x dx,H x=none->H dx=none->dx≠x->Q (.ref x) (upd (upd H dx (.own x)) x (.ins C dx []))
theorem rS{pins:List (Addr×Obj)}{σ :St}{H:Hp}{s:Shared}{Q:VK}(M:AO X.K C)(I:aA X pins σ H s)
  (h:∀x dx,H x=none->H dx=none->dx≠x->Q (.ref x) (upd (upd H dx (.own x)) x (.ins C dx []))) :
  wpAny .(E) X.A (call (.ref C) []) (EP X pins σ Q) X.xe s:=by
 have hq:=h .(U) s.heap.objs.size (I.hok.fresh (Nat.le_succ _)) (I.hok.fresh .(Ao)) (Nat.ne_of_lt (Nat.lt_succ_self _))
 have I2:=aA.made (C:=C) I
 have Y:=PySem.W.makes_of (M:=model X.prog X.w) I.kIn M.makes
 refine wpAny_call (rF I.kIn M.makes M.init (fun self=>PySem.W.Looks.of_pure (PySem.W.oi_bind self)) ?_)
 have e2:((s.heap.push PySem.W.emptyDict).push (PySem.W.instObj C s.heap.objs.size)).get? .(U)=some (PySem.W.instObj C s.heap.objs.size):=by
  have:=Heap.get?_push_size (s.heap.push PySem.W.emptyDict) (o:=PySem.W.instObj C s.heap.objs.size) rfl
  rwa [Heap.size_push]at this
 have t1:PySem.W.Looks .(E) ((s.heap.push PySem.W.emptyDict).push (PySem.W.instObj C s.heap.objs.size)) (typeOf (.ref .(U))) (.ref C):=(PySem.W.Looks.ld e2).andThen .now
 have t2:PySem.W.Looks .(E) ((s.heap.push PySem.W.emptyDict).push (PySem.W.instObj C s.heap.objs.size)) (isInstance (.ref .(U)) (.type "object")) true:=t1.andThen (Y.top.keeps fun b o e=>Heap.get?_push_of_some _ (Heap.get?_push_of_some _ e))
 refine codeAny_call_builtin PySem.W.oi_plain PySem.W.entry_oi (@PySem.W.check_slot .(E) _ _ _ "object.__init__" "object" "__init__" (.ref .(U)) [] [] _ PySem.W.oi_kind PySem.W.oi_split t2 (PySem.W.oi_args (.ref .(U))) ?_)
 rw[PySem.W.oi_run]
 exact wpAny_pure (And.intro rfl ⟨V.ref .(U),_,I2,rfl,hq⟩)
theorem rV(M:AO X.K C)(hg:Gl X x)(hm:X.mg x=some (.ref C))(hdb:(x == .(L))=false:=by decide):PE X (.Call (.Name x p) [] [] pos) (AQ C):=by
 intro pins s σ H Q I h
 refine wpAny_Call_Name_kw (gW I hg hm ?_ hdb)
 exact PySem.W.callWith_K0 I.kIn M.kp (rS M I h)
end
noncomputable def clos(env:Env):List (Str×NameKind)->List (Str×Addr)->List (Str×Addr)
 |[],cs=>cs
 | (n,k)::r,cs=>clos env r (if k == .free then(match env.cells.lookup n with|some a=>(n,a)::cs|none=>cs) else cs)
theorem q8(env:Env):∀(ns:List (Str×NameKind)) (cs:List (Str×Addr)),(∀y∈ns,y.2= .free->∃c,env.cells.lookup y.1=some c) ->
  (forIn ns cs fun(x:Str×NameKind) (r:List (Str×Addr))=>(if (x.2 == .free)=true then do let a <- cellOf env x.1;pure (ForInStep.yield ((x.1,a)::r)) else pure (ForInStep.yield r):Sem (ForInStep (List (Str×Addr)))))=pure (clos env ns cs)
 |[],cs,_=>rfl
 | (n,k)::r,cs,h=>by
  have ih:=q8 env r
  rw[List.forIn_cons]
  by_cases hk:k= .free
  ·subst hk
   obtain⟨c,e⟩:=h (n,.free) List.mem_cons_self rfl
   have e':env.cells.lookup n=some c:=e
   simp only[beq_self_eq_true,if_true,cellOf,e',pure_bind,clos]
   exact ih _ fun y hy=>h y (List.mem_cons_of_mem _ hy)
  ·have hb:(k == NameKind.free)=false:=by simpa using hk
   simp only[hb,Bool.false_eq_true,if_false,pure_bind,clos]
   exact ih _ fun y hy=>h y (List.mem_cons_of_mem _ hy)
theorem eS{scope:Scope}{env:Env}(h:∀y∈scope.names,y.2= .free->∃c,env.cells.lookup y.1=some c):closureFor scope env=pure (clos env scope.names []):=by
 have q:=q8 env scope.names [] h
 simp only[closureFor]
 first
  | (rw[q];rfl)
  | (refine Eq.trans (congrArg (fun z=>z >>= fun cs=>pure cs) q) ?_;rfl)
theorem i7{env:Env}{x:Str}{c:Addr}:∀{ns:List (Str×NameKind)} {cs:List (Str×Addr)},(clos env ns cs).lookup x=some c->cs.lookup x=some c\/env.cells.lookup x=some c
 |[],cs,h=> .inl h
 | (n,k)::r,cs,h=>by
  have ih:=i7 (ns:=r) h
  rcases ih with ih|ih
  ·by_cases hk:(k == NameKind.free)=true
   ·rw[if_pos hk]at ih
    cases e:env.cells.lookup n with
    |none=>rw[e]at ih;exact .inl ih
    |some a =>
     rw[e]at ih
     by_cases hx:x == n
     ·have hx':x=n:=by simpa using hx
      subst hx'
      simp at ih
      subst ih
      exact .inr e
     ·simp only[List.lookup_cons,hx]at ih
      exact .inl ih
   ·rw[if_neg hk]at ih
    exact .inl ih
  ·exact .inr ih
theorem jJ{env:Env}{x:Str}{c:Addr}(hc:env.cells.lookup x=some c):∀{ns:List (Str×NameKind)} {cs:List (Str×Addr)},cs.lookup x=some c->(clos env ns cs).lookup x=some c
 |[],cs,h=>h
 | (n,k)::r,cs,h=>by
  refine jJ hc (ns:=r) ?_
  by_cases hk:(k == NameKind.free)=true
  ·rw[if_pos hk]
   cases e:env.cells.lookup n with
   |none=>exact h
   |some a =>
    by_cases hx:x == n
    ·have hx':x=n:=by simpa using hx
     subst hx'
     rw[hc]at e
     cases e
     simp
    ·simp only[List.lookup_cons,hx]
     exact h
  ·rw[if_neg hk]
   exact h
theorem i8{env:Env}{x:Str}{c:Addr}(hc:env.cells.lookup x=some c):∀{ns:List (Str×NameKind)} {cs:List (Str×Addr)},(x,NameKind.free)∈ns->(clos env ns cs).lookup x=some c
 |[],cs,h=>by simp at h
 | (n,k)::r,cs,h=>by
  rcases List.mem_cons.mp h with h|h
  ·cases h
   refine jJ hc (ns:=r) ?_
   simp[hc]
  ·exact i8 hc (ns:=r) h
theorem fD{scope:Scope}{env:Env}{x:Str}:∀{ns:List (Str×NameKind)} {k:NameKind},
  (ns.map fun(n,k)=>if (k == NameKind.free && env.scope.kind == .function && env.kindOf n == some .cell) then(n,NameKind.cell) else(n,k)).lookup x=some k->(k= .cell\/k= .free)->(∀y∈ns,y.2 ≠ .cell)->(x,NameKind.free)∈ns
 |[],_,h,_,_=>by simp at h
 | (n,j)::r,k,h,hk,nc=>by
  by_cases hx:x == n
  ·have hx':x=n:=by simpa using hx
   subst hx'
   have hj:j ≠ .cell:=nc _ List.mem_cons_self
   by_cases hc:(j == NameKind.free && env.scope.kind == .function && env.kindOf x == some .cell)=true
   ·have:j= .free:=by
     have:=(Bool.and_eq_true_iff.mp (Bool.and_eq_true_iff.mp hc).1).1
     simpa using this
    subst this
    exact List.mem_cons_self
   ·simp only[List.map_cons,hc,if_neg,Bool.false_eq_true,not_false_eq_true,List.lookup_cons,beq_self_eq_true]at h
    have:j=k:=by simpa using h
    subst this
    rcases hk with hk|hk
    ·exact absurd hk hj
    ·subst hk;exact List.mem_cons_self
  ·refine List.mem_cons_of_mem _ (fD (scope:=scope) (env:=env) (ns:=r) (k:=k) ?_ hk fun y hy=>nc y (List.mem_cons_of_mem _ hy))
   simp only[List.map_cons]at h
   by_cases hc:(j == NameKind.free && env.scope.kind == .function && env.kindOf n == some .cell)=true
   ·rw[if_pos hc]at h
    simpa only[List.lookup_cons,hx]using h
   ·rw[if_neg hc]at h
    simpa only[List.lookup_cons,hx]using h
theorem i9{env:Env}{x:Str}:∀{ns:List (Str×NameKind)},ns.lookup x=some .free ->
  (ns.map fun(n,k)=>if (k == NameKind.free && env.scope.kind == .function && env.kindOf n == some .cell) then(n,NameKind.cell) else(n,k)).lookup x=some .cell \/
  (ns.map fun(n,k)=>if (k == NameKind.free && env.scope.kind == .function && env.kindOf n == some .cell) then(n,NameKind.cell) else(n,k)).lookup x=some .free
 |[],h=>by simp at h
 | (n,j)::r,h=>by
  by_cases hx:x == n
  ·have hx':x=n:=by simpa using hx
   subst hx'
   have:j= .free:=by simpa using h
   subst this
   by_cases hc:(NameKind.free == NameKind.free && env.scope.kind == .function && env.kindOf x == some .cell)=true
   ·left;simp only[List.map_cons];rw[if_pos hc];simp
   ·right;simp only[List.map_cons];rw[if_neg hc];simp
  ·have h':r.lookup x=some .free:=by simpa only[List.lookup_cons,hx]using h
   have ih:=i9 (env:=env) (ns:=r) h'
   simp only[List.map_cons]
   by_cases hc:(j == NameKind.free && env.scope.kind == .function && env.kindOf n == some .cell)=true
   ·rw[if_pos hc];simpa only[List.lookup_cons,hx]using ih
   ·rw[if_neg hc];simpa only[List.lookup_cons,hx]using ih
end L2
end
noncomputable section
namespace L2
open PySem PySem.Spec PyProof.Rows
abbrev gC(X:Cx)(scope:Scope)(C:Addr)(N':List Str)(s₀:Shared)(H₀:Hp)(fp:List Addr):Cx :=
 { X with N:=N',s₀:=s₀,H₀:=H₀,env:=compEnvC scope (clos X.env scope.names []) C X.env,outer:=X.stack,stack:=X.stack,ex:=fp,fn:=fun _=>false,cw:=fun _=>false,pn:=[],xe:=fun _ _=>False }
def jK(X:Cx)(scope:Scope):List (Str×Nat)->Prop
 |[]=>True
 |p::r=>(scope.names.lookup p.1=some .free/\X.N[p.2]? =some p.1/\(X.env.scope.names.lookup p.1=some .cell\/X.env.scope.names.lookup p.1=some .free))/\jK X scope r
theorem jK.mem{X:Cx}{scope:Scope}:∀{l:List (Str×Nat)},jK X scope l->∀p∈l,scope.names.lookup p.1=some .free/\X.N[p.2]? =some p.1/\(X.env.scope.names.lookup p.1=some .cell\/X.env.scope.names.lookup p.1=some .free)
 |[],_,p,h=>by simp at h
 |q::r,h,p,hp=>by
  rcases List.mem_cons.mp hp with e|e
  ·rw[e];exact h.1
  ·exact jK.mem h.2 p e
def lU(X:Cx)(names:List (Str×NameKind)):Prop:=(names.all fun y=>y.2 != .free || X.env.scope.names.lookup y.1 == some .cell || X.env.scope.names.lookup y.1 == some .free)=true
theorem lU.mem{X:Cx}{l:List (Str×NameKind)}(h:lU X l):∀y∈l,y.2= .free->(X.env.scope.names.lookup y.1=some .cell\/X.env.scope.names.lookup y.1=some .free):=fun y hy e=>by
 have q:=List.all_eq_true.mp h y hy
 rw[e]at q
 have q':((X.env.scope.names.lookup y.1 == some .cell) || (X.env.scope.names.lookup y.1 == some .free))=true:=q
 rcases Bool.or_eq_true_iff.mp q' with z|z
 ·exact .inl (eq_of_beq z)
 ·exact .inr (eq_of_beq z)
structure dX(X:Cx)(scope:Scope)(own:List Str)(caps:List (Str×Nat)):Prop where
 kind:scope.kind= .function
 nocell:∀y∈scope.names,y.2 ≠ .cell
 names:∀y∈scope.names,y.2= .local->scope.names.lookup y.1=some .local
 caps:jK X scope caps
 frees:lU X scope.names
abbrev cH(own:List Str)(caps:List (Str×Nat)):List Str:=own++caps.map (·.1)
abbrev lV(own:List Str)(caps:List (Str×Nat))(σ :St):St:=List.replicate own.length none++caps.map fun p=>(σ[p.2]?).getD none
theorem ia{prog:Program}{w:World}{A:Around}{R:Result->Shared->Prop}{s:Shared}{elt target iter:Expr}{ifs:List Expr}{scope:Scope}{pos:Pos}{it acc:Value}{env:Env}(I:Nat->Shared->Prop)
  (turn:∀n s,I n s->wpAny .(An) A (pyNext it) (fun r s₁=>match r with
   |none=>R (.ok .next) s₁
   |some v=>wpAny .(An) A (letOwnedTupleGo target it v) (fun _ s₁'=>wpAny .(An) A (assign target env v) (fun _ s₂ =>
     wpAny .(An) A (forIn ifs true fun c r=>if r=true then do let ok <- isTrue c env (eval c env);pure (ForInStep.yield ok) else pure (ForInStep.yield r)) (fun ok s₃ =>
      if ok=true then wpAny .(An) A (eval elt env) (fun x s₄ =>
       wpAny .(An) A (call (.builtin "list.append") [acc,x]) (fun _ s₅ =>∃m,m<n/\I m s₅) (fun _ _=>False) s₄) (fun _ _=>False) s₃
      else ∃m,m<n/\I m s₃) (fun _ _=>False) s₂) (fun _ _=>False) s₁') (fun _ _=>False) s₁) (fun _ _=>False) s)
  (n:Nat) (h:I n s) :
  codeAny .(An) A (.compLoop (.ListComp elt [⟨target,iter,ifs,0⟩] scope pos) 0 it acc env) R s:=by
 refine codeAny_loop rfl I (fun n s hI=> ?_) n h
 show wpAny _ A ((compTurn (.ListComp elt [⟨target,iter,ifs,0⟩] scope pos) 0 it acc env).onRaise (fun x=>do noteFrame x env;theTreesLotGoes x)) _ _ s
 refine wpAny_noted ?_
 rw[compTurn_list]
 refine wpAny_bind (wpAny_standAt (wpAny_bind (wpAny_mono (turn n s hI) (fun r s₁ h₁=> ?_) fun _ _ h'=>h'.elim)))
 cases r with
 |none=>exact wpAny_pure h₁
 |some v =>
  refine wpAny_bind (wpAny_mono h₁ (fun _ s₁' h₁'=> ?_) fun _ _ h'=>h'.elim)
  refine wpAny_bind (wpAny_mono h₁' (fun _ s₂ h₂=>wpAny_bind (wpAny_mono h₂ (fun ok s₃ h₃ => ?_) fun _ _ h'=>h'.elim)) fun _ _ h'=>h'.elim)
  cases ok with
  |false=>exact wpAny_pure ⟨rfl,h₃⟩
  |true =>
   exact wpAny_bind (wpAny_bind (wpAny_mono h₃ (fun x s₄ h₄ =>wpAny_bind (wpAny_mono h₄ (fun _ s₅ h₅ =>wpAny_pure (wpAny_pure ⟨rfl,h₅⟩)) fun _ _ h'=>h'.elim)) fun _ _ h'=>h'.elim))
noncomputable section
variable{X:Cx}{pins:List (Addr×Obj)}{σ :St}{H:Hp}{s s1:Shared}{scope:Scope}{own:List Str}{caps:List (Str×Nat)}{fp:List Addr}
theorem aA.block{h1:Heap}{tk:Nat}(I:aA X pins σ H s)(S:dX X scope own caps)(hf:∀b∈fp,iH X pins H b)
  (hns:h1.Ns s.heap.objs.size fun _=>none) (hk:∀b o,s.heap.get? b=some o->h1.get? b=some o) (hfl:∀b∈fp,b<s.heap.objs.size) :
  aA (gC X scope s.heap.objs.size (cH own caps) s H fp) [] (lV own caps σ) H { s with heap:=h1,toks:=tk }:=by
 have hfree:∀y∈scope.names,y.2= .free->∃c,X.env.cells.lookup y.1=some c:=fun y hy e=>I.ok.has _ (S.frees.mem y hy e)
 have sub:∀x c,(clos X.env scope.names []).lookup x=some c->X.env.cells.lookup x=some c:=fun x c e=>by
  rcases i7 e with z|z
  ·simp at z
  ·exact z
 have celT:∀{c:Addr} {v:Option Value},s.heap.IsCell c v->h1.IsCell c v:=fun {c v} ⟨o,ho,hd⟩=>⟨o,hk _ _ ho,hd⟩
 refine⟨⟨I.ok.mod,?_,I.ok.glob,I.ok.blt,Nat.le_refl _,fun y z c e1 e2=>I.ok.inj y z c (sub _ _ e1) (sub _ _ e2),fun y hy=> ?_,(fun y c e=>(nomatch e)),I.ok.hd,I.ok.frames,.inl rfl,fun b hb=>⟨Nat.ne_of_lt (hfl b hb),fun x c e=>(hf b hb).2.2.2.2.1 x c (sub x c e)⟩,
   I.bs,Nat.le_trans I.ok.bsz I.sz,fun b o e hb=> ?_,fun b hb z=> ?_,I.stack,I.stkFree,fun P z=>I.base.tbls P 0 (I.ok.tab P z),fun _ z=>z⟩,
  rfl,I.bare,Un.kept hk,⟨_,hns,fun i y v e1 e2 e3=> ?_⟩,fun y c e=> ?_,I.hok.fresh .(Ao),fun y c e=>(I.freeC y c (sub y c e)).imp id fun⟨_,z⟩=>⟨rfl,z⟩,fun p hp=>absurd (show p∈([]:List (Addr×Obj)) from hp) (by simp),I.hok.kept hk,?_⟩
 ·exact S.kind
 ·have hy:(relabel scope X.env).names.lookup y=some .cell\/(relabel scope X.env).names.lookup y=some .free:=hy
  have m:(y,NameKind.free)∈scope.names:=by
   rcases hy with z|z
   ·exact fD (scope:=scope) (env:=X.env) z (.inl rfl) S.nocell
   ·exact fD (scope:=scope) (env:=X.env) z (.inr rfl) S.nocell
  obtain⟨c,e⟩:=hfree _ m rfl
  exact⟨c,i8 e m⟩
 ·rcases(hf b hb).2.2.2.1 with z|z
  ·exact I.ok.noex b o e z
  ·exact absurd (Nat.lt_of_lt_of_le (Heap.lt_size e) (Nat.le_trans I.ok.bsz z)) (Nat.lt_irrefl _)
 ·rcases List.mem_cons.mp (I.stkSub b z)with q|q
  ·exact(hf b hb).2.1 q
  ·exact(hf b hb).2.2.1 q
 ·-- a captured name
  have hi:own.length<=i:=by
   rcases Nat.lt_or_ge i own.length with q|q
   ·rw[List.getElem?_append_left (by simpa using q),List.getElem?_replicate,if_pos q]at e2
    cases e2
   ·exact q
  rw[List.getElem?_append_right hi,List.getElem?_map]at e1
  rw[List.getElem?_append_right (by simpa using hi),List.length_replicate,List.getElem?_map]at e2
  cases ep:caps[i-own.length]? with
  |none=>rw[ep]at e1;cases e1
  |some p =>
   rw[ep]at e1 e2
   have ey:p.1=y:=Option.some.inj e1
   subst ey
   obtain⟨f1,f2,f3⟩:=S.caps.mem p (List.mem_of_getElem? ep)
   have eσ : σ[p.2]? =some (some v):=by
    have e2':(σ[p.2]?).getD none=some v:=Option.some.inj e2
    cases q: σ[p.2]? with
    |none=>rw[q]at e2';cases e2'
    |some o=>rw[q]at e2';exact congrArg some e2'
   obtain⟨m,_,hl⟩:=I.loc
   obtain⟨u,ru,L⟩:=hl p.2 p.1 v f2 eσ (f3.elim (fun z=> .inr (.inl z)) fun z=> .inr (.inr z))
   refine⟨u,ru,.inr ⟨i9 f1,?_⟩⟩
   rcases L with⟨L,_⟩|⟨_,c,e,ic⟩
   ·have L:X.env.scope.names.lookup p.1=some .local:=L
    rcases f3 with z|z <;> (rw[z]at L;cases L)
   ·exact⟨c,i8 e (PySem.mem_of_lookup f1),celT ic⟩
 ·obtain⟨v,z⟩:=I.cell y c (sub y c e)
  exact⟨v,celT z⟩
 ·show(lV own caps σ).length=(cH own caps).length
  simp
def E1(X:Cx)(ifs:List Expr)(t:TT):Prop:=∀(pins:List (Addr×Obj)) (s:Shared) (σ :St) (H:Hp) (Q:Bool->Hp->Prop),aA X pins σ H s->t σ H Q ->
 wpAny .(E) X.A (forIn ifs true fun c r=>if r=true then do let ok <- isTrue c X.env (eval c X.env);pure (ForInStep.yield ok) else pure (ForInStep.yield r)) (TP X pins σ Q) X.xe s
def Hk:TT:=fun _ H Q=>Q true H
theorem y4{X:Cx}:E1 X [] Hk:=fun _ _ _ H _ I h=>wpAny_tests_nil ⟨H,I,h⟩
theorem y6{X:Cx}{c:Expr}{t:TT}(h:PT X c t):E1 X [c] t:=fun pins s σ H Q I hq=>wpAny_tests_one (h pins s σ H Q I hq)
def uF(own:List Str)(caps:List (Str×Nat))(g:TG)(tc:TT)(te:TE)(σ :St)(Q:VK)(J:It)(H1:Hp):Prop:=∀D,H1 D=none->∃W:Nat->Nat->St->Hp->Prop,(∃m,W 0 m (lV own caps σ) (upd H1 D (.lst [])))/\ ∀i m σ' H',W i m σ' H' ->
 (J.stop i H'/\Q (.ref D) H')\/(J.go i H'/\ ∃N:St->Hp->Prop,(∀σ2 H2,N σ2 H2->∃m',m'<m/\W (i+1) m' σ2 H2)/\ ∀x H2,J.yld i H' x H2->g x σ' H2 fun σ3 H3=>tc σ3 H3 fun b H4 =>
  if b=true then te σ3 H4 fun y H5=>∃ys,H5 D=some (.lst ys)/\ys.length<sizeLine/\N σ3 (upd H5 D (.lst (ys++[y]))) else N σ3 H4)
def tComp(own:List Str)(caps:List (Str×Nat))(wi:TI)(g:TG)(tc:TT)(te:TE):TE:=fun σ H Q=>wi σ H (uF own caps g tc te σ Q)
theorem y7{elt tg iter:Expr}{ifs:List Expr}{pos:Pos}{wi:TI}{g:TG}{tc:TT}{te:TE}(S:dX X scope own caps)(hc:X.calm=true)(hi:PI X tg iter wi)
  (hg:∀C s₀ H₀ fp,PG .(O) tg g) (ht:∀C s₀ H₀ fp,E1 .(O) ifs tc) (he:∀C s₀ H₀ fp,PE .(O) elt te)
  (hs:∀x,foldedSetIterable iter X.env x=pure x:=by intro _;rfl):PE X (.ListComp elt [⟨tg,iter,ifs,0⟩] scope pos) (tComp own caps wi g tc te):=by
 intro pins s σ H Q I h
 rw[eval_ListComp]
 have hfree:∀y∈scope.names,y.2= .free->∃c,X.env.cells.lookup y.1=some c:=fun y hy e=>I.ok.has _ (S.frees.mem y hy e)
 refine wpAny_comprehension_free (use:=none) rfl hs (eS hfree) S.kind S.names (bC (hi pins s σ H _ I h) fun v s1 h1=>bC h1 fun itv s2 h2=> ?_)
 obtain⟨it,fp,tn,J,H2,e,I2,T,st2,f2,hW⟩:=h2
 subst e
 -- the new list
 refine wpAny_newList ?_
 have hD:H2 s2.heap.objs.size=none:=I2.fresh
 have I3:=I2.lnew (its:=[]) (ys:=[]) (t':=s2.toks) .nil (Nat.zero_le _)
 have k3:∀b o,s2.heap.get? b=some o->(s2.heap.push { cls:= .type "list",data:= .seq ([]:List Value).toArray }).get? b=some o:=fun b o q=>Heap.get?_push_of_some _ q
 have st3:tn 0 (s2.heap.push { cls:= .type "list",data:= .seq ([]:List Value).toArray }):=T.keep _ _ _ st2 fun b _ o q=>k3 b o q
 have lt2:∀b∈fp,b<s2.heap.objs.size:=fun b hb=>let ⟨o,q,_⟩:=T.obj _ _ st2 b hb;Heap.lt_size q
 have neD:∀b∈fp,b≠s2.heap.objs.size:=fun b hb=>Nat.ne_of_lt (lt2 b hb)
 have f3:∀b∈fp,iH X pins (upd H2 s2.heap.objs.size (.lst [])) b:=fun b hb=>⟨by rw[aw (neD b hb)];exact(f2 b hb).1,(f2 b hb).2⟩
 obtain⟨W,⟨m0,w0⟩,turn⟩:=hW _ hD
 generalize eD:s2.heap.objs.size=D at *
 generalize eH:upd H2 D (.lst [])=H3 at *
 generalize eh:s2.heap.push { cls:= .type "list",data:= .seq ([]:List Value).toArray }=hp3 at *
 have I3':aA X pins σ H3 { s2 with heap:=hp3 }:=I3
 -- the block's frame
 refine wpAny_newFunctionEnv S.nocell (fun y hy=>by simp at hy) (fun h1 hns hsb=> ?_) S.kind
 have kb:∀b o,hp3.get? b=some o->h1.get? b=some o:=fun b o q=>hsb.extBut b o (Nat.ne_of_lt (Heap.lt_size q)) (Heap.get?_push_of_some _ q)
 have lt3:∀b∈fp,b<hp3.objs.size:=fun b hb=>let ⟨o,q,_⟩:=T.obj _ _ st3 b hb;Heap.lt_size q
 have IB:=aA.block (s:={ s2 with heap:=hp3 }) (h1:=h1) (tk:=s2.toks) I3' S f3 hns kb lt3
 have stB:tn 0 h1:=T.keep _ _ _ st3 fun b _ o q=>kb b o q
 have back:∀{σ':St} {H':Hp} {s':Shared} {h':Heap},aA .(H) [] σ' H' s'->Heap.SameBut hp3.objs.size s'.heap h'->aA X pins σ H' { s' with heap:=h' }:=fun {σ' H' s' h'} J hsm=>by
  have nC:∀b o,H' b=some o->b≠hp3.objs.size:=fun b o q z=>by
   have:=J.free
   rw[z]at q
   have q2:H' hp3.objs.size=none:=this
   rw[q]at q2;cases q2
  have hok:gz X.prog X.w H' h':=fun b o q=>(J.hok b o q).stay (fun c v hc z=>hsm.extBut c v (by
   rcases hc with hc|hc
   ·rw[hc];exact nC b o q
   ·exact nC c _ hc) z) (fun _ z=>z) (fun _ _ z=>z) fun _ _ _ z=>z
  have nb:∀b o,hp3.get? b=some o->b≠hp3.objs.size:=fun b o q=>Nat.ne_of_lt (Heap.lt_size q)
  have un:Un (frs X.stack) fp H3 H' hp3 h':=⟨fun b o q n hb hx=>hsm.extBut b o (nb b o q) (J.base.keep b o q n hb hx),fun b o q n hb hx=>by
    obtain⟨sl,z⟩:=J.base.slot b o q n hb hx
    exact⟨sl,hsm.extBut b _ (nb b o q) z⟩,J.base.free,fun b o q hx=>by
    obtain⟨o',z⟩:=J.base.there b o q hx
    exact⟨o',hsm.extBut b _ (nb b o q) z⟩,J.base.tups,J.base.frzs,J.base.tbls⟩
  have os:=J.os
  have bare:=J.bare
  obtain⟨hh,g,d,t,os'⟩:=s'
  obtain rfl:os'=s2.os:=os
  show aA X pins σ H' { ({ s2 with heap:=hp3 }:Shared)with heap:=h',gens:=g,drawn:=d,toks:=t }
  exact I3'.call (h':=h') (g':=g) (d':=d) (t':=t) (ch:=fp) un hok bare fun b hb=>⟨(f3 b hb).2.2.2.1,(f3 b hb).2.1,(f3 b hb).2.2.2.2.1,(f3 b hb).2.2.2.2.2⟩
 have statB:∀{H':Hp},(∀b∈fp,H' b=none)->∀b∈fp,iH .(H) [] H' b:=fun hn b hb =>
  ⟨hn b hb,Nat.ne_of_lt (lt3 b hb),fun z=>(IB.ok.exfs b hb) z,.inl hb,(IB.ok.exf b hb).2,fun p hp=>absurd (show p∈([]:List (Addr×Obj)) from hp) (by simp)⟩
 have loop:∀s₃ :Shared,s₃ ={ s2 with heap:=h1,toks:=s2.toks }->codeAny .(E) X.A (.compLoop (.ListComp elt [⟨tg,iter,ifs,0⟩] scope pos) 0 (.ref it) (.ref D) (compEnvC scope (clos X.env scope.names []) hp3.objs.size X.env))
   (compPost .(E) X.A X.xe none (EP X pins σ Q) (.ref D) hp3.objs.size) s₃ :=by
  rintro s₃ rfl
  refine ia (fun n s'=>∃i σ' H',aA .(H) [] σ' H' s'/\tn i s'.heap/\(∀b∈fp,H' b=none)/\W i n σ' H') ?_ m0 ⟨0,lV own caps σ,H3,IB,stB,fun b hb=>(f3 b hb).1,w0⟩
  rintro n s3 ⟨i, σ3,H4,I4,st4,fr4,w4⟩
  rcases turn i n σ3 H4 w4 with⟨stop,qn⟩|⟨go,N,hN,step⟩
  ·refine bC (T.done .(H) rfl rfl rfl hc i [] s3 σ3 H4 _ I4 (statB fr4) st4 stop) fun r s4 ⟨hr,I5⟩=> ?_
   subst hr
   obtain⟨m,hn,_⟩:=I5.loc
   exact⟨m,hn,fun h' hsm=>⟨.ref D,H4,back I5 hsm,rfl,qn⟩⟩
  ·refine bC (T.item .(H) rfl rfl rfl hc i [] s3 σ3 H4 (fun _ _=>False) I4 (statB fr4) st4 go) fun r s4 ⟨u,hr,h4⟩=> ?_
   subst hr
   refine bC h4 fun _ s5 ⟨x,H5,I5,r5,y5,st5,fr5⟩=> ?_
   have I5':=I5.pinned (statB fr5) (T.obj _ _ st5)
   refine bC (hg hp3.objs.size { s2 with heap:=hp3 } H3 fp _ s5 σ3 H5 x u _ I5' r5 (step x H5 y5)) fun _ s6 ⟨σ6,H6,I6,q6⟩=> ?_
   refine bC (ht hp3.objs.size { s2 with heap:=hp3 } H3 fp _ s6 σ6 H6 _ I6 q6) fun ok s7 ⟨H7,I7,q7⟩=> ?_
   have again:∀{σ7:St} {H7:Hp} {s7:Shared},aA .(H) ([]++iI fp s5.heap) σ7 H7 s7->N σ7 H7->∃m,m<n/\ ∃i σ' H',aA .(H) [] σ' H' s7/\tn i s7.heap/\(∀b∈fp,H' b=none)/\W i m σ' H':=fun {σ7 H7 s7} I7 n7=>by
    obtain⟨m',hm,w7⟩:=hN σ7 H7 n7
    refine⟨m',hm,i+1, σ7,H7,I7.unpinned,T.keep _ _ _ st5 fun b hb o e=>.(Ad).1,fun b hb=> ?_,w7⟩
    obtain⟨o,e,d⟩:=T.obj _ _ st5 b hb
    exact .(Ad).2.1
   cases ok with
   |false =>
    rw[if_neg (by decide)]
    rw[if_neg (by decide)]at q7
    exact again I7 q7
   |true =>
    rw[if_pos rfl]
    rw[if_pos rfl]at q7
    refine bC (he hp3.objs.size { s2 with heap:=hp3 } H3 fp _ s7 σ6 H7 _ I7 q7) fun y s8 ⟨yv,H8,I8,r8,ys,e8,z8,n8⟩=> ?_
    refine bC (iM (X:=gC X scope hp3.objs.size (cH own caps) { s2 with heap:=hp3 } H3 fp) _ s8 σ6 H8 (.ref D) [yv] (.ref D) [y] (fun _ H'=>N σ6 H') I8 rfl (.cons r8 .nil) ⟨D,ys,yv,rfl,rfl,e8,z8,n8⟩) fun _ s9 ⟨v9,H9,I9,_,q9⟩=> ?_
    exact again I9 q9
 exact codeAny_compStart_list (loop _ rfl) (T.self _ 0 _ _ _ stB (loop _ rfl))
end
end L2
end
noncomputable section
namespace L2
open PySem PySem.Spec PyProof.Rows
inductive D where
 |at(v:V)
 |tup (ds:List D)
mutual
noncomputable def D.depth:D->Nat
 |.at _=>0
 |.tup ds=>uG ds+1
noncomputable def uG:List D->Nat
 |[]=>0
 |d::ds=>max d.depth (uG ds)
end
noncomputable section
variable{X:Cx}{pins:List (Addr×Obj)}{σ :St}{H:Hp}{s:Shared}
end
end L2
end
noncomputable section
namespace PySem.SeqAt
open AutoSeq1 (wpAny_loadPart')
open MeetsSeq MeetsSeq2 MeetsSeq3 SeqRoads2
theorem iO{M:Model}{A:Around}{E:Value->Shared->Prop}{s:Shared}{β :Type}{n:Nat}(f:Nat-> β ->Sem (ForInStep β))(I:Nat-> β ->Shared->Prop)(Q: β ->Shared->Prop)
  (turn:∀i b s,i<n->I i b s->wpAny M A (f i b) (fun r s'=>match r with | .yield b'=>I (i+1) b' s' | .done b'=>Q b' s') E s)
  (fin:∀b s,I n b s->Q b s) (b: β) (h:I 0 b s):wpAny M A (forIn ([:n]:Std.Legacy.Range) b f) Q E s:=by
 rw[Std.Legacy.Range.forIn_eq_forIn_range']
 simp only[Std.Legacy.Range.size,Nat.sub_zero,Nat.add_sub_cancel,Nat.div_one]
 refine wpAny_forIn_list f (fun rest b s'=>∃i,rest=List.range' i (n-i)/\i<=n/\I i b s') Q ?_ ?_ _ _ ⟨0,by simp,Nat.zero_le _,h⟩
 ·rintro x rest b s' ⟨i,hr,hi,hI⟩
  have hlt:i<n:=by
   rcases Nat.lt_or_ge i n with q|q
   ·exact q
   ·rw[Nat.sub_eq_zero_of_le q]at hr;simp at hr
  obtain⟨rfl,hrest⟩:x=i/\rest=List.range' (i+1) (n-(i+1)):=by
   rw[show n-i=(n-(i+1))+1 by omega,List.range'_succ]at hr
   injection hr with h1 h2
   exact⟨h1,h2⟩
  refine wpAny_mono (turn x b s' hlt hI) (fun r s2 hr2=> ?_) fun _ _ z=>z
  cases r with
  |done b'=>exact hr2
  |yield b'=>exact⟨x+1,hrest,hlt,hr2⟩
 ·rintro b s' ⟨i,hr,hi,hI⟩
  have:i=n:=by
   rcases Nat.lt_or_ge i n with q|q
   ·rw[show n-i=(n-(i+1))+1 by omega,List.range'_succ]at hr;cases hr
   ·omega
  subst this
  exact fin _ _ hI
theorem tuple_indexAt(l:Addr)(items:Array Value)(n:Nat)(dd:Option Addr)(sl:Array (Option Value))(x:Value)(e:Value->Bool)(j:Nat)(hj:j<items.size)
  (hit:e items[j]=true) (hno:∀m (hm:m<items.size),m<j->e items[m]=false) :
  Meets (Builtin.«tuple.index» ⟨[.ref l,x],[]⟩)
   (fun A R s=>s.heap.get? l=some { cls:= .type "tuple",dict:=dd,data:= .seq items n,slots:=sl }/\(∀y,y∈items->EqAt A.in1 s y x (e y))/\R (.ok (.ret (.int j s.toks))) { s with toks:=s.toks+1 }) :=
 .of_wp fun prog w A R s h=>by
  obtain⟨hp,g,d,tk,os⟩:=s;obtain⟨hl,he,h⟩:=h
  wp_walk using wpAny_loadPart' hl,iO (n:=min items.size items.size) _ (fun i b s'=>b.1=none/\i<=j/\s'=⟨hp,g,d,tk,os⟩) _
  case turn =>
   rintro i b s' hi ⟨hb,hij,rfl⟩
   have hi':i<items.size:=by omega
   rw[Array.getElem?_eq_getElem hi']
   refine wpAny_bind (he _ (Array.getElem_mem hi') prog w _ _ ?_)
   by_cases ij:i=j
   ·subst ij
    rw[hit]
    wp_walk
    exact⟨_,rfl,h⟩
   ·rw[hno i hi' (by omega)]
    wp_walk
    exact⟨rfl,by omega,rfl⟩
  case fin =>
   rintro b s' ⟨hb,hij,rfl⟩
   omega
  case h =>
   exact⟨rfl,Nat.zero_le _,rfl⟩
end PySem.SeqAt
namespace L2
open PySem PySem.Spec PyProof.Rows
noncomputable section
variable{X:Cx}
def y8(K:Fg):V->List V->Hp->VK->Prop:=fun x vs H Q=>∃a xs y j z,x= .ref a/\vs=[y]/\gA K H a xs/\eK y=true/\xs.all eK=true/\xs[j]? =some z/\lM z y=true/\(∀i z,i<j->xs[i]? =some z->lM z y=false)/\Q (.int (j:Nat)) H
theorem rW:G8 X "tuple.index" (y8 X.K):=by
 intro pins s σ H x vs v us Q I rx rv h
 obtain⟨a,xs,y,j,z,rfl,rfl,hS,fy,fs,ej,ez,hno,q⟩:=h
 obtain rfl:v=Value.ref a:=rx
 obtain⟨u,rfl,ru⟩:=rv.one
 obtain⟨its,r,pl,_⟩:=I.tuple hS
 have eqs:=eX (A:=X.A.in1) (s:=s) ru fy r fs
 obtain⟨w,ew,rw'⟩:=r.get ej
 have hj:j<its.length:=(List.getElem?_eq_some_iff.mp ew).1
 obtain⟨ob,eo,hc,nn,hd⟩:=pl
 obtain⟨cls,dd,data,sl⟩:=ob
 simp only at hc hd
 subst hc hd
 have flat_at:∀{i:Nat} {z:V},xs[i]? =some z->eK z=true:=fun {i z} e=>by
  exact List.all_eq_true.mp fs z (List.mem_of_getElem? e)
 refine call_meets F.slot_tuple_index ⟨_,eo,rfl⟩ F.entry_tuple_index (F.args_tuple_index_2 _ _) (SeqAt.tuple_indexAt a its.toArray nn dd sl u (mS y) j (by simpa using hj) ?_ ?_) ⟨eo,fun w hw=>eqs w (by simpa using hw),?_⟩
 ·have:its[j]=w:=(List.getElem?_eq_some_iff.mp ew).2
  show mS y its[j]=true
  rw[this,lN rw' (flat_at ej)]
  exact ez
 ·intro m hm hmj
  have hm':m<its.length:=by simpa using hm
  have hx:m<xs.length:=by rw[r.length];exact hm'
  obtain⟨w',ew',r'⟩:=r.get (List.getElem?_eq_getElem hx)
  have:its[m]=w':=(List.getElem?_eq_some_iff.mp ew').2
  show mS y its[m]=false
  rw[this,lN r' (flat_at (List.getElem?_eq_getElem hx))]
  exact hno m _ hmj (List.getElem?_eq_getElem hx)
 ·exact⟨.int (j:Nat),H,I.tok _,⟨_,rfl⟩,q⟩
end
end L2
end
noncomputable section
namespace L2
open PySem PySem.Spec PyProof.Rows
structure FnAt(P:Program)(w:World)(K:Fg)(mg:Str->Option Value)(base:Bs)(CX:jG)(k:Nat)(x:Str)(sp:Sp):Prop where
 ex:∃(f:Addr) (fd:FuncData) (ps:List Str),mg x=some (.ref f)/\PySem.W.keepIn K (.ref f)=true/\cY P w K mg base CX k f fd ps sp/\bw K fd ps []
def KI(sp:Sp)(E:XK)(t:TA):TE:=fun σ H Q=>t σ H fun vs H1=>sp vs H1 Q E
noncomputable section
variable{X:Cx}{CX:jG}{k:Nat}{sp:Sp}{E:XK}{x:Str}{p pos:Pos}{e:Expr}{es:List Expr}{t:TA}
theorem E2(h:FnAt X.prog X.w X.K X.mg X.base CX k x sp)(hr:bv k X.A)(hg:Gl X x)(hx:eQ CX X E)(ha:PA X (e::es) t)(hdb:(x == .(L))=false:=by decide)
  (he:starEach (e::es) X.env=.(S)::starEach es X.env:=by rfl) (hpl:.(V).any (·.1)=false:=by rfl):PE X .(Am) (KI sp E t):=by
 obtain⟨f,fd,ps,hm,hk,F,hb⟩:=h.ex
 intro pins s σ H Q I hq
 refine xM (dvs:=[]) (ds:=[]) F hr hg hm hk hb .nil hx ha hdb he hpl pins s σ H Q I ?_
 have e0:(fun(vs:List V) (H1:Hp)=>sp (vs++[]) H1 Q E)=fun vs H1=>sp vs H1 Q E:=by funext vs H1;rw[List.append_nil]
 show t σ H (fun vs H1=>sp (vs++[]) H1 Q E)
 rw[e0]
 exact hq
end
theorem cJ{X:Cx}{x:Str}{a:Addr}{pos:Pos}(hg:Gl X x)(hm:X.mg x=some (.ref a))(hd:(x == .(L))=false:=by decide):PE X (.Name x pos) (tC (.ref a)):=lG (v:= .ref a) hg hm rfl hd
def jl(K:Fg)(a:Addr)(xs:List V):Prop:=∃(o:Obj) (its:Array Value) (n:Nat),K.lookup a=some o/\o.cls= .type "tuple"/\o.dict=none/\o.data= .seq its n/\its.size<=sizeLine/\aM xs its.toList
theorem jl.sq{K:Fg}{a:Addr}{xs:List V}(h:jl K a xs)(H:Hp):gA K H a xs:=let ⟨o,its,n,h1,h2,_,h3,h4,h5⟩:=h;.inr ⟨o,its,n,h1,h2,h3,h4,h5⟩
theorem jl.ty{K:Fg}{a:Addr}{xs:List V}(h:jl K a xs)(H:Hp):G9 K "tuple" (.ref a) H:=let ⟨o,its,n,h1,h2,h0,h3,h4,h5⟩:=h;.inr (.inl ⟨rfl,o,h1,h2,h0⟩)
noncomputable def y9(H:Hp)(x dx C:Addr)(fs:List (Str×V)):Hp:=upd (upd H dx (.own x)) x (.ins C dx fs)
theorem qb{H:Hp}{x dx C:Addr}{fs:List (Str×V)}:y9 H x dx C fs x=some (.ins C dx fs):=ax
theorem kY{H:Hp}{x dx C:Addr}{fs:List (Str×V)}(hx:H x=none)(hd:H dx=none):Same H (y9 H x dx C fs):=fun b o e=>by
 unfold y9
 rw[aw (aL e hx),aw (aL e hd)]
 exact e
theorem bx{H:Hp}{p:Addr}(h:H p=none)(o:HO):Same H (upd H p o):=fun b u q=>by rw[aw (aL q h)];exact q
def Hl(C:Addr)(fs:List Str)(t:TA):TE:=fun σ H Q=>t σ H fun vs H1=>vs.length=fs.length/\ ∀x dx,H1 x=none->H1 dx=none->dx≠x->Q (.ref x) (y9 H1 x dx C (fs.zip vs))
def ny(C:Addr)(fs:List Str):Sp:=fun vs H Q _=>∃p dx r,vs= .ref p::r/\r.length=fs.length/\H p=some (.ins C dx [])/\Q .non (upd H p (.ins C dx (fs.zip r)))
structure eM(P:Program)(w:World)(K:Fg)(mg:Str->Option Value)(base:Bs)(x:Str)(C:Addr)(fs:List Str):Prop where
 glob:mg x=some (.ref C)
 cl:kN K C
 ex:∃(f:Addr) (fd:FuncData) (ps:List Str),Mk K C f/\cY P w K mg base fX 1 f fd ps (ny C fs)/\bw K fd ps []
noncomputable section
variable{X:Cx}{C:Addr}{fs:List Str}{x:Str}{p pos:Pos}{e:Expr}{es:List Expr}{t:TA}{k:Nat}
theorem AR(h:eM X.prog X.w X.K X.mg X.base x C fs)(hr:bv (k+2) X.A)(hg:Gl X x)(ha:PA X (e::es) t)(hdb:(x == .(L))=false:=by decide)
  (he:starEach (e::es) X.env=.(S)::starEach es X.env:=by rfl) (hpl:.(V).any (·.1)=false:=by rfl):PE X .(Am) (Hl C fs t):=by
 obtain⟨f,fd,ps,M,F,hb⟩:=h.ex
 intro pins s σ H Q I hq
 refine wpAny_Call_Name_kw (gW I hg h.glob ?_ hdb)
 refine PySem.W.callWith_K (h₀:=X.base) I.ok.mod.kin M.kp (bC (ha pos pins s σ H _ I hq) fun us s1 ⟨vs,H1,I1,r,hl,q⟩=>⟨I1.kIn,?_⟩) he hpl
 refine n6 (dvs:=[]) (ds:=[]) (E:=E0) M F (hr.mono (Nat.le_add_left 2 k)) hb .nil kW I1 r fun x dx n1 n2 ne=> ?_
 refine⟨x,dx,vs++[],rfl,by rw[List.append_nil];exact hl,ax,rfl,?_⟩
 rw[List.append_nil,fA]
 exact q x dx n1 n2 ne
end
noncomputable section
variable{P:Program}{w:World}{K:Fg}{mg:Str->Option Value}{base:Bs}{C f:Addr}{fd:FuncData}{qual:Str}{st:Stmt}
theorem ib{a:Str}{p1 p2 p3 p4:Pos}(F:fC K "__init__" qual st f fd)(hb:bF st=[.Assign [.Attribute (.Name "self" p1) a p2] (.Name a p3) p4])(S:ap ["self",a] ["self",a] (al st))
  (cl:kN K C) (na:bq K C a) (hd:(a == .(L))=false) (hcd:(a == .(Z))=false):cY P w K mg base fX 1 f fd ["self",a] (ny C [a]):=by
 refine F.ok S (fun vs H Q E h=> ?_) (fun cdv A outer s H vs Q E hr h=> ?_)
 ·obtain⟨p,dx,r,rfl,hl,_⟩:=h
  match r,hl with|[_],_=>rfl
 ·obtain⟨p,dx,r,rfl,hl,hp,q⟩:=h
  match r,hl with
  |[v],_ =>
   have vis:∀x∈(["self",a]:List Str),lF (al st) x:=fun x hx=>(S.par x hx).elim (fun z=> .inl z) fun z=> .inr (.inl z)
   rw[hb]
   refine⟨_,gX (dZ (bh (i:=0) rfl (vis "self" (by simp))) (bh (i:=1) rfl (vis a (by simp)) hd hcd) rfl),?_⟩
   exact⟨v,rfl,_,rfl,p,C,dx,[],rfl,hp,cl,na,by show 0<1000;decide,q⟩
theorem g6{a b:Str}{p1 p2 p3 p4 q1 q2 q3 q4:Pos}(F:fC K "__init__" qual st f fd)(hb:bF st=[.Assign [.Attribute (.Name "self" p1) a p2] (.Name a p3) p4,.Assign [.Attribute (.Name "self" q1) b q2] (.Name b q3) q4])
  (S:ap ["self",a,b] ["self",a,b] (al st)) (cl:kN K C) (na:bq K C a) (nb:bq K C b) (hd:(a == .(L))=false) (hcd:(a == .(Z))=false)
  (hd':(b == .(L))=false) (hcd':(b == .(Z))=false) (ab:¬a=b):cY P w K mg base fX 1 f fd ["self",a,b] (ny C [a,b]):=by
 refine F.ok S (fun vs H Q E h=> ?_) (fun cdv A outer s H vs Q E hr h=> ?_)
 ·obtain⟨p,dx,r,rfl,hl,_⟩:=h
  match r,hl with|[_,_],_=>rfl
 ·obtain⟨p,dx,r,rfl,hl,hp,q⟩:=h
  match r,hl with
  |[v,u],_ =>
   have vis:∀x∈(["self",a,b]:List Str),lF (al st) x:=fun x hx=>(S.par x hx).elim (fun z=> .inl z) fun z=> .inr (.inl z)
   rw[hb]
   refine⟨_,dY (dZ (bh (i:=0) rfl (vis "self" (by simp))) (bh (i:=1) rfl (vis a (by simp)) hd hcd) rfl) (gX (dZ (bh (i:=0) rfl (vis "self" (by simp))) (bh (i:=2) rfl (vis b (by simp)) hd' hcd') rfl)),?_⟩
   refine⟨v,rfl,_,rfl,p,C,dx,[],rfl,hp,cl,na,(by show 0<1000;decide),u,rfl,_,rfl,p,C,dx,_,rfl,ax,cl,nb,(by show 1<1000;decide),?_⟩
   have e:cC b u (cC a v [])=[(a,v),(b,u)]:=by
    show(if a=b then _ else(a,v)::cC b u [])=_
    rw[if_neg ab]
    rfl
   rw[fA,e]
   exact q
theorem nz{a b c:Str}{p1 p2 p3 p4 q1 q2 q3 q4 r1 r2 r3 r4:Pos}(F:fC K "__init__" qual st f fd)(hb:bF st=[.Assign [.Attribute (.Name "self" p1) a p2] (.Name a p3) p4,.Assign [.Attribute (.Name "self" q1) b q2] (.Name b q3) q4,.Assign [.Attribute (.Name "self" r1) c r2] (.Name c r3) r4])
  (S:ap ["self",a,b,c] ["self",a,b,c] (al st)) (cl:kN K C) (na:bq K C a) (nb:bq K C b) (nc:bq K C c) (hd:(a == .(L))=false) (hcd:(a == .(Z))=false)
  (hd':(b == .(L))=false) (hcd':(b == .(Z))=false) (hd'':(c == .(L))=false) (hcd'':(c == .(Z))=false) (ab:¬a=b) (ac:¬a=c) (bc:¬b=c):cY P w K mg base fX 1 f fd ["self",a,b,c] (ny C [a,b,c]):=by
 refine F.ok S (fun vs H Q E h=> ?_) (fun cdv A outer s H vs Q E hr h=> ?_)
 ·obtain⟨p,dx,r,rfl,hl,_⟩:=h
  match r,hl with|[_,_,_],_=>rfl
 ·obtain⟨p,dx,r,rfl,hl,hp,q⟩:=h
  match r,hl with
  |[v,u,z],_ =>
   have vis:∀x∈(["self",a,b,c]:List Str),lF (al st) x:=fun x hx=>(S.par x hx).elim (fun z=> .inl z) fun z=> .inr (.inl z)
   have e:cC b u (cC a v [])=[(a,v),(b,u)]:=by
    show(if a=b then _ else(a,v)::cC b u [])=_
    rw[if_neg ab]
    rfl
   rw[hb]
   refine⟨_,dY (dZ (bh (i:=0) rfl (vis "self" (by simp))) (bh (i:=1) rfl (vis a (by simp)) hd hcd) rfl) (dY (dZ (bh (i:=0) rfl (vis "self" (by simp))) (bh (i:=2) rfl (vis b (by simp)) hd' hcd') rfl) (gX (dZ (bh (i:=0) rfl (vis "self" (by simp))) (bh (i:=3) rfl (vis c (by simp)) hd'' hcd'') rfl))),?_⟩
   refine⟨v,rfl,_,rfl,p,C,dx,[],rfl,hp,cl,na,(by show 0<1000;decide),u,rfl,_,rfl,p,C,dx,_,rfl,ax,cl,nb,(by show 1<1000;decide),z,rfl,_,rfl,p,C,dx,_,rfl,ax,cl,nc,?_,?_⟩
   ·rw[e];show 2<1000;decide
   ·have e':cC c z [(a,v),(b,u)]=[(a,v),(b,u),(c,z)]:=by
     show(if a=c then _ else(a,v)::(if b=c then _ else(b,u)::cC c z []))=_
     rw[if_neg ac,if_neg bc]
     rfl
    rw[fA,fA,e,e']
    exact q
end
end L2
end
noncomputable section
namespace L2
open PySem PySem.Spec PyProof.Rows
def lW(lo:Int)(n:Nat):List V:=(List.range n).map fun(i:Nat)=>V.int (lo+(i:Int))
theorem ya{lo:Int}{n i:Nat}(h:i<n):(lW lo n)[i]? =some (.int (lo+(i:Int))):=by
 unfold lW
 rw[List.getElem?_map,List.getElem?_range h]
 rfl
theorem nA{lo:Int}{n:Nat}:(lW lo n).length=n:=by unfold lW;simp
end L2
end
noncomputable section
namespace L2
open PySem PySem.Spec PyProof.Rows
structure bz(K:Fg)(C:Addr):Prop where
 pg:PySem.W.plainGet K C Str.empty=true
 hd:PySem.W.hasDictIn K C=true
 po:PySem.W.plainOver K C=true
 sa:PySem.W.findIn K (.ref C) "__setattr__"=some (some (.builtin "object.__setattr__"))
 ca:PySem.W.findIn K (.ref C) "__class__"=some (some (.builtin "object.__class__"))
 cs:PySem.W.specialIn K (.builtin "object.__class__") "__get__"=some (some (.builtin "getset_descriptor.__get__"))
 ct:PySem.W.takesIn K (.builtin "object.__class__")=some true
 cm:PySem.W.mroIn K C (.type "object")=some true
 mks:PySem.W.makesIn K C=true
 kp:PySem.W.keepIn K (.ref C)=true
theorem bz.cls{K:Fg}{C:Addr}(h:bz K C):kN K C:=⟨h.pg,h.hd,h.po,h.sa⟩
theorem bz.ty{K:Fg}{C:Addr}(h:bz K C){H:Hp}{a dx:Addr}{fs:List (Str×V)}(e:H a=some (.ins C dx fs)):gZ K H (.ref a) (.ref C):= .ins e h.cls h.ca h.cs h.ct h.cm
def cG(K:Fg)(f:Addr)(x qual:Str)(st:Stmt):Prop:=∃fd,fC K x qual st f fd
theorem Hm{K:Fg}{x qual:Str}{st:Stmt}{f:Addr}{oc:Value}{od an:Option Addr}{osl:Array (Option Value)}{kV doc pm cdv ct:Value}(l:K.lookup f=some ⟨oc,od,.func (PySem.W.fnOf x qual (eL st) (bF st) (al st) .none kV doc pm an cdv ct),osl⟩)
  (c:PySem.W.codeIn K cdv qual=true) (k:PySem.W.keepIn K (.ref f)=true):cG K f x qual st:=⟨_,ux l c k⟩
theorem lX{K:Fg}{a:Addr}{its:Array Value}{n:Nat}{sl:Array (Option Value)}{xs:List V}(l:K.lookup a=some ⟨.type "tuple",none,.seq its n,sl⟩)(hs:its.size<=sizeLine)(hv:aM xs its.toList):jl K a xs :=
 ⟨_,its,n,l,rfl,rfl,rfl,hs,hv⟩
theorem qc{P:Program}{w:World}{K:Fg}{mg:Str->Option Value}{base:Bs}{CX:jG}{k:Nat}{f:Addr}{fd:FuncData}{ps:List Str}{sp:Sp}(no:∀vs H Q E,¬sp vs H Q E):cY P w K mg base CX k f fd ps sp :=
 ⟨fun vs H Q E h=>absurd h (no vs H Q E),fun A outer s H args us vs Q E _ _ _ _ h=>absurd h (no vs H Q E)⟩
structure yb(K:Fg)(mg:Str->Option Value)(x:Str)(st:Stmt)(ps:List Str)(f:Addr)(fd:FuncData):Prop where
 F:fC K x x st f fd
 b:bw K fd ps []
 m:mg x=some (.ref f)
theorem yb.at{P:Program}{w:World}{K:Fg}{mg:Str->Option Value}{base:Bs}{k:Nat}{x:Str}{st:Stmt}{ps:List Str}{f:Addr}{fd:FuncData}{sp:Sp}(h:yb K mg x st ps f fd)(G:cY P w K mg base fX k f fd ps sp) :
  FnAt P w K mg base fX k x sp:=⟨f,fd,ps,h.m,h.F.kp,G,h.b⟩
end L2
end
noncomputable section
namespace L2
open PySem PySem.Spec PyProof.Rows
noncomputable section
variable{X:Cx}
theorem uH{x:Str}{i:Int}{tk:Tok}{pos:Pos}(hg:Gl X x)(hm:X.mg x=some (.int i tk))(hd:(x == .(L))=false:=by decide):PE X (.Name x pos) (tC (.int i)):=lG (v:= .int i) hg hm ⟨_,rfl⟩ hd
end
noncomputable def maskN(f:Nat->Bool):Nat->Nat
 |0=>0
 |n+1=>2 ^ n*(f n).toNat+maskN f n
theorem eZ(f:Nat->Bool):∀n,maskN f n<2 ^ n
 |0=>by show 0<1;decide
 |n+1=>by
  have ih:=eZ f n
  show 2 ^ n*(f n).toNat+maskN f n<2 ^ (n+1)
  have:(f n).toNat<=1:=Bool.toNat_le _
  have h2:2 ^ n*(f n).toNat<=2 ^ n*1:=Nat.mul_le_mul_left _ this
  rw[Nat.pow_succ]
  omega
theorem dG(f:Nat->Bool):∀n i,(maskN f n).testBit i=(decide (i<n) && f i)
 |0,i=>by simp[maskN]
 |n+1,i=>by
  have ih:=dG f n
  have lt:=eZ f n
  show(2 ^ n*(f n).toNat+maskN f n).testBit i=_
  rw[Nat.testBit_two_pow_mul_add _ lt]
  by_cases h:i<n
  ·rw[if_pos h,ih i]
   have h':i<n+1:=by omega
   simp[h,h']
  ·rw[if_neg h]
   by_cases h2:i=n
   ·subst h2
    cases f i <;> simp
   ·have h3:¬i<n+1:=by omega
    have h4:i-n≠0:=by omega
    obtain⟨k,hk⟩:∃k,i-n=k+1:=⟨i-n-1,by omega⟩
    rw[hk]
    cases f n <;> simp[h3,Nat.testBit_succ]
theorem iP(f:Nat->Bool):∀n,maskN (fun i=> !f i) n+maskN f n+1=2 ^ n
 |0=>rfl
 |n+1=>by
  have ih:=iP f n
  show 2 ^ n*(!f n).toNat+maskN (fun i=> !f i) n+(2 ^ n*(f n).toNat+maskN f n)+1=2 ^ (n+1)
  rw[Nat.pow_succ]
  cases f n <;> simp <;> omega
theorem bW(x y:Nat):Builtin.bitAnd (x:Int) (y:Int)=((x &&& y:Nat):Int):=by
 unfold Builtin.bitAnd
 simp
theorem rX(x y:Nat):Builtin.bitOr (x:Int) (y:Int)=((x ||| y:Nat):Int):=by
 unfold Builtin.bitOr Builtin.bitAnd Builtin.bitNot
 have h1:¬(0:Int)<= -(x:Int)-1:=by omega
 have h2:¬(0:Int)<= -(y:Int)-1:=by omega
 simp only[h1,h2,decide_false]
 have e1:(-(-(x:Int)-1)-1).toNat=x:=by omega
 have e2:(-(-(y:Int)-1)-1).toNat=y:=by omega
 rw[e1,e2]
 omega
end L2
end
noncomputable section
namespace L2
open PySem PySem.Spec PyProof.Rows
structure ju where
 params:Arguments
 body:FuncBody
 scope:Scope
 free:List Str
abbrev E3(n:ju)(nm qual:Str)(cl:List (Str×Addr))(doc pm cdv ct:Value):FuncData :=
 { name:=nm,qualname:=qual,params:=n.params,body:=n.body,scope:=n.scope,globals:=mainGlobals,closure:=cl,defaults:= .none,kwdefaults:= .none,doc:=doc,pyModule:=pm,annotations:=none,code:=cdv,closureTuple:=ct,builtins:=builtinsNs }
def fR(n:ju)(H:Hp)(q:Addr)(cl:List (Str×Addr)):Prop :=
 ∃(o:Obj) (u:HO) (nm qual:Str) (doc pm:Value) (cc:Addr) (ct:Value) (oc:Obj) (u2:HO),H q=some (.frz o u)/\o.cls= .type "function"/\o.data= .func (E3 n nm qual cl doc pm (.ref cc) ct)/\H cc=some (.frz oc u2)/\tX oc
structure cj(H:Hp)(free:List Str)(cl:List (Str×Addr))(vs:List V):Prop where
 len:free.length=vs.length
 val:∀(i:Nat) x v,free[i]? =some x->vs[i]? =some v->∃c ob u w,cl.lookup x=some c/\H c=some (.frz ob u)/\ob.data= .cell (some w)/\aR v w
 sub:∀x c,cl.lookup x=some c->x∈free
 inj:∀x y c,cl.lookup x=some c->cl.lookup y=some c->x=y
theorem fR.keep{n:ju}{H H':Hp}{q:Addr}{cl:List (Str×Addr)}(h:fR n H q cl)(k:∀a o u,H a=some (.frz o u)->H' a=some (.frz o u)):fR n H' q cl :=
 let ⟨o,u,nm,qual,doc,pm,cc,ct,oc,u2,e1,e2,e3,e4,e5⟩:=h
 ⟨o,u,nm,qual,doc,pm,cc,ct,oc,u2,k _ _ _ e1,e2,e3,k _ _ _ e4,e5⟩
theorem cj.keep{H H':Hp}{fr:List Str}{cl:List (Str×Addr)}{vs:List V}(h:cj H fr cl vs)(k:∀a o u,H a=some (.frz o u)->H' a=some (.frz o u)):cj H' fr cl vs :=
 ⟨h.len,fun i x v e1 e2=>let ⟨c,ob,u,w,a1,a2,a3,a4⟩:=h.val i x v e1 e2;⟨c,ob,u,w,a1,k _ _ _ a2,a3,a4⟩,h.sub,h.inj⟩
theorem cj.some{H:Hp}{fr:List Str}{cl:List (Str×Addr)}{vs:List V}(h:cj H fr cl vs){x:Str}(hx:x∈fr):∃c ob u w,cl.lookup x=some c/\H c=some (.frz ob u)/\ob.data= .cell (some w):=by
 obtain⟨i,hi,e⟩:=List.getElem_of_mem hx
 have hi':i<vs.length:=by rw[<-h.len];exact hi
 obtain⟨c,ob,u,w,a1,a2,a3,_⟩:=h.val i x vs[i] (by rw[List.getElem?_eq_getElem hi,e]) (List.getElem?_eq_getElem hi')
 exact⟨c,ob,u,w,a1,a2,a3⟩
noncomputable def E4(CX:jG)(P:Program)(w:World)(K:Fg)(mg:Str->Option Value)(base:Bs)(N:List Str)(qual:Str)(scope:Scope)(f:Addr)(cd:Value)(cl:List (Str×Addr))(A:Around)(outer:List Env)(s:Shared)(H:Hp)(E:XK):Cx where
 prog:=P
 w:=w
 K:=K
 mg:=mg
 base:=base
 A:=A.deeper (PySem.W.envX qual scope s.heap.objs.size f cd cl)
 N:=N
 s₀:=s
 H₀:=H
 env:=PySem.W.envX qual scope s.heap.objs.size f cd cl
 outer:=outer
 stack:=PySem.W.envX qual scope s.heap.objs.size f cd cl::outer
 ex:=[]
 calm:=true
 fn:=fun _=>false
 cw:=fun _=>false
 pn:=[]
 xe:=fun e s'=>wpAny (model P w) (A.deeper (PySem.W.envX qual scope s.heap.objs.size f cd cl)) (leaving (PySem.W.envX qual scope s.heap.objs.size f cd cl) e) (fun _ s''=>CX outer H s E e s'') (fun e' s''=>CX outer H s E e' s'') s'
structure lY(N P F:List Str)(sc:Scope):Prop where
 kind:sc.kind= .function
 co:sc.isCoroutine=false
 gen:sc.isGenerator=false
 nd:N.Nodup
 pre:N.take (P++F).length=P++F
 par:∀x∈P,sc.names.lookup x=some .local
 fre:∀x∈F,sc.names.lookup x=some .free
 nocell:∀y∈sc.names,y.2 ≠ .cell
 allf:∀y∈sc.names,y.2= .free->y.1∈F
theorem qd:∀{ps:List Str} {us:List Value} {i:Nat} {x:Str} {u:Value},ps.Nodup->ps[i]? =some x->us[i]? =some u->(ps.zip us).reverse.lookup x=some u
 |[],us,i,x,u,_,h,_=>by simp at h
 |p::ps,[],i,x,u,_,_,h=>by simp at h
 |p::ps,w::us,0,x,u,nd,h1,h2=>by
  simp at h1 h2
  subst h1 h2
  have hn:(ps.zip us).reverse.lookup p=none:=by
   rw[List.lookup_eq_none_iff]
   intro q hq
   have:=(List.of_mem_zip (List.mem_reverse.mp hq)).1
   simp only[bne_iff_ne,ne_eq,beq_eq_false_iff_ne]
   intro z
   rw[<-z]at this
   exact(List.nodup_cons.mp nd).1 this
  rw[List.zip_cons_cons,List.reverse_cons,List.lookup_append,hn]
  simp[List.lookup]
 |p::ps,w::us,i+1,x,u,nd,h1,h2=>by
  have ih:=qd (i:=i) (List.nodup_cons.mp nd).2 (by simpa using h1) (by simpa using h2)
  rw[List.zip_cons_cons,List.reverse_cons,List.lookup_append,ih]
  rfl
theorem oZ{CX:jG}{P:Program}{w:World}{K:Fg}{mg:Str->Option Value}{base:Bs}{N ps fr:List Str}{qual:Str}{scope:Scope}{f:Addr}{cd:Value}{cl:List (Str×Addr)}{A:Around}{outer:List Env}{s:Shared}{h1:Heap}{tk:Nat}{H:Hp}{E:XK}{us:List Value}{vs cv:List V}
  (S:lY N ps fr scope) (hd:A.handled=none) (e0:lH P w K mg base A outer s H) (hl:vs.length=ps.length) (r:aM vs us) (C:cj H fr cl cv)
  (hns:h1.Ns s.heap.objs.size (fun y=>(ps.zip us).reverse.lookup y)) (hk:∀b o,s.heap.get? b=some o->h1.get? b=some o) :
  aA (E4 CX P w K mg base N qual scope f cd cl A outer s H E) [] (start N (vs++cv)) H { s with heap:=h1,toks:=tk }:=by
 have hcl:∀x c,cl.lookup x=some c->∃ob u w,H c=some (.frz ob u)/\ob.data= .cell (some w):=fun x c e=>by
  obtain⟨c',ob,u,w,a1,a2,a3⟩:=C.some (C.sub x c e)
  rw[e]at a1;cases a1
  exact⟨ob,u,w,a2,a3⟩
 have cell:∀c ob u w,H c=some (.frz ob u)->ob.data= .cell (some w)->h1.IsCell c (some w):=fun c ob u w a2 a3=>by
  obtain⟨e,_⟩:=e0.hok c _ a2
  exact⟨ob,hk _ _ e,a3⟩
 have noA:∀b:Addr,b∉(E4 CX P w K mg base N qual scope f cd cl A outer s H E).ex:=fun b z=>absurd (show b∈([]:List Addr) from z) (by simp)
 have hpl:(ps++fr).length<=N.length:=by have:=congrArg List.length S.pre;rw[List.length_take]at this;omega
 have hvl:(vs++cv).length=(ps++fr).length:=by rw[List.length_append,List.length_append,hl,C.len]
 refine⟨⟨e0.mod,S.kind,rfl,rfl,Nat.le_refl _,C.inj,fun y hy=> ?_,(fun y c z=>nomatch z),fun _=>hd,Around.frames_deeper e0.frames,.inr ⟨rfl,rfl⟩,fun b z=>absurd z (noA b),e0.bs,e0.bsz,fun b _ _=>noA b,fun b z=>absurd z (noA b),e0.funs,e0.frf,e0.tab,fun _ z=>nomatch z⟩,
  rfl,e0.bare,Un.kept hk,⟨_,hns,fun i y v h1 h2 h3=> ?_⟩,fun y c h=> ?_,e0.hok.fresh .(Ao),fun y c h=> ?_,fun p hp=>absurd (show p∈([]:List (Addr×Obj)) from hp) (by simp),e0.hok.kept hk,?_⟩
 ·have hy:scope.names.lookup y=some .cell\/scope.names.lookup y=some .free:=hy
  rcases hy with hy|hy
  ·exact absurd rfl (S.nocell _ (PySem.mem_of_lookup hy))
  ·obtain⟨c,_,_,_,a1,_⟩:=C.some (S.allf _ (PySem.mem_of_lookup hy) rfl)
   exact⟨c,a1⟩
 ·have hi:i<(vs++cv).length:=by
   unfold start at h2
   by_cases hi:i<(vs++cv).length
   ·exact hi
   ·rw[List.getElem?_append_right (by simpa using hi)]at h2
    rw[List.getElem?_replicate]at h2
    split at h2 <;> cases h2
  have ha:(vs++cv)[i]? =some v:=by
   unfold start at h2
   rw[List.getElem?_append_left (by simpa using hi),List.getElem?_map]at h2
   cases e:(vs++cv)[i]? with
   |none=>rw[e]at h2;cases h2
   |some a=>rw[e]at h2;cases h2;rfl
  have hp:(ps++fr)[i]? =some y:=by
   rw[<-S.pre,List.getElem?_take_of_lt (by omega)];exact h1
  have ndP:(ps++fr).Nodup:=by rw[<-S.pre];exact S.nd.sublist (List.take_sublist _ _)
  by_cases hv:i<vs.length
  ·rw[List.getElem?_append_left hv]at ha
   rw[List.getElem?_append_left (by omega)]at hp
   obtain⟨u,hu,rv⟩:=r.get ha
   exact⟨u,rv,.inl ⟨S.par y (List.mem_of_getElem? hp),qd (List.nodup_append.mp ndP).1 hp hu⟩⟩
  ·rw[List.getElem?_append_right (by omega)]at ha hp
   rw[<-hl]at hp
   obtain⟨c,ob,u,w,a1,a2,a3,a4⟩:=C.val _ y v hp ha
   exact⟨w,a4,.inr ⟨.inr (S.fre y (List.mem_of_getElem? hp)),c,a1,cell c ob u w a2 a3⟩⟩
 ·obtain⟨ob,u,w,a2,a3⟩:=hcl y c h
  exact⟨_,cell c ob u w a2 a3⟩
 ·obtain⟨ob,u,w,a2,_⟩:=hcl y c h
  exact .inr ⟨rfl,ob,u,a2⟩
 ·unfold start
  show _=N.length
  rw[List.length_append,List.length_map,List.length_replicate]
  omega
noncomputable section
variable{P:Program}{w:World}{A:Around}{s:Shared}{R:Result->Shared->Prop}{a:Addr}{args:Args}{o oc:Obj}{fd:FuncData}{cc:Addr}{fv:Array Value}{q:Str}{tq:Tok}
theorem uI{body:List Stmt}(hroom:A.depth<recursionLimit)(ho:s.heap.get? a=some o)(hd:o.data= .func fd)(hco:fd.scope.isCoroutine=false)(hgen:fd.scope.isGenerator=false)
  (hc:fd.code= .ref cc) (hoc:s.heap.get? cc=some oc) (hdc:oc.data= .fields fv) (hq:fv[1]? =some (.str q tq)) (hbody:fd.body= .stmts body)
  (h:wpAny (model P w) A.in1 (bindArgs fd args) (fun binds s1=>wpAny (model P w) A.in1 (newFunctionEnv fd.scope fd.globals fd.closure binds (q ++ ".<locals>.") (some a) (.ref cc) none fd.builtins)
    (fun env s2=>s2.heap.NoLimit/\codeAny (model P w) A (.func body env) R s2) (fun e s'=>R (.error e) s') s1) (fun e s'=>R (.error e) s') s):codeAny (model P w) A (.call (.ref a) args) R s:=by
 refine codeAny_of_tree (show wpAny _ A.in1 (callAny (.ref a) args) _ _ s from ?_)
 unfold callAny
 refine wpAny_bind (wpAny_load ho ?_)
 simp only[hd,callFunction,hco,hgen,hbody,hc]
 refine wpAny_bind (m:=field (.ref cc) 1) (wpAny_field hoc hdc hq (wpAny_bind (wpAny_pure (wpAny_bind (wpAny_mono h (fun binds s1 h1=> ?_) fun _ _ z=>z)))))
 exact wpAny_bind (wpAny_mono h1 (fun env s2 h2=>wpAny_bind (wpAny_enterFrame h2.1 hroom (wpAny_pure ⟨rfl,h2.2⟩))) fun _ _ z=>z)
end
abbrev CJ:=List V->List V->Hp->VK->XK->Prop
structure p5(P:Program)(w:World)(K:Fg)(mg:Str->Option Value)(base:Bs)(CX:jG)(k:Nat)(n:ju)(sp:CJ):Prop where
 run:∀(A:Around) (outer:List Env) (s:Shared) (H:Hp) (q:Addr) (cl:List (Str×Addr)) (us:List Value) (vs cv:List V) (Q:VK) (E:XK),bv k A->lH P w K mg base A outer s H->fR n H q cl->cj H n.free cl cv->aM vs us->sp vs cv H Q E ->
  codeAny (model P w) A (.call (.ref q) ⟨us,[]⟩) (CR CX outer P w H s Q E) s
noncomputable section
variable{CX:jG}{P:Program}{w:World}{K:Fg}{mg:Str->Option Value}{base:Bs}{k:Nat}{n:ju}{N ps:List Str}{sp:CJ}
theorem AS{body:List Stmt}(hb:n.body= .stmts body)(S:lY N ps n.free n.scope)(len:∀vs cv H Q E,sp vs cv H Q E->vs.length=ps.length)
  (hbind:∀(nm qual:Str) (cl:List (Str×Addr)) (doc pm cdv ct:Value) (us:List Value),us.length=ps.length->bindArgs (E3 n nm qual cl doc pm cdv ct) ⟨us,[]⟩=pure (ps.zip us))
  (hbody:∀(qual:Str) (cd:Value) (cl:List (Str×Addr)) (f:Addr) (A:Around) (outer:List Env) (s:Shared) (H:Hp) (vs cv:List V) (Q:VK) (E:XK),bv k (A.deeper (PySem.W.envX qual n.scope s.heap.objs.size f cd cl))->cj H n.free cl cv->sp vs cv H Q E ->
   ∃t,mZ (E4 CX P w K mg base N qual n.scope f cd cl A outer s H E) body t/\t { nx:=fun _ H'=>Q .non H',rt:=Q } (start N (vs++cv)) H):p5 P w K mg base CX (k+1) n sp:=by
 refine⟨fun A outer s H q cl us vs cv Q E hr e0 hc hce r hsp=> ?_⟩
 obtain⟨o,u,nm,qual,doc,pm,cc,ct,oc,u2,e1,e2,e3,e4,fv,fq,tq,e5,e6⟩:=hc
 obtain⟨g1,_⟩:=e0.hok q _ e1
 obtain⟨g2,_⟩:=e0.hok cc _ e4
 have lim:s.heap.NoLimit:=e0.mod.nolimit.keeps fun b o e=>(e0.bs b o e).1
 have hlu:us.length=ps.length:=by rw[<-r.length];exact len _ _ _ _ _ hsp
 refine uI hr.depth g1 e3 S.co S.gen rfl g2 e5 e6 hb ?_
 rw[hbind _ _ _ _ _ _ _ _ hlu]
 refine wpAny_pure (wpAny_newFunctionEnv S.nocell (fun x hx=>S.par x.1 (List.of_mem_zip (show(x.1,x.2)∈ps.zip us from hx)).1) (fun h1 hns hsb=>⟨lim.fresh _ hsb,codeAny_func ?_⟩) S.kind)
 have hk:∀b o,s.heap.get? b=some o->h1.get? b=some o:=fun b o e=>hsb.extBut b o (Nat.ne_of_lt (Heap.lt_size e)) (Heap.get?_push_of_some _ e)
 obtain⟨t,ht,hq⟩:=hbody fq (.ref cc) cl q A outer s H vs cv Q E (hr.deeper _) hce hsp
 have I:=oZ (CX:=CX) (N:=N) (qual:=fq) (f:=q) (cd:= .ref cc) (E:=E) (tk:=s.toks+(ps.zip us).length) S hr.hd e0 (len _ _ _ _ _ hsp) r hce hns hk
 refine wpAny_mono (ht [] _ _ H _ I hq) (fun fl s' hs=> ?_) fun e s' hs=>hs
 cases fl with
 |ret u =>
  obtain⟨v,H',J,rv,q⟩:=hs
  exact⟨v,H',J.os,J.bare,J.base,J.hok,rv,q⟩
 |next =>
  obtain⟨σ',H',J,q⟩:=hs
  exact⟨V.non,H',J.os,J.bare,J.base,J.hok,rfl,q⟩
 |brk=>obtain⟨_,_,_,q⟩:=hs;exact q.elim
 |cont=>obtain⟨_,_,_,q⟩:=hs;exact q.elim
end
noncomputable section
variable{X:Cx}{CX:jG}{k:Nat}{E:XK}{x m:Str}{p pos apos:Pos}{e o:Expr}{es:List Expr}{ta:TE}{t:TA}{ι :Type}{nn: ι ->ju}{sp: ι ->CJ}
def uJ(nn: ι ->ju)(sp: ι ->CJ)(E:XK)(t:TA)(σ :St)(H:Hp)(x:V)(Q:VK):Prop:=∃(i: ι) (q:Addr) (cl:List (Str×Addr)) (cv:List V),x= .ref q/\fR (nn i) H q cl/\t σ H fun vs H2=>fR (nn i) H2 q cl/\cj H2 (nn i).free cl cv/\sp i vs cv H2 Q E
theorem fR.fn{pins:List (Addr×Obj)}{σ :St}{H:Hp}{s:Shared}{n:ju}{q:Addr}{cl:List (Str×Addr)}(I:aA X pins σ H s)(h:fR n H q cl):PySem.W.FnAt q s.heap:=by
 obtain⟨o,u,nm,qual,doc,pm,cc,ct,oc,u2,e1,e2,e3,_⟩:=h
 obtain⟨g,_⟩:=I.hok q _ e1
 obtain⟨c,d,dt,sl⟩:=o
 exact⟨c,d,_,sl,by rw[g];exact congrArg (fun z=>some (Obj.mk c d z sl)) e3⟩
theorem yc{pins:List (Addr×Obj)}{σ :St}{H:Hp}{s:Shared}{Q:VK}{us:List Value}{vs cv:List V}{n:ju}{sp:CJ}{q:Addr}{cl:List (Str×Addr)}(F:p5 X.prog X.w X.K X.mg X.base CX k n sp)(hr:bv k X.A)(hx:eQ CX X E)
  (I:aA X pins σ H s) (hc:fR n H q cl) (hce:cj H n.free cl cv) (r:aM vs us) (h:sp vs cv H Q E):wpAny .(E) X.A (call (.ref q) us) (EP X pins σ Q) X.xe s:=by
 refine wpAny_call (codeAny_mono (F.run X.A X.stack s H q cl us vs cv Q E hr I.env0 hc hce r h) fun r s' hq=> ?_)
 cases r with
 |error e=>exact hx pins σ H s e s' I hq
 |ok fl =>
  cases fl with
  |ret u=>exact I.after hq
  |next=>exact False.elim hq
  |brk=>exact False.elim hq
  |cont=>exact False.elim hq
theorem uK{pl:Sem Bool}(he:PE X o ta)(F:∀i,p5 X.prog X.w X.K X.mg X.base CX k (nn i) (sp i))(hr:bv k X.A)(hx:eQ CX X E)(ha:PA X (e::es) t)
  (hst:starEach (e::es) X.env=.(S)::starEach es X.env:=by rfl) (hpl:.(V).any (·.1)=false:=by rfl)
  (ht:eval (.Call (.Attribute o m apos) (e::es) [] pos) X.env=(do
   let ov <- eval o X.env
   standAt apos.atName
   let (f,first) <- holding [ov] (getMethod ov m pl)
   callWith pos f first (backTo pos (starEach (e::es) X.env)) (backToKw pos (keywordEach [] X.env))):=by rfl) :
  PE X (.Call (.Attribute o m apos) (e::es) [] pos) (fun σ H Q=>ta σ H fun v H1=>∃a C dx fs u,v= .ref a/\H1 a=some (.ins C dx fs)/\kN X.K C/\bq X.K C m/\fs.lookup m=some u/\uJ nn sp E t σ H1 u Q):=by
 intro pins s σ H Q I h
 refine PySem.W.methodCall_KW (pl:=pl) (bC (he pins s σ H _ I h) fun u s1 ⟨v,H1,I1,rv,a,C,dx,fs,y,ev,ea,hC,hn,hl,h2⟩=> ?_) ht
 subst ev
 obtain rfl:u=Value.ref a:=rv
 obtain⟨mA,O,r,_,_,_⟩:=gY I1.hok ea
 obtain⟨od,J,_⟩:=O.look
 refine PySem.W.method_usual I1.kIn J (PySem.W.plainGet_of (hC.get m)).1 (PySem.W.plainGet_of (hC.get m)).2 hn rfl (jE I1 ea hC hn hl fun z s2 I2 rz=> ?_)
 obtain⟨i,q,cl,cv,eq,hc,h1⟩:=h2
 subst eq
 obtain rfl:z=Value.ref q:=rz
 exact PySem.W.callWith_F (hc.fn I2) (bC (ha pos pins s2 σ H1 _ I2 h1) fun us s3 ⟨vs,H2,I3,r,hc2,hce,h3⟩=>⟨hc2.fn I3,yc (F i) hr hx I3 hc2 hce r h3⟩) hst hpl
end
end L2
end
noncomputable section
namespace L2
open PySem PySem.Spec PyProof.Rows
noncomputable section
variable{X:Cx}{pins:List (Addr×Obj)}{σ :St}{H:Hp}{s:Shared}
theorem aA.seal(I:aA X pins σ H s){x:Str}{c:Addr}(hx:X.env.cells.lookup x=some c)(hf:X.fn x=false)(hw:X.cw x=true) :
  ∃H',aA X pins σ H' s/\(∀a o,H a=some o->H' a=some o)/\ ∃ob u,H' c=some (.frz ob u):=by
 obtain⟨v,ob,hob,hd⟩:=I.cell x c hx
 rcases I.freeC x c hx with hc|⟨_,o,u,hc⟩
 ·have ne:∀{b:Addr} {o:HO},H b=some o->b≠c:=fun {b o} e z=>by rw[z,hc]at e;cases e
  refine⟨upd H c (.frz ob (.own 0)),⟨I.ok,I.os,I.bare,⟨I.base.keep,I.base.slot,fun b o e n hb=> ?_,I.base.there,fun b xs e=> ?_,fun b o u e=> ?_,fun b q e=> ?_⟩,I.loc,I.cell,?_,fun y c' e=> ?_,fun p hp=> ?_,fun b o e=> ?_,I.len⟩,fun a o e=> ?_,ob,.own 0,ax⟩
  ·rw[aw (Nat.ne_of_lt (Nat.lt_of_lt_of_le (Heap.lt_size e) (I.ok.cab x c hw hx)))]
   exact I.base.free b o e n hb
  ·have:=I.base.tups b xs e;rw[aw (ne this)];exact this
  ·have:=I.base.frzs b o u e;rw[aw (ne this)];exact this
  ·have:=I.base.tbls b q e;rw[aw (ne this)];exact this
  ·rw[aw (Ne.symm (I.cne x c hx))];exact I.free
  ·by_cases h:c'=c
   ·subst h
    have:y=x:=I.ok.inj y x c' e hx
    subst this
    exact .inr ⟨hf,ob,.own 0,ax⟩
   ·rw[aw h];exact I.freeC y c' e
  ·obtain⟨e,n,ne',nf,d⟩:=I.pin p hp
   have:p.1≠c:=fun z=>by
    rw[z,hob]at e
    have q:ob=p.2:=Option.some.inj e
    exact d v (by rw[<-q];exact hd)
   exact⟨e,by rw[aw this];exact n,ne',nf,d⟩
  ·by_cases h:b=c
   ·subst h;rw[ax]at e;cases e;exact⟨hob,ob,hob⟩
   ·rw[aw h]at e
    exact(I.hok b o e).stay (fun _ _ _ q=>q) (fun d q=>by rw[aw (ne q)];exact q) (fun d xs q=>by rw[aw (ne q)];exact q) fun d o u q=>by rw[aw (ne q)];exact q
  ·rw[aw (ne e)];exact e
 ·exact⟨H,I,fun _ _ e=>e,o,u,hc⟩
theorem aA.sealAll:∀(fr:List Str) {H:Hp},aA X pins σ H s->(∀x∈fr,(∃c,X.env.cells.lookup x=some c)/\X.fn x=false/\X.cw x=true) ->
  ∃H',aA X pins σ H' s/\(∀a o,H a=some o->H' a=some o)/\ ∀x∈fr,∃c ob u,X.env.cells.lookup x=some c/\H' c=some (.frz ob u)
 |[],H,I,_=>⟨H,I,fun _ _ e=>e,fun x hx=>absurd hx (by simp)⟩
 |y::fr,H,I,h=>by
  obtain⟨⟨c,hc⟩,hf,hw⟩:=h y List.mem_cons_self
  obtain⟨H1,I1,s1,ob,u,e1⟩:=I.seal hc hf hw
  obtain⟨H2,I2,s2,e2⟩:=aA.sealAll fr I1 fun x hx=>h x (List.mem_cons_of_mem _ hx)
  refine⟨H2,I2,fun a o e=>s2 _ _ (s1 _ _ e),fun x hx=> ?_⟩
  rcases List.mem_cons.mp hx with rfl|hx
  ·exact⟨c,ob,u,hc,s2 _ _ e1⟩
  ·exact e2 x hx
theorem p6{pos:Pos}{a b:Int}{c cv:Value}(l:List Value)(h:TriplesOk l)(e:codeAmong pos (l++[rawInt a,rawInt b,c])=some cv):codeAmong pos l=some cv\/cv=c:=by
 fun_induction TriplesOk l with
 |case1 =>
  simp only[List.nil_append,rawInt,codeAmong]at e
  split at e
  ·cases e;exact .inr rfl
  ·cases e
 |case2 l1 t1 l2 t2 d rest ih =>
  simp only[List.cons_append,codeAmong]at e ⊢
  split at e
  ·rename_i hc;rw[if_pos hc];exact .inl e
  ·rename_i hc;rw[if_neg hc];exact ih h e
 |case3 l h1 h2=>exact h.elim
theorem aA.madeNew{P c':Addr}{oc fo:Obj}{h':Heap}{ps:Array Value}{a b:Int}{tk:Nat}{q:Nat}(I:aA X pins σ H s)(hP:H P=some (.tbl q))(hx:Heap.ExtBut P s.heap h')(h1:s.heap.objs.size<=c')(h2:c'<h'.objs.size)
  (hps:s.heap.get? P=some (PySem.W.tabObj ps)) (ht:TriplesOk ps.toList) (hT:h'.get? P=some (PySem.W.tabObj (ps ++ #[rawInt a,rawInt b,.ref c']))) (hoc:h'.get? c'=some oc) (hC:tX oc) (hfo:fo.isFreed=false) :
  aA X pins σ (upd (upd H c' (.frz oc (.own 0))) h'.objs.size (.frz fo (.own 0))) { s with heap:=h'.push fo,toks:=tk }:=by
 have hq:s.heap.objs.size<=h'.objs.size:=Nat.le_trans h1 (Nat.le_of_lt h2)
 have n1:H c'=none:=I.hok.fresh h1
 have n2:H h'.objs.size=none:=I.hok.fresh hq
 have ne1:∀{b:Addr} {o:HO},H b=some o->b≠c':=fun {b o} e z=>by rw[z,n1]at e;cases e
 have ne2:∀{b:Addr} {o:HO},H b=some o->b≠h'.objs.size:=fun {b o} e z=>by rw[z,n2]at e;cases e
 have up:∀{b:Addr} {o:HO},H b=some o->upd (upd H c' (.frz oc (.own 0))) h'.objs.size (.frz fo (.own 0)) b=some o:=fun {b o} e=>by rw[aw (ne2 e),aw (ne1 e)];exact e
 have old1:∀{b:Addr} {o:Obj},s.heap.get? b=some o->b≠c':=fun {b o} e=>Nat.ne_of_lt (Nat.lt_of_lt_of_le (Heap.lt_size e) h1)
 have old2:∀{b:Addr} {o:Obj},s.heap.get? b=some o->b≠h'.objs.size:=fun {b o} e=>Nat.ne_of_lt (Nat.lt_of_lt_of_le (Heap.lt_size e) hq)
 have keep:∀b o,b≠P->s.heap.get? b=some o->(h'.push fo).get? b=some o:=fun b o n e=>Heap.get?_push_of_some _ (hx b o n e)
 have hTp:(h'.push fo).get? P=some (PySem.W.tabObj (ps ++ #[rawInt a,rawInt b,.ref c'])):=Heap.get?_push_of_some _ hT
 have unP:∀b,H b=none->b≠P:=fun b n z=>by rw[z,hP]at n;cases n
 refine I.un (h':=h'.push fo) (t':=tk) ⟨fun b o e n _ _=>keep b o (unP b n) e,fun b o e n _ _=>⟨o.slots,keep b o (unP b n) e⟩,fun b o e n _=>by rw[aw (old2 e),aw (old1 e)];exact n,fun b o e _=> ?_,fun b xs e=>up e,fun b o u e=>up e,fun b q e=>up e⟩ fun b o e=> ?_
 ·by_cases hb:b=P
  ·rw[hb];exact⟨_,hTp⟩
  ·exact⟨o,keep b o hb e⟩
 ·by_cases hb2:b=h'.objs.size
  ·subst hb2
   rw[ax]at e;cases e
   have:(h'.push fo).get? h'.objs.size=some fo:=Heap.get?_push_size _ hfo
   exact⟨this,fo,this⟩
  ·rw[aw hb2]at e
   by_cases hb1:b=c'
   ·subst hb1
    rw[ax]at e;cases e
    have:=Heap.get?_push_of_some (h:=h') fo hoc
    exact⟨this,oc,this⟩
   ·rw[aw hb1]at e
    by_cases hbP:b=P
    ·subst hbP
     rw[hP]at e;cases e
     obtain⟨ps',e1,_,r⟩:=I.hok b _ hP
     rw[hps]at e1;cases e1
     refine⟨_,hTp,by rw[Array.toList_append];exact TriplesOk_snoc _ _ _ _ ht,fun pos cv z=> ?_⟩
     rw[Array.toList_append]at z
     rcases p6 _ ht z with z|z
     ·obtain⟨c,o',u,a1,a2,a3⟩:=r pos cv z
      exact⟨c,o',u,a1,up a2,a3⟩
     ·exact⟨c',oc,.own 0,z,by rw[aw (Nat.ne_of_lt h2),ax],hC⟩
    ·refine(I.hok b o e).stay (fun d v hd' z=>keep d v ?_ z) (fun d z=>up z) (fun d xs z=>up z) fun d o u z=>up z
     rcases hd' with rfl|hd'
     ·exact hbP
     ·rintro rfl;rw[hP]at hd';cases hd'
structure E5(X:Cx)(c P:Addr):Prop where
 code:X.env.code= .ref c
 hd:PySem.W.codeHdIn X.K c P=true
 tab:P∈X.base.tabs
structure kZ(X:Cx)(n:ju)(js:List Nat):Prop where
 len:n.free.length=js.length
 at_:∀(i:Nat) x j,n.free[i]? =some x->js[i]? =some j->X.N[j]? =some x/\X.env.kindOf x=some .cell/\X.fn x=false/\X.cw x=true/\(x,NameKind.free)∈n.scope.names
 all:∀y∈n.scope.names,y.2= .free->y.1∈n.free
def AT(σ :St)(js:List Nat)(cv:List V):Prop:=js.length=cv.length/\ ∀(i:Nat) j v,js[i]? =some j->cv[i]? =some v-> σ[j]? =some (some v)
theorem kZ.mem{n:ju}{js:List Nat}(T:kZ X n js){x:Str}(hx:x∈n.free):∃(i j:Nat),n.free[i]? =some x/\js[i]? =some j:=by
 obtain⟨i,hi,e⟩:=List.getElem_of_mem hx
 have:i<js.length:=by rw[<-T.len];exact hi
 exact⟨i,js[i],by rw[List.getElem?_eq_getElem hi,e],List.getElem?_eq_getElem this⟩
theorem l4{env:Env}{x:Str}{c:Addr}:∀{ns:List (Str×NameKind)} {cs:List (Str×Addr)},(clos env ns cs).lookup x=some c->(∃d,cs.lookup x=some d)\/(x,NameKind.free)∈ns
 |[],cs,h=> .inl ⟨c,h⟩
 | (m,k)::r,cs,h=>by
  have ih:=l4 (ns:=r) h
  rcases ih with⟨d,ih⟩|ih
  ·by_cases hk:(k == NameKind.free)=true
   ·rw[if_pos hk]at ih
    cases e:env.cells.lookup m with
    |none=>rw[e]at ih;exact .inl ⟨d,ih⟩
    |some a =>
     rw[e]at ih
     by_cases hx:x == m
     ·have hx':x=m:=by simpa using hx
      have hk':k=NameKind.free:=by simpa using hk
      subst hx' hk'
      exact .inr List.mem_cons_self
     ·have ih:List.lookup x ((m,a)::cs)=some d:=ih
      rw[List.lookup_cons,show(x == m)=false from by simpa using hx]at ih
      exact .inl ⟨d,ih⟩
   ·rw[if_neg hk]at ih;exact .inl ⟨d,ih⟩
  ·exact .inr (List.mem_cons_of_mem _ ih)
theorem AU{c P:Addr}{n:ju}{js:List Nat}{cv:List V}{nm qual:Str}{pos:Pos}{line:Nat}{Q:Value->Shared->Prop}(I:aA X pins σ H s)(m:E5 X c P)(T:kZ X n js)(hv:AT σ js cv)
  (h:∀q cl H' s',aA X pins σ H' s'->(∀a o,H a=some o->H' a=some o)->H q=none->fR n H' q cl->cj H' n.free cl cv->Q (.ref q) s') :
  wpAny .(E) X.A (makeFunction nm qual n.params n.body n.scope X.env [] [] [] pos line) Q X.xe s:=by
 have has:∀x∈n.free,(∃c,X.env.cells.lookup x=some c)/\X.fn x=false/\X.cw x=true:=fun x hx=>by
  obtain⟨i,j,e1,e2⟩:=T.mem hx
  obtain⟨_,k,f,w,_⟩:=T.at_ i x j e1 e2
  exact⟨I.ok.has x (.inl k),f,w⟩
 have hcl:closureFor n.scope X.env=pure (clos X.env n.scope.names []):=eS fun y hy hk=>(has y.1 (T.all y hy hk)).1
 obtain⟨H1,I1,s1,hs⟩:=aA.sealAll n.free I has
 -- the cells
 have cells:∀H2:Hp,(∀a o u,H1 a=some (.frz o u)->H2 a=some (.frz o u))->cj H2 n.free (clos X.env n.scope.names []) cv:=fun H2 k=>by
  refine⟨T.len.trans hv.1,fun i x v e1 e2=> ?_,fun x d e=> ?_,fun x y d e1 e2=> ?_⟩
  ·have hi:i<js.length:=by rw[hv.1];exact(List.getElem?_eq_some_iff.mp e2).1
   have e3:=List.getElem?_eq_getElem hi
   obtain⟨a1,a2,a3,a4,a5⟩:=T.at_ i x js[i] e1 e3
   obtain⟨d,ob,u,b1,b2⟩:=hs x (List.mem_of_getElem? e1)
   obtain⟨mm,_,hl⟩:=I1.loc
   obtain⟨uu,r,l⟩:=hl js[i] x v a1 (hv.2 i js[i] v e3 e2) (.inr (.inl a2))
   obtain⟨g,_⟩:=I1.hok d _ b2
   rcases l with⟨k1,_⟩|⟨_,d',b3,oo,b4,b5⟩
   ·rw[a2]at k1;cases k1
   ·rw[b1]at b3;cases b3
    rw[g]at b4;cases b4
    exact⟨d,ob,u,uu,i8 b1 a5,k _ _ _ b2,b5,r⟩
  ·rcases l4 e with⟨z,e'⟩|e'
   ·simp at e'
   ·exact T.all _ e' rfl
  ·have f1:=(i7 e1).resolve_left (by simp)
   have f2:=(i7 e2).resolve_left (by simp)
   exact I.ok.inj x y d f1 f2
 have hP:H1 P=some (.tbl 0):=I1.base.tbls P 0 (I.ok.tab P m.tab)
 obtain⟨ps,g1,ht,ent⟩:=I1.hok P _ hP
 have hg:s.heap.Ns mainGlobals X.mg:=I.mod.glob.keeps I.bk
 have C:PySem.W.CodeHd s.heap c P:=PySem.W.codeHd_of_K I.kIn m.hd
 have nP:∀{b:Addr} {o:Obj},X.base.get? b=some o->b≠P:=fun {b o} e z=>by
  have:=(I1.bs b o e).2
  rw[z,hP]at this;cases this
 have hgP:mainGlobals≠P:=by
  obtain⟨o,_,_,e,_⟩:=I.mod.glob
  exact nP e
 have hb:s.heap.BuiltinsAt X.mg P:=by
  obtain⟨bm,ob,a1,a2,a3,a4,a5,a6⟩:=I.mod.bmain
  refine⟨bm,ob,a1,a2,fun z=> ?_,nP a3,I.bk _ _ a3,a4,a5,a6⟩
  obtain⟨o,es,ep,e,d,_⟩:=I.mod.glob
  rw[z,e]at a3;cases a3;rw[d]at a6;cases a6
 have fz:∀{a:Addr} {o:HO},H a=some o->H1 a=some o:=fun e=>s1 _ _ e
 have fresh:∀{q:Addr},s.heap.objs.size<=q->H q=none:=fun e=>I.hok.fresh e
 have newC:∀(c':Addr) (h':Heap) (tk:Nat) (fo:Obj) (doc pm ct:Value),Heap.ExtBut P s.heap h'->s.heap.objs.size<=c'->c'<h'.objs.size->h'.CodeRec (.ref c') qual->h'.get? P=some (PySem.W.tabObj (ps ++ #[rawInt pos.line,rawInt pos.col,.ref c'])) ->
   fo.isFreed=false->fo.cls= .type "function"->fo.data= .func (E3 n nm qual (clos X.env n.scope.names []) doc pm (.ref c') ct)->Q (.ref h'.objs.size) { s with heap:=h'.push fo,toks:=tk }:=fun c' h' tk fo doc pm ct hx x1 x2 hrec hT f1 f2 f3=>by
  obtain⟨c2,oc,fv,t,z1,z2,z3,z4⟩:=hrec
  cases z1
  have hq:s.heap.objs.size<=h'.objs.size:=Nat.le_trans x1 (Nat.le_of_lt x2)
  have J:=I1.madeNew (tk:=tk) hP hx x1 x2 g1 ht hT z2 ⟨fv,qual,t,z3,z4⟩ f1
  have n1:=I1.hok.fresh x1
  have n2:=I1.hok.fresh hq
  have up:∀{b:Addr} {o:HO},H1 b=some o->upd (upd H1 c' (.frz oc (.own 0))) h'.objs.size (.frz fo (.own 0)) b=some o:=fun {b o} e=>by
   rw[aw (aL e n2),aw (aL e n1)];exact e
  refine h _ (clos X.env n.scope.names []) _ _ J (fun a o e=>up (fz e)) (fresh hq) ⟨fo,.own 0,nm,qual,doc,pm,c',ct,oc,.own 0,ax,f2,f3,by rw[aw (Nat.ne_of_lt x2),ax],fv,qual,t,z3,z4⟩ (cells _ fun a o u e=>up e)
 have hitC:∀(cv':Value) (h':Heap) (tk:Nat) (fo:Obj) (doc pm ct:Value),codeAmong pos ps.toList=some cv'->(∀b o,s.heap.get? b=some o->h'.get? b=some o)->s.heap.objs.size<=h'.objs.size ->
   fo.isFreed=false->fo.cls= .type "function"->fo.data= .func (E3 n nm qual (clos X.env n.scope.names []) doc pm cv' ct)->Q (.ref h'.objs.size) { s with heap:=h'.push fo,toks:=tk }:=fun cv' h' tk fo doc pm ct hf hk hq f1 f2 f3=>by
  obtain⟨c',oc,u,z1,z2,z3⟩:=ent pos cv' hf
  subst z1
  have n2:=I1.hok.fresh hq
  have J:=I1.laid (o:= .frz fo (.own 0)) (h':=h'.push fo) (t':=tk) (fun b o e=>Heap.get?_push_of_some _ (hk b o e)) hq (show bJ X.prog X.w _ _ _ (.frz fo (.own 0)) from by
   have:=Heap.get?_push_size h' f1
   exact⟨this,fo,this⟩)
  have up:∀{b:Addr} {o:HO},H1 b=some o->upd H1 h'.objs.size (.frz fo (.own 0)) b=some o:=fun {b o} e=>by rw[aw (aL e n2)];exact e
  exact h _ (clos X.env n.scope.names []) _ _ J (fun a o e=>up (fz e)) (fresh hq) ⟨fo,.own 0,nm,qual,doc,pm,c',ct,oc,u,ax,f2,f3,up z2,z3⟩ (cells _ fun a o u e=>up e)
 obtain⟨prm,bd,sc,fr⟩:=n
 cases bd with
 |stmts body =>
  cases hf:codeAmong pos ps.toList with
  |none=>exact PySem.W.makeFunction_K hcl I.ok.glob hg m.code C g1 ht hf hgP hb fun c' ct doc h' tk hx x1 x2 hrec hT=>newC c' h' tk _ doc _ ct hx x1 x2 hrec hT rfl rfl rfl
  |some cv'=>exact PySem.W.makeFunction_hit hcl I.ok.glob hg m.code C g1 ht hf hb fun ct doc h' tk hk hq=>hitC cv' h' tk _ doc _ ct hf hk hq rfl rfl rfl
 |expr body =>
  cases hf:codeAmong pos ps.toList with
  |none=>exact PySem.W.kla_makeFunction hcl I.ok.glob hg m.code C g1 ht hf hgP hb fun c' ct h' tk hx x1 x2 hrec hT=>newC c' h' tk _ .none _ ct hx x1 x2 hrec hT rfl rfl rfl
  |some cv'=>exact PySem.W.kla_makeFunctionHit hcl I.ok.glob hg m.code C g1 ht hf hb fun ct h' tk hk hq=>hitC cv' h' tk _ .none _ ct hf hk hq rfl rfl rfl
def JU(n:ju)(js:List Nat)(σ :St)(H:Hp)(Q:VK):Prop:=∃cv,AT σ js cv/\ ∀q cl H',(∀a o,H a=some o->H' a=some o)->H q=none->fR n H' q cl->cj H' n.free cl cv->Q (.ref q) H'
theorem AV{c P:Addr}{name:Str}{params:Arguments}{body:List Stmt}{scope:Scope}{fr:List Str}{js:List Nat}{pos:Pos}{i:Nat}(m:E5 X c P)(T:kZ X ⟨params,.stmts body,scope,fr⟩ js)(hN:X.N.Nodup)(hi:X.N[i]? =some name)(hx:mW X.env.scope name)
  (hd0:params.defaults=[]:=by rfl) (hk0:params.kw_defaults=[]:=by rfl) (ha:annTrees params none X.env=[]:=by rfl) (hf:X.fn name=true\/X.env.scope.names.lookup name=some .local:=by first|exact .inl rfl|exact .inr rfl|assumption) :
  PS X (.FunctionDef name params body [] none [] scope none name pos) (fun D σ H=>JU ⟨params,.stmts body,scope,fr⟩ js σ H fun v H'=>D.nx (σ.set i (some v)) H'):=by
 intro pins s σ H D I ⟨cv,hv,h⟩
 refine PySem.W.nestDef_K hd0 hk0 ha (AU (n:=⟨params,.stmts body,scope,fr⟩) I m T hv fun q cl H' s' I' sm hn hc hce=> ?_)
 exact gU I' hN hi hx (show aR (.ref q) (.ref q) from rfl) (fun s'' I''=>⟨_,H',I'',h q cl H' sm hn hc hce⟩) hf
end
end L2
end
noncomputable section
namespace DN
open PySem L2
inductive PV where
 |non|bl (b:Bool)|int (i:Int)|str (x:Str)
 |tup (xs:List PV)|lst (xs:List PV)|obj (k:Nat) (xs:List PV)|dic (ks:List Key) (xs:List PV)|clo (f:Nat) (xs:List PV)|dit (ks:List (List Key)) (xs:List PV)
inductive Rx (α :Type) where
 |ok (a: α)|bad|exc (c:Nat)
noncomputable def Rx.bind{α β :Type}:Rx α ->(α ->Rx β)->Rx β
 |.ok a,f=>f a
 |.bad,_=> .bad
 |.exc c,_=> .exc c
theorem am{α β :Type}{m:Rx α}{f: α ->Rx β}{b: β}(h:m.bind f= .ok b):∃a,m= .ok a/\f a= .ok b:=by
 cases m with
 |ok a=>exact⟨a,rfl,h⟩
 |bad=>cases h
 |exc c=>cases h
@[simp]theorem aq{α β :Type}(a: α)(f: α ->Rx β):(Rx.ok a).bind f=f a:=rfl
@[simp]theorem E6{α β :Type}(f: α ->Rx β):(Rx.bad:Rx α).bind f= .bad:=rfl
@[simp]theorem E7{α β :Type}(c:Nat)(f: α ->Rx β):(Rx.exc c:Rx α).bind f= .exc c:=rfl
structure Pg where
 cA:Nat->Addr
 fN:Nat->List Str
 nF:Nat->ju
abbrev Av:=Addr->Prop
def E8(K:Fg)(H:Hp)(A:Av)(a:Addr)(vs:List V):Prop :=
 (H a=some (.lst vs)/\ ¬A a)\/(∃o,H a=some (.frz o (.lst vs))) \/
  ∃(o:Obj) (its:Array Value) (n:Nat),K.lookup a=some o/\o.cls= .type "list"/\o.dict=none/\o.data= .seq its n/\its.size<=sizeLine/\aM vs its.toList
theorem E8.sq{K:Fg}{H:Hp}{A:Av}{a:Addr}{vs:List V}(h:E8 K H A a vs):eI K H a vs:=by
 rcases h with⟨h,_⟩|⟨o,h⟩|h
 ·exact .inl (.inl h)
 ·exact .inl (.inr ⟨o,h⟩)
 ·exact .inr h
mutual
noncomputable def dB(K:Fg)(G:Pg)(H:Hp)(A:Av):PV->V->Prop
 |.non,v=>v= .non
 |.bl b,v=>v= .bl b
 |.int i,v=>v= .int i
 |.str x,v=>v= .str x
 |.tup xs,v=>∃a vs,v= .ref a/\H a=some (.tup vs)/\aC K G H A xs vs
 |.lst xs,v=>∃a vs,v= .ref a/\E8 K H A a vs/\aC K G H A xs vs
 |.obj k xs,v=>∃a dx vs,v= .ref a/\H a=some (.ins (G.cA k) dx ((G.fN k).zip vs))/\(G.fN k).length=vs.length/\ ¬A a/\aC K G H A xs vs
 |.dic ks xs,v=>∃a vs ep,v= .ref a/\H a=some (.dK (ks.zip vs) ep)/\ks.length=vs.length/\ ¬A a/\aC K G H A xs vs
 |.dit ks xs,v=>∃a vs ep,v= .ref a/\H a=some (.dT (ks.zip vs) ep)/\ks.length=vs.length/\ ¬A a/\aC K G H A xs vs
 |.clo f xs,v=>∃q cl vs,v= .ref q/\fR (G.nF f) H q cl/\cj H (G.nF f).free cl vs/\aC K G H A xs vs
noncomputable def aC(K:Fg)(G:Pg)(H:Hp)(A:Av):List PV->List V->Prop
 |[],vs=>vs=[]
 |x::xs,vs=>∃v r,vs=v::r/\dB K G H A x v/\aC K G H A xs r
end
abbrev Mt(o:HO):Prop:=(∀xs,o ≠ .tup xs)/\ ∀o' u,o ≠ .frz o' u
structure Kp(K:Fg)(G:Pg)(H:Hp)(A:Av)(H':Hp)(A':Av):Prop where
 rd:∀a o,H a=some o->¬A a->H' a=some o
 tp:∀a vs,H a=some (.tup vs)->H' a=some (.tup vs)
 fz:∀a o u,H a=some (.frz o u)->H' a=some (.frz o u)
 av:∀a,H a≠none->A' a->A a
noncomputable section
variable{K:Fg}{G:Pg}{H H' H2:Hp}{A A' A2:Av}
theorem Kp.rdL(k:Kp K G H A H' A'){a:Addr}{vs:List V}(h:E8 K H A a vs):E8 K H' A' a vs:=by
 rcases h with⟨h,n⟩|⟨o,h⟩|h
 ·exact .inl ⟨k.rd _ _ h n,fun z=>n (k.av _ (by rw[h];simp) z)⟩
 ·exact .inr (.inl ⟨o,k.fz _ _ _ h⟩)
 ·exact .inr (.inr h)
mutual
theorem Kp.rep(k:Kp K G H A H' A'):∀{w:PV} {v:V},dB K G H A w v->dB K G H' A' w v
 |.non,_,h=>h
 |.bl _,_,h=>h
 |.int _,_,h=>h
 |.str _,_,h=>h
 |.tup xs,v,h=>by
  obtain⟨a,vs,e,s,r⟩:=h
  exact⟨a,vs,e,k.tp _ _ s,Kp.reps k r⟩
 |.lst xs,v,h=>by
  obtain⟨a,vs,e,s,r⟩:=h
  exact⟨a,vs,e,k.rdL s,Kp.reps k r⟩
 |.obj c xs,v,h=>by
  obtain⟨a,dx,vs,e,s,l,n,r⟩:=h
  exact⟨a,dx,vs,e,k.rd _ _ s n,l,fun z=>n (k.av _ (by rw[s];simp) z),Kp.reps k r⟩
 |.dic ks xs,v,h=>by
  obtain⟨a,vs,ep,e,s,l,n,r⟩:=h
  exact⟨a,vs,ep,e,k.rd _ _ s n,l,fun z=>n (k.av _ (by rw[s];simp) z),Kp.reps k r⟩
 |.dit ks xs,v,h=>by
  obtain⟨a,vs,ep,e,s,l,n,r⟩:=h
  exact⟨a,vs,ep,e,k.rd _ _ s n,l,fun z=>n (k.av _ (by rw[s];simp) z),Kp.reps k r⟩
 |.clo f xs,v,h=>by
  obtain⟨q,cl,vs,e,hc,hce,r⟩:=h
  exact⟨q,cl,vs,e,hc.keep k.fz,hce.keep k.fz,Kp.reps k r⟩
theorem Kp.reps(k:Kp K G H A H' A'):∀{ws:List PV} {vs:List V},aC K G H A ws vs->aC K G H' A' ws vs
 |[],vs,h=>h
 |w::ws,vs,h=>by
  obtain⟨v,r,e,h1,h2⟩:=h
  exact⟨v,r,e,Kp.rep k h1,Kp.reps k h2⟩
end
theorem Kp.of_same(s:Same H H'):Kp K G H A H' A:=⟨fun a o h _=>s _ _ h,fun a vs h=>s _ _ h,fun a o u h=>s _ _ h,fun a _ h=>h⟩
theorem Kp.weak(h:∀a,A' a->A a):Kp K G H A H A':=⟨fun a o h _=>h,fun a vs h=>h,fun a o u h=>h,fun a _ z=>h a z⟩
theorem Kp.trans(k:Kp K G H A H' A')(k2:Kp K G H' A' H2 A2):Kp K G H A H2 A2 :=
 ⟨fun a o h n=>k2.rd _ _ (k.rd _ _ h n) fun z=>n (k.av _ (by rw[h];simp) z),fun a vs h=>k2.tp _ _ (k.tp _ _ h),fun a o u h=>k2.fz _ _ _ (k.fz _ _ _ h),
  fun a n z=>by
   by_cases q:A a
   ·exact q
   ·cases e:H a with
    |none=>exact absurd e n
    |some o=>exact k.av a n (k2.av a (by rw[k.rd _ _ e q];simp) z)⟩
theorem Kp.own{p:Addr}{o u:HO}(hA:A p)(hp:H p=some o)(m:Mt o):Kp K G H A (upd H p u) A :=
 ⟨fun a x h n=>by
   rw[aw (by intro z;subst z;exact n hA)];exact h,
  fun a vs h=>by
   rw[aw (by intro z;subst z;rw[hp]at h;exact m.1 _ (Option.some.inj h))];exact h,
  fun a o' u' h=>by
   rw[aw (by intro z;subst z;rw[hp]at h;exact m.2 _ _ (Option.some.inj h))];exact h,
  fun a _ h=>h⟩
theorem Kp.take{p:Addr}(hp:H p=none)(hs:Same H H')(h:∀a,A' a->a=p\/A a):Kp K G H A H' A' :=
 ⟨fun a o h _=>hs _ _ h,fun a vs h=>hs _ _ h,fun a o u h=>hs _ _ h,fun a n z=>by
  rcases h a z with e|e
  ·subst e;exact absurd hp n
  ·exact e⟩
theorem dB.same{w:PV}{v:V}(h:dB K G H A w v)(s:Same H H'):dB K G H' A w v:=(Kp.of_same s).rep h
theorem aC.same{ws:List PV}{vs:List V}(h:aC K G H A ws vs)(s:Same H H'):aC K G H' A ws vs:=(Kp.of_same s).reps h
theorem aC.len:∀{ws:List PV} {vs:List V},aC K G H A ws vs->ws.length=vs.length
 |[],vs,h=>by have h:vs=[]:=h;rw[h];rfl
 |w::ws,vs,h=>by
  obtain⟨v,r,e,_,h2⟩:=h
  subst e
  rw[List.length_cons,List.length_cons,aC.len h2]
theorem aC.get:∀{ws:List PV} {vs:List V} {i:Nat} {w:PV},aC K G H A ws vs->ws[i]? =some w->∃v,vs[i]? =some v/\dB K G H A w v
 |[],vs,i,w,h,e=>by simp at e
 |x::ws,vs,0,w,h,e=>by
  obtain⟨v,r,e',h1,h2⟩:=h
  subst e'
  simp at e;subst e
  exact⟨v,by simp,h1⟩
 |x::ws,vs,i+1,w,h,e=>by
  obtain⟨v,r,e',h1,h2⟩:=h
  subst e'
  obtain⟨u,q1,q2⟩:=aC.get (i:=i) h2 (by simpa using e)
  exact⟨u,by simpa using q1,q2⟩
theorem aC.app:∀{ws ws':List PV} {vs vs':List V},aC K G H A ws vs->aC K G H A ws' vs'->aC K G H A (ws++ws') (vs++vs')
 |[],ws',vs,vs',h,h'=>by have h:vs=[]:=h;subst h;exact h'
 |w::ws,ws',vs,vs',h,h'=>by
  obtain⟨v,r,e,h1,h2⟩:=h
  subst e
  exact⟨v,r++vs',rfl,h1,aC.app h2 h'⟩
theorem aC.one{w:PV}{v:V}(h:dB K G H A w v):aC K G H A [w] [v]:=⟨v,[],rfl,h,rfl⟩
theorem aC.snoc{ws:List PV}{vs:List V}{w:PV}{v:V}(h:aC K G H A ws vs)(h':dB K G H A w v):aC K G H A (ws++[w]) (vs++[v]):=h.app (.one h')
theorem aC.take:∀{ws:List PV} {vs:List V} (n:Nat),aC K G H A ws vs->aC K G H A (ws.take n) (vs.take n)
 |ws,vs,0,h=>by simp[aC]
 |[],vs,n+1,h=>by have h:vs=[]:=h;subst h;rfl
 |w::ws,vs,n+1,h=>by
  obtain⟨v,r,e,h1,h2⟩:=h
  subst e
  exact⟨v,r.take n,rfl,h1,aC.take n h2⟩
theorem aC.drop:∀{ws:List PV} {vs:List V} (n:Nat),aC K G H A ws vs->aC K G H A (ws.drop n) (vs.drop n)
 |ws,vs,0,h=>by simpa using h
 |[],vs,n+1,h=>by have h:vs=[]:=h;subst h;rfl
 |w::ws,vs,n+1,h=>by
  obtain⟨v,r,e,h1,h2⟩:=h
  subst e
  exact aC.drop n h2
theorem aC.set:∀{ws:List PV} {vs:List V} {w:PV} {v:V} (i:Nat),aC K G H A ws vs->dB K G H A w v->aC K G H A (ws.set i w) (vs.set i v)
 |[],vs,w,v,i,h,h'=>by have h:vs=[]:=h;subst h;rfl
 |x::ws,vs,w,v,0,h,h'=>by
  obtain⟨u,r,e,h1,h2⟩:=h
  subst e
  exact⟨v,r,rfl,h',h2⟩
 |x::ws,vs,w,v,i+1,h,h'=>by
  obtain⟨u,r,e,h1,h2⟩:=h
  subst e
  exact⟨u,r.set i v,rfl,h1,aC.set i h2 h'⟩
theorem aC.ints:∀(ns:List Int),aC K G H A .(Ae) (ns.map V.int)
 |[]=>rfl
 |n::ns=>⟨_,_,rfl,rfl,aC.ints ns⟩
end
inductive Ow where
 |lst (xs:List PV)|dic (ks:List Key) (xs:List PV)|obj (k:Nat) (xs:List PV)|dit (ks:List (List Key)) (xs:List PV)
inductive Sl where
 |no|v (w:PV)|own (o:Ow)|bor (w:PV)|ino (o:Ow)|ini (k:Nat) (xs:List PV)
  |dol (ks:List Key) (xss:List (List PV))|als (d j:Nat)
abbrev aX:=List Sl
noncomputable def Ow.pv:Ow->PV
 |.lst xs=> .lst xs
 |.dic ks xs=> .dic ks xs
 |.obj k xs=> .obj k xs
 |.dit ks xs=> .dit ks xs
def fE(K:Fg)(G:Pg)(H:Hp)(A:Av):Ow->Addr->Prop
 |.lst xs,p=>∃vs,H p=some (.lst vs)/\aC K G H A xs vs
 |.dic ks xs,p=>∃vs ep,H p=some (.dK (ks.zip vs) ep)/\ks.length=vs.length/\aC K G H A xs vs
 |.dit ks xs,p=>∃vs ep,H p=some (.dT (ks.zip vs) ep)/\ks.length=vs.length/\aC K G H A xs vs
 |.obj k xs,p=>∃dx vs,H p=some (.ins (G.cA k) dx ((G.fN k).zip vs))/\(G.fN k).length=vs.length/\aC K G H A xs vs
def yd(K:Fg)(G:Pg)(H:Hp)(A:Av)(k:Nat)(xs:List PV)(p:Addr):Prop:=∃dx vs,H p=some (.ins (G.cA k) dx (((G.fN k).take xs.length).zip vs))/\xs.length<=(G.fN k).length/\aC K G H A xs vs
structure Fr where
 H0:Hp
 A0:Av
 B0:Av
 lx:Option Addr
def jL(c:Fr)(H:Hp):Prop:=∀a o,c.H0 a=some o->c.lx≠some a->H a=some o
theorem jL.trans{c:Fr}{H H':Hp}(h:jL c H)(s:Same H H'):jL c H':=fun a o e n=>s _ _ (h a o e n)
theorem jL.free{c:Fr}{H:Hp}{p:Addr}(h:jL c H)(hp:H p=none)(n:c.lx≠some p):c.H0 p=none:=by
 cases e:c.H0 p with
 |none=>rfl
 |some o=>rw[h p o e n]at hp;cases hp
theorem jL.same{c:Fr}{H:Hp}(h:jL c H)(n:c.lx=none):Same c.H0 H:=fun a o e=>h a o e (by rw[n];simp)
theorem jL.of{c:Fr}{H:Hp}(s:Same c.H0 H):jL c H:=fun a o e _=>s a o e
abbrev gD:=Nat->Option Addr
def av(c:Fr)(ow:gD):Av:=fun a=>c.A0 a\/ ∃i,ow i=some a
def bU(K:Fg)(G:Pg)(H:Hp)(A:Av)(w:PV)(v:V):Prop:=dB K G H A w v\/ ∃x p,w=x.pv/\v= .ref p/\fE K G H A x p
def vx(n d j:Nat):Nat:=n+(1000*d+j)
def nB(K:Fg)(G:Pg)(c:Fr)(n:Nat)(H:Hp)(A:Av)(ow:gD)(i:Nat):Sl->Option V->Prop
 |.no,_=>ow i=none
 |.v w,o=>ow i=none/\ ∃v,o=some v/\dB K G H A w v
 |.own x,o=>∃p,ow i=some p/\o=some (.ref p)/\fE K G H A x p
 |.bor w,o=>ow i=none/\ ∃v,o=some v/\(dB K G H A w v\/ ∃x p,w=x.pv/\v= .ref p/\fE K G H A x p/\c.B0 p)
 |.ino x,o=>ow i=none/\i=0/\ ∃p,o=some (.ref p)/\c.lx=some p/\fE K G H A x p
 |.ini k xs,o=>ow i=none/\i=0/\ ∃p,o=some (.ref p)/\c.lx=some p/\yd K G H A k xs p
 |.dol ks xss,o=>∃(p:Addr) (qs:List Addr),ow i=some p/\o=some (.ref p)/\(∃ep,H p=some (.dK (ks.zip (qs.map V.ref)) ep))/\ks.length=qs.length/\xss.length=qs.length/\qs.length<=1000/\ ∀j q xs,qs[j]? =some q->xss[j]? =some xs->ow (vx n i j)=some q/\fE K G H A (.lst xs) q
 |.als d j,o=>ow i=none/\ ∃q,o=some (.ref q)/\ow (vx n d j)=some q
structure bf(K:Fg)(G:Pg)(c:Fr)(H:Hp)(ow:gD)(ps:aX)(σ :St):Prop where
 len:ps.length= σ.length
 same:jL c H
 lent:∀p,c.lx=some p->c.A0 p/\H p≠none
 a0:∀a,c.A0 a->c.H0 a≠none
 b0:∀a,c.B0 a->c.H0 a≠none/\c.lx≠some a
 fresh:∀i p,ow i=some p->c.H0 p=none
 inj:∀i j p,ow i=some p->ow j=some p->i=j
 out:∀i p,ow i=some p->i<ps.length\/H p≠none
 slot:∀i s o,ps[i]? =some s-> σ[i]? =some o->nB K G c ps.length H (av c ow) ow i s o
noncomputable section
variable{K:Fg}{G:Pg}{H H':Hp}{A A':Av}{c:Fr}{ow:gD}{ps:aX}{σ :St}
theorem fE.at{x:Ow}{p:Addr}(h:fE K G H A x p):∃o,H p=some o/\Mt o:=by
 cases x with
 |lst xs=>obtain⟨vs,e,_⟩:=h;exact⟨_,e,And.intro (fun _ z=>by cases z) (fun _ _ z=>by cases z)⟩
 |dic ks xs=>obtain⟨vs,ep,e,_⟩:=h;exact⟨_,e,And.intro (fun _ z=>by cases z) (fun _ _ z=>by cases z)⟩
 |dit ks xs=>obtain⟨vs,ep,e,_⟩:=h;exact⟨_,e,And.intro (fun _ z=>by cases z) (fun _ _ z=>by cases z)⟩
 |obj k xs=>obtain⟨dx,vs,e,_⟩:=h;exact⟨_,e,And.intro (fun _ z=>by cases z) (fun _ _ z=>by cases z)⟩
theorem yd.keep{k:Nat}{xs:List PV}{p:Addr}(h:yd K G H A k xs p)(kp:Kp K G H A H' A')(e:H' p=H p):yd K G H' A' k xs p:=by
 obtain⟨dx,vs,q,l,r⟩:=h;exact⟨dx,vs,by rw[e];exact q,l,kp.reps r⟩
theorem fE.keep{x:Ow}{p:Addr}(h:fE K G H A x p)(k:Kp K G H A H' A')(e:H' p=H p):fE K G H' A' x p:=by
 cases x with
 |lst xs=>obtain⟨vs,q,r⟩:=h;exact⟨vs,by rw[e];exact q,k.reps r⟩
 |dic ks xs=>obtain⟨vs,ep,q,l,r⟩:=h;exact⟨vs,ep,by rw[e];exact q,l,k.reps r⟩
 |dit ks xs=>obtain⟨vs,ep,q,l,r⟩:=h;exact⟨vs,ep,by rw[e];exact q,l,k.reps r⟩
 |obj c xs=>obtain⟨dx,vs,q,l,r⟩:=h;exact⟨dx,vs,by rw[e];exact q,l,k.reps r⟩
theorem fE.freeze{x:Ow}{p:Addr}(h:fE K G H A x p)(n:¬A p):dB K G H A x.pv (.ref p):=by
 cases x with
 |lst xs=>obtain⟨vs,q,r⟩:=h;exact⟨p,vs,rfl,.inl ⟨q,n⟩,r⟩
 |dic ks xs=>obtain⟨vs,ep,q,l,r⟩:=h;exact⟨p,vs,ep,rfl,q,l,n,r⟩
 |dit ks xs=>obtain⟨vs,ep,q,l,r⟩:=h;exact⟨p,vs,ep,rfl,q,l,n,r⟩
 |obj c xs=>obtain⟨dx,vs,q,l,r⟩:=h;exact⟨p,dx,vs,rfl,q,l,n,r⟩
theorem bf.get(R:bf K G c H ow ps σ){i:Nat}{s:Sl}(e:ps[i]? =some s):∃o, σ[i]? =some o/\nB K G c ps.length H (av c ow) ow i s o:=by
 have hi:i<ps.length:=(List.getElem?_eq_some_iff.mp e).1
 have hi':i<σ.length:=by rw[<-R.len];exact hi
 exact⟨σ[i],List.getElem?_eq_getElem hi',R.slot i s _ e (List.getElem?_eq_getElem hi')⟩
theorem bf.getV(R:bf K G c H ow ps σ){i:Nat}{w:PV}(e:ps[i]? =some (.v w)):∃v, σ[i]? =some (some v)/\dB K G H (av c ow) w v:=by
 obtain⟨o,eo,_,v,rfl,r⟩:=R.get e
 exact⟨v,eo,r⟩
theorem bf.getO(R:bf K G c H ow ps σ){i:Nat}{x:Ow}(e:ps[i]? =some (.own x)):∃p,ow i=some p/\ σ[i]? =some (some (.ref p))/\fE K G H (av c ow) x p:=by
 obtain⟨o,eo,p,e1,rfl,r⟩:=R.get e
 exact⟨p,e1,eo,r⟩
theorem bf.used(R:bf K G c H ow ps σ):∀a,av c ow a->H a≠none:=by
 intro a h
 rcases h with h|⟨i,h⟩
 ·by_cases hl:c.lx=some a
  ·exact(R.lent a hl).2
  ·cases e:c.H0 a with
   |none=>exact absurd e (R.a0 a h)
   |some o=>rw[R.same _ _ e hl];simp
 ·rcases R.out i a h with hi|hv
  case inr=>exact hv
  obtain⟨o,eo,q⟩:=R.get (List.getElem?_eq_getElem hi)
  cases e:ps[i] with
  |no=>rw[e]at q;rw[show ow i=none from q]at h;cases h
  |v w=>rw[e]at q;rw[q.1]at h;cases h
  |bor w=>rw[e]at q;rw[q.1]at h;cases h
  |ino x=>rw[e]at q;rw[q.1]at h;cases h
  |ini k xs=>rw[e]at q;rw[q.1]at h;cases h
  |als d j=>rw[e]at q;rw[q.1]at h;cases h
  |dol ks xss =>
   rw[e]at q
   obtain⟨p,qs,e1,_,⟨_,hp⟩,_⟩:=q
   rw[e1]at h;cases h
   rw[hp];simp
  |own x =>
   rw[e]at q
   obtain⟨p,e1,_,r⟩:=q
   rw[e1]at h;cases h
   obtain⟨o',e',_⟩:=r.at
   rw[e'];simp
theorem nD{w:PV}{v:V}{A A':Av}(b0:∀a,c.B0 a->c.H0 a≠none/\c.lx≠some a)(s:jL c H)(s':jL c H')(k:Kp K G H A H' A')(h:dB K G H A w v\/ ∃x p,w=x.pv/\v= .ref p/\fE K G H A x p/\c.B0 p) :
  dB K G H' A' w v\/ ∃x p,w=x.pv/\v= .ref p/\fE K G H' A' x p/\c.B0 p:=by
 rcases h with h|⟨x,p,e1,e2,r,n⟩
 ·exact .inl (k.rep h)
 ·refine .inr ⟨x,p,e1,e2,r.keep k ?_,n⟩
  cases q:c.H0 p with
  |none=>exact absurd q (b0 p n).1
  |some o=>rw[s _ _ q (b0 p n).2,s' _ _ q (b0 p n).2]
theorem nB.keep{n i:Nat}{x:Sl}{o:Option V}{ow':gD}{A A':Av}(q:nB K G c n H A ow i x o)(b0:∀a,c.B0 a->c.H0 a≠none/\c.lx≠some a)(s:jL c H)(s':jL c H')(k:Kp K G H A H' A')(hr:ow' i=ow i)(hv:∀d j q,ow (vx n d j)=some q->ow' (vx n d j)=some q)
  (ho:∀p,ow i=some p->H' p=H p) (hw:∀j p,j<1000->ow (vx n i j)=some p->H' p=H p) (el:∀p,c.lx=some p->H' p=H p):nB K G c n H' A' ow' i x o:=by
 cases x with
 |no=>show ow' i=none;rw[hr];exact q
 |v w=>obtain⟨z,v,e3,r⟩:=q;exact⟨by rw[hr];exact z,v,e3,k.rep r⟩
 |own y=>obtain⟨p,e3,e4,r⟩:=q;exact⟨p,by rw[hr];exact e3,e4,r.keep k (ho p e3)⟩
 |bor w=>obtain⟨z,v,e3,r⟩:=q;exact⟨by rw[hr];exact z,v,e3,nD b0 s s' k r⟩
 |ino y=>obtain⟨z,z2,p,e3,e4,r⟩:=q;exact⟨by rw[hr];exact z,z2,p,e3,e4,r.keep k (el p e4)⟩
 |ini c xs=>obtain⟨z,z2,p,e3,e4,r⟩:=q;exact⟨by rw[hr];exact z,z2,p,e3,e4,r.keep k (el p e4)⟩
 |dol ks xss =>
  obtain⟨p,qs,e1,e2,hp,l1,l2,l3,h⟩:=q
  refine⟨p,qs,by rw[hr];exact e1,e2,by rw[ho p e1];exact hp,l1,l2,l3,fun j q xs h1 h2=> ?_⟩
  obtain⟨h3,h4⟩:=h j q xs h1 h2
  exact⟨hv i j q h3,h4.keep k (hw j q (Nat.lt_of_lt_of_le (List.getElem?_eq_some_iff.mp h1).1 l3) h3)⟩
 |als d j=>obtain⟨z,q',e3,e4⟩:=q;exact⟨by rw[hr];exact z,q',e3,hv d j q' e4⟩
theorem bf.keep(R:bf K G c H ow ps σ)(s:jL c H')(k:Kp K G H (av c ow) H' (av c ow))(e:∀i p,ow i=some p->H' p=H p)(el:∀p,c.lx=some p->H' p=H p):bf K G c H' ow ps σ :=by
 refine⟨R.len,s,fun p h=>⟨(R.lent p h).1,by rw[el p h];exact(R.lent p h).2⟩,R.a0,R.b0,R.fresh,R.inj,fun i p h=> ?_,fun i x o e1 e2=> ?_⟩
 ·rcases R.out i p h with q|q
  ·exact .inl q
  ·right;rw[e i p h];exact q
 ·exact(R.slot i x o e1 e2).keep R.b0 R.same s k rfl (fun _ _ _ h=>h) (fun p h=>e i p h) (fun j p _ h=>e _ p h) el
theorem bf.grow(R:bf K G c H ow ps σ)(s:Same H H'):bf K G c H' ow ps σ :=
 R.keep (R.same.trans s) (Kp.of_same s) (fun i p e=>by
  cases q:H p with
  |none=>exact absurd q (R.used p (.inr ⟨i,e⟩))
  |some o=>exact s _ _ q) fun p e=>by
  cases q:H p with
  |none=>exact absurd q (R.lent p e).2
  |some o=>exact s _ _ q
noncomputable def dO(n:Nat)(ow:gD)(i:Nat):gD:=fun j=>if j=i/\i<n then none else ow j
noncomputable def l5(ow:gD)(i:Nat)(p:Addr):gD:=fun j=>if j=i then some p else ow j
theorem g7{n i:Nat}:∀a,av c (dO n ow i) a->av c ow a:=by
 intro a h
 rcases h with h|⟨j,h⟩
 ·exact .inl h
 ·unfold dO at h
  split at h
  ·cases h
  ·exact .inr ⟨j,h⟩
theorem uL{n i:Nat}:∀d j q,ow (vx n d j)=some q->dO n ow i (vx n d j)=some q:=by
 intro d j q h
 unfold dO
 rw[if_neg (by rintro⟨z,hi⟩;unfold vx at z;omega)]
 exact h
theorem bf.setV(R:bf K G c H ow ps σ){i:Nat}{w:PV}{v:V}(r:dB K G H (av c ow) w v):bf K G c H (dO ps.length ow i) (ps.set i (.v w)) (σ.set i (some v)):=by
 have k:Kp K G H (av c ow) H (av c (dO ps.length ow i)):=Kp.weak g7
 refine⟨by simp[R.len],R.same,R.lent,R.a0,R.b0,fun j p e=> ?_,fun j j' p e e'=> ?_,fun j p h=> ?_,fun j x o e1 e2=> ?_⟩
 ·unfold dO at e;split at e
  ·cases e
  ·exact R.fresh j p e
 ·unfold dO at e e'
  split at e
  ·cases e
  ·split at e'
   ·cases e'
   ·exact R.inj j j' p e e'
 ·unfold dO at h;split at h
  ·cases h
  ·rw[List.length_set];exact R.out j p h
 ·rw[List.length_set]
  by_cases hj:j=i
  ·subst hj
   have hl:j<ps.length:=by
    have:=(List.getElem?_eq_some_iff.mp e1).1
    simpa using this
   rw[List.getElem?_set_self hl]at e1
   rw[List.getElem?_set_self (by rw[<-R.len];exact hl)]at e2
   cases e1;cases e2
   exact⟨by unfold dO;rw[if_pos ⟨rfl,hl⟩],v,rfl,k.rep r⟩
  ·rw[List.getElem?_set_ne (fun z=>hj z.symm)]at e1 e2
   have eo:dO ps.length ow i j=ow j:=by unfold dO;rw[if_neg (fun z=>hj z.1)]
   exact(R.slot j x o e1 e2).keep R.b0 R.same R.same k eo uL .(G) (fun _ _ _ _=>rfl) .(G)
theorem E9{n i:Nat}{p:Addr}(hi:i<n):∀d j q,ow (vx n d j)=some q->l5 ow i p (vx n d j)=some q:=by
 intro d j q h
 unfold l5
 rw[if_neg (by intro z;unfold vx at z;omega)]
 exact h
theorem bf.setN(R:bf K G c H ow ps σ){i:Nat}{x:Sl}{p:Addr}(hi:i<ps.length)(hs:Same H H')(hp:H p=none)(hp':H' p≠none)(r:nB K G c ps.length H' (av c (l5 ow i p)) (l5 ow i p) i x (some (.ref p))) :
  bf K G c H' (l5 ow i p) (ps.set i x) (σ.set i (some (.ref p))):=by
 have hav:∀a,av c (l5 ow i p) a->av c ow a\/a=p:=by
  intro a h
  rcases h with h|⟨j,h⟩
  ·exact .inl (.inl h)
  ·unfold l5 at h
   split at h
   ·cases h;exact .inr rfl
   ·exact .inl (.inr ⟨j,h⟩)
 have k:Kp K G H (av c ow) H' (av c (l5 ow i p)):=Kp.take hp hs fun a h=>(hav a h).symm
 have nl:c.lx≠some p:=fun z=>(R.lent p z).2 hp
 have us:∀j q,ow j=some q->H' q=H q:=fun j q e=>by
  cases h:H q with
  |none=>exact absurd h (R.used q (.inr ⟨j,e⟩))
  |some o=>exact hs _ _ h
 refine⟨by simp[R.len],R.same.trans hs,fun q h=>⟨(R.lent q h).1,fun z=>(R.lent q h).2 (hs.free z)⟩,R.a0,R.b0,fun j q e=> ?_,fun j j' q e e'=> ?_,fun j q h=> ?_,fun j y o e1 e2=> ?_⟩
 ·unfold l5 at e;split at e
  ·cases e;exact R.same.free hp nl
  ·exact R.fresh j q e
 ·unfold l5 at e e'
  split at e
  ·cases e
   split at e'
   ·rename_i h1 h2;rw[h1,h2]
   ·exact absurd hp (R.used _ (.inr ⟨j',e'⟩))
  ·split at e'
   ·cases e'
    exact absurd hp (R.used _ (.inr ⟨j,e⟩))
   ·exact R.inj j j' q e e'
 ·unfold l5 at h;split at h
  ·rename_i z;cases h;left;rw[List.length_set,z];exact hi
  ·rw[List.length_set]
   rcases R.out j q h with z|z
   ·exact .inl z
   ·right;rw[us j q h];exact z
 ·rw[List.length_set]
  by_cases hj:j=i
  ·subst hj
   rw[List.getElem?_set_self hi]at e1
   rw[List.getElem?_set_self (by rw[<-R.len];exact hi)]at e2
   cases e1;cases e2
   exact r
  ·rw[List.getElem?_set_ne (fun z=>hj z.symm)]at e1 e2
   have eo:l5 ow i p j=ow j:=by unfold l5;rw[if_neg hj]
   refine(R.slot j y o e1 e2).keep R.b0 R.same (R.same.trans hs) k eo (E9 hi) (fun q h=>us j q h) (fun _ q _ h=>us _ q h) (fun q h=> ?_)
   cases z:H q with
   |none=>exact absurd z (R.lent q h).2
   |some o=>exact hs _ _ z
theorem bf.setO(R:bf K G c H ow ps σ){i:Nat}{x:Ow}{p:Addr}(hi:i<ps.length)(hs:Same H H')(hp:H p=none)(r:fE K G H' (fun a=>av c ow a\/a=p) x p) :
  bf K G c H' (l5 ow i p) (ps.set i (.own x)) (σ.set i (some (.ref p))):=by
 have hav:∀a,av c (l5 ow i p) a->av c ow a\/a=p:=by
  intro a h
  rcases h with h|⟨j,h⟩
  ·exact .inl (.inl h)
  ·unfold l5 at h
   split at h
   ·cases h;exact .inr rfl
   ·exact .inl (.inr ⟨j,h⟩)
 have k2:Kp K G H' (fun a=>av c ow a\/a=p) H' (av c (l5 ow i p)):=Kp.weak hav
 obtain⟨o,ho,_⟩:=r.at
 exact R.setN hi hs hp (by rw[ho];simp) ⟨p,by unfold l5;rw[if_pos rfl],rfl,r.keep k2 rfl⟩
theorem bf.chg(R:bf K G c H ow ps σ){i:Nat}{x y:Ow}{p:Addr}{u:HO}(e:ps[i]? =some (.own x))(ep:ow i=some p)(r:fE K G (upd H p u) (av c ow) y p) :
  bf K G c (upd H p u) ow (ps.set i (.own y)) σ /\Kp K G H (av c ow) (upd H p u) (av c ow):=by
 obtain⟨p',e1,e2,r1⟩:=R.getO e
 rw[ep]at e1;cases e1
 obtain⟨o,eo,m⟩:=r1.at
 have k:Kp K G H (av c ow) (upd H p u) (av c ow):=Kp.own (.inr ⟨i,ep⟩) eo m
 have sm:jL c (upd H p u):=fun b o' h n=>by
  rw[aw (by intro z;subst z;rw[R.fresh i b ep]at h;cases h)]
  exact R.same _ _ h n
 have npl:∀q,c.lx=some q->q≠p:=fun q h z=>by
  subst z
  exact absurd (R.fresh i q ep) (R.a0 q (R.lent q h).1)
 have us:∀j q,j≠i->ow j=some q->upd H p u q=H q:=fun j q hj h=>aw (by intro z;subst z;exact hj (R.inj j i q h ep))
 have hl:i<ps.length:=(List.getElem?_eq_some_iff.mp e).1
 refine⟨⟨by simp[R.len],sm,fun q h=>⟨(R.lent q h).1,by rw[aw (npl q h)];exact(R.lent q h).2⟩,R.a0,R.b0,R.fresh,R.inj,fun j q h=> ?_,fun j z o' h1 h2=> ?_⟩,k⟩
 ·rw[List.length_set]
  by_cases hj:j=i
  ·left;rw[hj];exact hl
  ·rcases R.out j q h with z|z
   ·exact .inl z
   ·right;rw[us j q hj h];exact z
 ·rw[List.length_set]
  by_cases hj:j=i
  ·subst hj
   rw[List.getElem?_set_self hl]at h1
   cases h1
   rw[e2]at h2;cases h2
   exact⟨p,ep,rfl,r⟩
  ·rw[List.getElem?_set_ne (fun z=>hj z.symm)]at h1
   exact(R.slot j z o' h1 h2).keep R.b0 R.same sm k rfl (fun _ _ _ h=>h) (fun q h=>us j q hj h) (fun jj q _ h=>us _ q (by unfold vx;omega) h) (fun q h=>aw (npl q h))
theorem bf.frz(R:bf K G c H ow ps σ){i:Nat}{x:Ow}(e:ps[i]? =some (.own x)):∃p, σ[i]? =some (some (.ref p))/\bf K G c H (dO ps.length ow i) (ps.set i (.v x.pv)) σ /\dB K G H (av c (dO ps.length ow i)) x.pv (.ref p)/\Kp K G H (av c ow) H (av c (dO ps.length ow i)):=by
 obtain⟨p,e1,e2,r1⟩:=R.getO e
 have hl:i<ps.length:=(List.getElem?_eq_some_iff.mp e).1
 have k:Kp K G H (av c ow) H (av c (dO ps.length ow i)):=Kp.weak g7
 have np:¬av c (dO ps.length ow i) p:=by
  rintro(h|⟨j,h⟩)
  ·exact absurd (R.fresh i p e1) (R.a0 p h)
  ·unfold dO at h
   split at h
   ·cases h
   ·rename_i hj;exact hj ⟨R.inj j i p h e1,hl⟩
 have rp:dB K G H (av c (dO ps.length ow i)) x.pv (.ref p):=(r1.keep k rfl).freeze np
 refine⟨p,e2,⟨by simp[R.len],R.same,R.lent,R.a0,R.b0,fun j p e=> ?_,fun j j' p e e'=> ?_,fun j q h=> ?_,fun j z o h1 h2=> ?_⟩,rp,k⟩
 ·unfold dO at e;split at e
  ·cases e
  ·exact R.fresh j p e
 ·unfold dO at e e'
  split at e
  ·cases e
  ·split at e'
   ·cases e'
   ·exact R.inj j j' p e e'
 ·unfold dO at h;split at h
  ·cases h
  ·rw[List.length_set];exact R.out j q h
 ·rw[List.length_set]
  by_cases hj:j=i
  ·subst hj
   rw[List.getElem?_set_self hl]at h1
   cases h1
   rw[e2]at h2;cases h2
   exact⟨by unfold dO;rw[if_pos ⟨rfl,hl⟩],_,rfl,rp⟩
  ·rw[List.getElem?_set_ne (fun z=>hj z.symm)]at h1
   have eo:dO ps.length ow i j=ow j:=by unfold dO;rw[if_neg (fun z=>hj z.1)]
   exact(R.slot j z o h1 h2).keep R.b0 R.same R.same k eo uL .(G) (fun _ _ _ _=>rfl) .(G)
theorem bf.chgL(R:bf K G c H ow ps σ){s s':Sl}{p:Addr}{o u:HO}(e:ps[0]? =some s)(hl:c.lx=some p)(hp:H p=some o)(m:Mt o)(r:∀v, σ[0]? =some v->nB K G c ps.length (upd H p u) (av c ow) ow 0 s' v) :
  bf K G c (upd H p u) ow (ps.set 0 s') σ /\Kp K G H (av c ow) (upd H p u) (av c ow):=by
 have hA:=(R.lent p hl).1
 have k:Kp K G H (av c ow) (upd H p u) (av c ow):=Kp.own (.inl hA) hp m
 have sm:jL c (upd H p u):=fun b o' h n=>by
  rw[aw (by intro z;subst z;exact n hl)]
  exact R.same _ _ h n
 have us:∀j q,ow j=some q->upd H p u q=H q:=fun j q h=>aw (by intro z;subst z;exact absurd (R.fresh j q h) (R.a0 q hA))
 refine⟨⟨by simp[R.len],sm,fun q h=>⟨(R.lent q h).1,?_⟩,R.a0,R.b0,R.fresh,R.inj,fun j q h=> ?_,fun j z o' h1 h2=> ?_⟩,k⟩
 ·rw[hl]at h;cases h;rw[ax];simp
 ·rw[List.length_set]
  rcases R.out j q h with z|z
  ·exact .inl z
  ·right;rw[us j q h];exact z
 ·rw[List.length_set]
  by_cases hj:j=0
  ·subst hj
   have hlt:0<ps.length:=(List.getElem?_eq_some_iff.mp e).1
   rw[List.getElem?_set_self hlt]at h1
   cases h1
   exact r o' h2
  ·rw[List.getElem?_set_ne (fun z=>hj z.symm)]at h1
   have q:=R.slot j z o' h1 h2
   cases z with
   |no=>exact q
   |v w'=>obtain⟨z,v',e3,r'⟩:=q;exact⟨z,v',e3,k.rep r'⟩
   |own y'=>obtain⟨p',e3,e4,r'⟩:=q;exact⟨p',e3,e4,r'.keep k (us j p' e3)⟩
   |bor w=>obtain⟨z,v',e3,r'⟩:=q;exact⟨z,v',e3,nD R.b0 R.same sm k r'⟩
   |ino y=>exact absurd q.2.1 hj
   |ini kk xs=>exact absurd q.2.1 hj
   |dol ks xss =>
    obtain⟨p',qs,e1,e2,hp',l1,l2,l3,h⟩:=q
    refine⟨p',qs,e1,e2,by rw[us j p' e1];exact hp',l1,l2,l3,fun jj q xs h1 h2=> ?_⟩
    obtain⟨h3,h4⟩:=h jj q xs h1 h2
    exact⟨h3,h4.keep k (us _ q h3)⟩
   |als d jj=>exact q
end
end DN
end
noncomputable section
namespace DN
open PySem PySem.Spec PyProof.Rows L2
abbrev DP:=aX->Rx PV
abbrev DA:=aX->Rx (List PV)
abbrev DT:=aX->Rx Bool
abbrev DM:=aX->Rx (PV×aX)
abbrev p7:=aX->Rx (List PV×aX)
def xr(K:Fg)(G:Pg)(d:DP):TE:=fun σ H Q=>∃(c:Fr) (ow:gD) (ps:aX) (w:PV),bf K G c H ow ps σ /\d ps= .ok w/\ ∀v H',Same H H'->dB K G H' (av c ow) w v->Q v H'
def CK(K:Fg)(G:Pg)(d:DP):TE:=fun σ H Q=>∃(c:Fr) (ow:gD) (ps:aX) (w:PV),bf K G c H ow ps σ /\d ps= .ok w/\ ∀v H',Same H H'->bU K G H' (av c ow) w v->Q v H'
def rY(K:Fg)(G:Pg)(d:DT):TT:=fun σ H Q=>∃(c:Fr) (ow:gD) (ps:aX) (b:Bool),bf K G c H ow ps σ /\d ps= .ok b/\ ∀H',Same H H'->Q b H'
def dP(K:Fg)(G:Pg)(H:Hp)(A:Av):List Bool->List PV->List V->Prop
 |[],ws,vs=>ws=[]/\vs=[]
 |m::ms,ws,vs=>∃w wr v vr,ws=w::wr/\vs=v::vr/\(if m=true then bU K G H A w v else dB K G H A w v)/\dP K G H A ms wr vr
def Gb(K:Fg)(G:Pg)(ms:List Bool)(d:DA):TA:=fun σ H Q=>∃(c:Fr) (ow:gD) (ps:aX) (ws:List PV),bf K G c H ow ps σ /\d ps= .ok ws/\ ∀vs H',Same H H'->dP K G H' (av c ow) ms ws vs->Q vs H'
def JV(K:Fg)(G:Pg)(d:DA):TE:=fun σ H Q=>∃(c:Fr) (ow:gD) (ps:aX) (ws:List PV),bf K G c H ow ps σ /\d ps= .ok ws/\ ∀p vs H',Same H H'->H p=none->H' p=some (.lst vs)->aC K G H' (fun a=>av c ow a\/a=p) ws vs->Q (.ref p) H'
def KJ(K:Fg)(G:Pg)(d:DM):TE:=fun σ H Q=>∃(c:Fr) (ow:gD) (ps:aX) (w:PV) (ps':aX),bf K G c H ow ps σ /\d ps= .ok (w,ps') /\
 ∀v H' ow',bf K G c H' ow' ps' σ ->Kp K G H (av c ow) H' (av c ow')->dB K G H' (av c ow') w v->Q v H'
def KK(K:Fg)(G:Pg)(d:p7):TA:=fun σ H Q=>∃(c:Fr) (ow:gD) (ps:aX) (ws:List PV) (ps':aX),bf K G c H ow ps σ /\d ps= .ok (ws,ps') /\
 ∀vs H' ow',bf K G c H' ow' ps' σ ->Kp K G H (av c ow) H' (av c ow')->aC K G H' (av c ow') ws vs->Q vs H'
abbrev JP(X:Cx)(G:Pg)(e:Expr)(d:DP):Prop:=PE X e (xr X.K G d)
abbrev JB(X:Cx)(G:Pg)(e:Expr)(d:DP):Prop:=PE X e (CK X.K G d)
abbrev JT(X:Cx)(G:Pg)(e:Expr)(d:DT):Prop:=PT X e (rY X.K G d)
abbrev JW(X:Cx)(G:Pg)(e:Expr)(d:DT):Prop:=PW X e (rY X.K G d)
abbrev JA(X:Cx)(G:Pg)(ms:List Bool)(es:List Expr)(d:DA):Prop:=PA X es (Gb X.K G ms d)
abbrev JN(X:Cx)(G:Pg)(e:Expr)(d:DA):Prop:=PE X e (JV X.K G d)
abbrev JM(X:Cx)(G:Pg)(e:Expr)(d:DM):Prop:=PE X e (KJ X.K G d)
abbrev Gc(X:Cx)(G:Pg)(es:List Expr)(d:p7):Prop:=PA X es (KK X.K G d)
theorem imp{X:Cx}{e:Expr}{t t':TE}(h:PE X e t)(f:∀σ H Q,t' σ H Q->t σ H Q):PE X e t':=fun pins s σ H Q I q=>h pins s σ H Q I (f σ H Q q)
theorem rZ{X:Cx}{e:Expr}{t t':TT}(h:PT X e t)(f:∀σ H Q,t' σ H Q->t σ H Q):PT X e t':=fun pins s σ H Q I q=>h pins s σ H Q I (f σ H Q q)
theorem Ea{X:Cx}{e:Expr}{t t':TT}(h:PW X e t)(f:∀σ H Q,t' σ H Q->t σ H Q):PW X e t':=fun wh pins s σ H Q I q=>h wh pins s σ H Q I (f σ H Q q)
theorem uM{X:Cx}{es:List Expr}{t t':TA}(h:PA X es t)(f:∀σ H Q,t' σ H Q->t σ H Q):PA X es t':=fun pos pins s σ H Q I q=>h pos pins s σ H Q I (f σ H Q q)
noncomputable section
variable{K:Fg}{G:Pg}{H H':Hp}{A A':Av}
theorem bU.same{w:PV}{v:V}(h:bU K G H A w v)(s:Same H H'):bU K G H' A w v:=by
 rcases h with h|⟨x,p,e1,e2,r⟩
 ·exact .inl (h.same s)
 ·obtain⟨o,eo,_⟩:=r.at
  exact .inr ⟨x,p,e1,e2,r.keep (Kp.of_same s) (by rw[s _ _ eo,eo])⟩
theorem bU.lst{xs:List PV}{v:V}(h:bU K G H A (.lst xs) v):∃a vs,v= .ref a/\eI K H a vs/\aC K G H A xs vs:=by
 rcases h with⟨a,vs,e,r,q⟩|⟨x,p,e1,e2,r⟩
 ·exact⟨a,vs,e,r.sq,q⟩
 ·cases x with
  |lst ys=>cases e1;obtain⟨vs,q,r⟩:=r;exact⟨p,vs,e2,eI.of q,r⟩
  |dic ks ys=>cases e1
  |dit ks ys=>cases e1
  |obj k ys=>cases e1
theorem bU.tup{xs:List PV}{v:V}(h:bU K G H A (.tup xs) v):∃a vs,v= .ref a/\gA K H a vs/\aC K G H A xs vs:=by
 rcases h with⟨a,vs,e,s,r⟩|⟨x,p,e1,e2,r⟩
 ·exact⟨a,vs,e,gA.of s,r⟩
 ·cases x <;> cases e1
theorem bU.int{i:Int}{v:V}(h:bU K G H A (.int i) v):v= .int i:=by
 rcases h with h|⟨x,p,e1,e2,r⟩
 ·exact h
 ·cases x <;> cases e1
theorem bU.str{i:Str}{v:V}(h:bU K G H A (.str i) v):v= .str i:=by
 rcases h with h|⟨x,p,e1,e2,r⟩
 ·exact h
 ·cases x <;> cases e1
theorem bU.bl{i:Bool}{v:V}(h:bU K G H A (.bl i) v):v= .bl i:=by
 rcases h with h|⟨x,p,e1,e2,r⟩
 ·exact h
 ·cases x <;> cases e1
theorem bU.non{v:V}(h:bU K G H A .non v):v= .non:=by
 rcases h with h|⟨x,p,e1,e2,r⟩
 ·exact h
 ·cases x <;> cases e1
theorem bU.obj{k:Nat}{xs:List PV}{v:V}(h:bU K G H A (.obj k xs) v):∃a dx vs,v= .ref a/\H a=some (.ins (G.cA k) dx ((G.fN k).zip vs))/\(G.fN k).length=vs.length/\aC K G H A xs vs:=by
 rcases h with⟨a,dx,vs,e,q,l,n,r⟩|⟨x,p,e1,e2,r⟩
 ·exact⟨a,dx,vs,e,q,l,r⟩
 ·cases x with
  |lst ys=>cases e1
  |dic ks ys=>cases e1
  |dit ks ys=>cases e1
  |obj k' ys=>cases e1;obtain⟨dx,vs,q,l,r⟩:=r;exact⟨p,dx,vs,e2,q,l,r⟩
theorem bU.dic{ks:List Key}{xs:List PV}{v:V}(h:bU K G H A (.dic ks xs) v):∃a vs ep,v= .ref a/\H a=some (.dK (ks.zip vs) ep)/\ks.length=vs.length/\aC K G H A xs vs:=by
 rcases h with⟨a,vs,ep,e,q,l,n,r⟩|⟨x,p,e1,e2,r⟩
 ·exact⟨a,vs,ep,e,q,l,r⟩
 ·cases x with
  |lst ys=>cases e1
  |dic ks' ys=>cases e1;obtain⟨vs,ep,q,l,r⟩:=r;exact⟨p,vs,ep,e2,q,l,r⟩
  |dit ks ys=>cases e1
  |obj k ys=>cases e1
theorem bU.dit{ks:List (List Key)}{xs:List PV}{v:V}(h:bU K G H A (.dit ks xs) v):∃a vs ep,v= .ref a/\H a=some (.dT (ks.zip vs) ep)/\ks.length=vs.length/\aC K G H A xs vs:=by
 rcases h with⟨a,vs,ep,e,q,l,n,r⟩|⟨x,p,e1,e2,r⟩
 ·exact⟨a,vs,ep,e,q,l,r⟩
 ·cases x with
  |lst ys=>cases e1
  |dic ks ys=>cases e1
  |dit ks' ys=>cases e1;obtain⟨vs,ep,q,l,r⟩:=r;exact⟨p,vs,ep,e2,q,l,r⟩
  |obj k ys=>cases e1
theorem bU.clo{f:Nat}{xs:List PV}{v:V}(h:bU K G H A (.clo f xs) v):dB K G H A (.clo f xs) v:=by
 rcases h with h|⟨x,p,e1,e2,r⟩
 ·exact h
 ·cases x <;> cases e1
theorem dP.len:∀{ms:List Bool} {ws:List PV} {vs:List V},dP K G H A ms ws vs->ws.length=ms.length/\vs.length=ms.length
 |[],ws,vs,h=>by obtain⟨rfl,rfl⟩:=h;exact⟨rfl,rfl⟩
 |m::ms,ws,vs,h=>by
  obtain⟨w,wr,v,vr,rfl,rfl,r,rr⟩:=h
  have:=dP.len rr
  simp[this]
end
noncomputable section
variable{X:Cx}{G:Pg}{e a b:Expr}{da db:DP}{pos:Pos}
theorem b_of(h:JP X G e da):JB X G e da:=imp h fun σ H Q ⟨c,ow,ps,w,R,e,q⟩=>⟨c,ow,ps,w,R,e,fun v H' s r=>q v H' s (.inl r)⟩
def aG(d:DA):DP:=fun ps=>(d ps).bind fun ws=> .ok (.lst ws)
theorem p_of_n{d:DA}(h:JN X G e d):JP X G e (aG d):=imp h fun σ H Q ⟨c,ow,ps,w,R,e,q⟩=>by
 obtain⟨ws,e1,e2⟩:=am e
 cases e2
 refine⟨c,ow,ps,ws,R,e1,fun p vs H' s hp hv r=>q (.ref p) H' s ⟨p,vs,rfl,.inl ⟨hv,fun z=>R.used p z hp⟩,(Kp.weak fun a z=>Or.inl z).reps r⟩⟩
def cK(d:DP):DM:=fun ps=>(d ps).bind fun w=> .ok (w,ps)
theorem g8(h:JP X G e da):JM X G e (cK da):=imp h fun σ H Q ⟨c,ow,ps,w,ps',R,e,q⟩=>by
 obtain⟨w1,e1,e2⟩:=am e
 cases e2
 exact⟨c,ow,ps,w,R,e1,fun v H' s r=>q v H' ow (R.grow s) (Kp.of_same s) r⟩
noncomputable def af(i:Nat):DP:=fun ps=>match ps[i]? with|some (.v w)=> .ok w|_=> .bad
noncomputable def ag(i:Nat):DP:=fun ps=>match ps[i]? with|some (.v w)=> .ok w|some (.own x)=> .ok x.pv|some (.bor w)=> .ok w|_=> .bad
theorem p_var(i:Nat){x:Str}{pos:Pos}(hN:X.N[i]? =some x:=by rfl)(hv:lF X.env.scope x:=by first|exact Or.inl rfl|exact Or.inr (Or.inl rfl)|exact Or.inr (Or.inr rfl))(hd:(x == .(L))=false:=by decide)
  (hcd:(x == .(Z))=false:=by decide):JP X G (.Name x pos) (af i):=imp (bh hN hv hd hcd) fun σ H Q ⟨c,ow,ps,w,R,e,q⟩=>by
 unfold af at e
 split at e
 ·rename_i w' h
  cases e
  obtain⟨v,ev,r⟩:=R.getV h
  exact⟨v,ev,q v H (Same.refl H) r⟩
 ·cases e
theorem b_var(i:Nat){x:Str}{pos:Pos}(hN:X.N[i]? =some x:=by rfl)(hv:lF X.env.scope x:=by first|exact Or.inl rfl|exact Or.inr (Or.inl rfl)|exact Or.inr (Or.inr rfl))(hd:(x == .(L))=false:=by decide)
  (hcd:(x == .(Z))=false:=by decide):JB X G (.Name x pos) (ag i):=imp (bh hN hv hd hcd) fun σ H Q ⟨c,ow,ps,w,R,e,q⟩=>by
 unfold ag at e
 split at e
 ·rename_i w' h
  cases e
  obtain⟨v,ev,r⟩:=R.getV h
  exact⟨v,ev,q v H (Same.refl H) (.inl r)⟩
 ·rename_i x' h
  cases e
  obtain⟨p,e1,e2,r⟩:=R.getO h
  exact⟨_,e2,q _ H (Same.refl H) (.inr ⟨x',p,rfl,rfl,r⟩)⟩
 ·rename_i w' h
  cases e
  obtain⟨o,eo,_,v,rfl,r⟩:=R.get h
  refine⟨v,eo,q v H (Same.refl H) ?_⟩
  rcases r with r|⟨x,p,e1,e2,r,_⟩
  ·exact .inl r
  ·exact .inr ⟨x,p,e1,e2,r⟩
 ·cases e
def dC(w:PV):DP:=fun _=> .ok w
theorem l6{t:V}{w:PV}(h:PE X e (tC t))(hr:∀H A,dB X.K G H A w t):JP X G e (dC w):=imp h fun σ H Q ⟨c,ow,ps,w,R,e,q⟩=>by
 cases e
 exact q _ H (Same.refl H) (hr _ _)
theorem p_int{i j pos}:JP X G (.Constant (.int i) j pos) (dC (.int i)):=l6 zY fun _ _=>rfl
theorem f7{i j pos}:JP X G (.Constant (.bool i) j pos) (dC (.bl i)):=l6 Da fun _ _=>rfl
theorem zp{j pos}:JP X G (.Constant .none j pos) (dC .non):=l6 zZ fun _ _=>rfl
theorem bM{i j pos}:JP X G (.Constant (.str i) j pos) (dC (.str i)):=l6 A3 fun _ _=>rfl
theorem p_topI{x:Str}{i:Int}{tk:Tok}{pos:Pos}(hg:Gl X x)(hm:X.mg x=some (.int i tk))(hd:(x == .(L))=false:=by decide):JP X G (.Name x pos) (dC (.int i)):=l6 (uH hg hm hd) fun _ _=>rfl
theorem ee{x:Str}{i:Str}{tk:Tok}{pos:Pos}(hg:Gl X x)(hm:X.mg x=some (.str i tk))(hd:(x == .(L))=false:=by decide):JP X G (.Name x pos) (dC (.str i)):=l6 (lG (v:= .str i) hg hm ⟨_,rfl⟩ hd) fun _ _=>rfl
noncomputable def d2(f:PV->PV->Rx PV)(a b:DP):DP:=fun ps=>(a ps).bind fun x=>(b ps).bind fun y=>f x y
abbrev jm(H:Hp)(A:Av):Prop:=∀a,A a->H a≠none
def nE(K:Fg)(G:Pg)(f:PV->PV->Rx PV)(r:R2):Prop:=∀(H:Hp) (A:Av) (x y w:PV) (v u:V) (Q:VK),jm H A->f x y= .ok w->bU K G H A x v->bU K G H A y u->(∀z H',Same H H'->dB K G H' A w z->Q z H')->r v u H Q
theorem ye{K:Fg}{f:PV->PV->Rx PV}{r:R2}(hf:nE K G f r){σ :L2.St}{H:Hp}{Q:VK}(h:xr K G (d2 f da db) σ H Q):Dt r (CK K G da) (CK K G db) σ H Q:=by
 obtain⟨c,ow,ps,w,R,e,q⟩:=h
 obtain⟨x,e1,e⟩:=am e
 obtain⟨y,e2,e⟩:=am e
 exact⟨c,ow,ps,x,R,e1,fun v H1 s1 r1=>⟨c,ow,ps,y,R.grow s1,e2,fun u H2 s2 r2=>hf H2 _ x y w v u Q ((R.grow s1).grow s2).used e (r1.same s2) r2 fun z H3 s3 r3=>q z H3 ((s1.trans s2).trans s3) r3⟩⟩
theorem kz{op:Operator}{r:R2}{f:PV->PV->Rx PV}(ho:fY X (binaryOp op) r)(hf:nE X.K G f r)(ha:JB X G a da)(hb:JB X G b db):JP X G (.BinOp a op b pos) (d2 f da db):=imp (ud ho ha hb) fun _ _ _=>ye hf
theorem zq{op:CmpOp}{r:R2}{f:PV->PV->Rx PV}(ho:fY X (compareOp op) r)(hf:nE X.K G f r)(ha:JB X G a da)(hb:JB X G b db)(hm:behindInMarks op b=false):JP X G (.Compare a [op] [b] pos) (d2 f da db):=imp (xI ho ha hb hm) fun _ _ _=>ye hf
noncomputable def aU(d:DP):DT:=fun ps=>(d ps).bind fun x=>match x with | .bl b=> .ok b|_=> .bad
theorem l7{op:CmpOp}{r:R2}{f:PV->PV->Rx PV}(ho:fY X (compareOp op) r)(hf:nE X.K G f r)(ha:JB X G a da)(hb:JB X G b db)(hm:behindInMarks op b=false):JT X G (.Compare a [op] [b] pos) (aU (d2 f da db)) :=
 rZ (pY ho ha hb hm) fun σ H Q ⟨c,ow,ps,b,R,e,q⟩=>by
  obtain⟨x,e1,e2⟩:=am e
  have:x= .bl b:=by
   cases x <;> first|(cases e2;rfl)|cases e2
  subst this
  exact ye hf ⟨c,ow,ps,_,R,e1,fun v H' s r=>⟨b,r,q H' s⟩⟩
theorem Hn{f:PV->PV->Rx PV}(hf:nE X.K G f (Hf X.K))(ha:JB X G a da)(hb:JB X G b db)(hs:lK b):JP X G (.Subscript a b pos) (d2 f da db):=imp (DI AC ha hb hs) fun _ _ _=>ye hf
noncomputable def fI(g:Int->Int->PV):PV->PV->Rx PV
 |.int i,.int j=> .ok (g i j)
 |_,_=> .bad
noncomputable def AW(C:Int->Int->Prop)[∀i j,Decidable (C i j)](g:Int->Int->PV):PV->PV->Rx PV
 |.int i,.int j=>if C i j then .ok (g i j) else .bad
 |_,_=> .bad
theorem nG{K:Fg}{g:Int->Int->PV}{g':Int->Int->V}(h:∀i j H A,dB K G H A (g i j) (g' i j)):nE K G (fI g) (uc g'):=by
 intro H A x y w v u Q hu e r1 r2 q
 cases x <;> try cases e
 cases y <;> try cases e
 exact⟨_,_,r1.int,r2.int,q _ H (Same.refl H) (h _ _ _ _)⟩
theorem nH{K:Fg}{C:Int->Int->Prop}[∀i j,Decidable (C i j)]{C':Int->Int->Prop}{g:Int->Int->PV}{g':Int->Int->V}(hc:∀i j,C i j->C' i j)(h:∀i j H A,dB K G H A (g i j) (g' i j)):nE K G (AW C g) (rI C' g'):=by
 intro H A x y w v u Q hu e r1 r2 q
 cases x <;> try cases e
 cases y <;> try cases e
 rename_i i j
 have e:(if C i j then Rx.ok (g i j) else .bad)= .ok w:=e
 split at e
 ·rename_i hC
  cases e
  exact⟨_,_,r1.int,r2.int,hc _ _ hC,q _ H (Same.refl H) (h _ _ _ _)⟩
 ·cases e
abbrev gv:=fI fun i j=> .int (i+j)
abbrev kA:=fI fun i j=> .int (i-j)
abbrev p8:=fI fun i j=> .bl (decide (i<j))
abbrev AX:=fI fun i j=> .bl (decide (i<=j))
abbrev uN:=fI fun i j=> .bl (decide (j<i))
abbrev dj:=fI fun i j=> .int (Builtin.bitAnd i j)
abbrev Eb:=fI fun i j=> .int (Builtin.bitOr i j)
abbrev AY:=fI fun i j=> .int (Builtin.bitXor i j)
abbrev sd:=AW (fun i j=>(-(2 ^ 64)<i/\i<2 ^ 64)\/(-(2 ^ 64)<j/\j<2 ^ 64)) fun i j=> .int (i*j)
abbrev bD:=AW (fun _ j=>0<j) fun i j=> .int (i % j)
abbrev bV:=AW (fun _ j=>0<j/\j<1073741824) fun i j=> .int (i / j)
abbrev gL:=AW (fun i j=>0<=j/\j<=1000000/\i.natAbs<2 ^ 64) fun i j=> .int (i*2 ^ j.toNat)
abbrev gw:=AW (fun _ j=>0<=j) fun i j=> .int (i / 2 ^ j.toNat)
theorem gE(ha:JB X G a da)(hb:JB X G b db):JP X G (.BinOp a .Add b pos) (d2 gv da db):=kz An (nG fun _ _ _ _=>rfl) ha hb
theorem nI(ha:JB X G a da)(hb:JB X G b db):JP X G (.BinOp a .Sub b pos) (d2 kA da db):=kz Ao (nG fun _ _ _ _=>rfl) ha hb
theorem p_and(ha:JB X G a da)(hb:JB X G b db):JP X G (.BinOp a .BitAnd b pos) (d2 dj da db):=kz At (nG fun _ _ _ _=>rfl) ha hb
theorem Ec(ha:JB X G a da)(hb:JB X G b db):JP X G (.BinOp a .BitOr b pos) (d2 Eb da db):=kz Dv (nG fun _ _ _ _=>rfl) ha hb
theorem zr(ha:JB X G a da)(hb:JB X G b db):JP X G (.BinOp a .BitXor b pos) (d2 AY da db):=kz Au (nG fun _ _ _ _=>rfl) ha hb
theorem nJ(ha:JB X G a da)(hb:JB X G b db):JP X G (.BinOp a .Mult b pos) (d2 sd da db):=kz Ap (nH (fun _ _ h=>h) fun _ _ _ _=>rfl) ha hb
theorem p_mod(ha:JB X G a da)(hb:JB X G b db):JP X G (.BinOp a .Mod b pos) (d2 bD da db):=kz Aq (nH (fun _ _ h=>h) fun _ _ _ _=>rfl) ha hb
theorem p_div(ha:JB X G a da)(hb:JB X G b db):JP X G (.BinOp a .FloorDiv b pos) (d2 bV da db):=kz xH (nH (fun _ _ h=>h) fun _ _ _ _=>rfl) ha hb
theorem nL(ha:JB X G a da)(hb:JB X G b db):JP X G (.BinOp a .LShift b pos) (d2 gL da db):=kz Ar (nH (fun _ _ h=>h) fun _ _ _ _=>rfl) ha hb
theorem p_shr(ha:JB X G a da)(hb:JB X G b db):JP X G (.BinOp a .RShift b pos) (d2 gw da db):=kz As (nH (fun _ _ h=>h) fun _ _ _ _=>rfl) ha hb
theorem t_lt(ha:JB X G a da)(hb:JB X G b db):JT X G (.Compare a [.Lt] [b] pos) (aU (d2 p8 da db)):=l7 Dw (nG fun _ _ _ _=>rfl) ha hb (gK _)
theorem t_gt(ha:JB X G a da)(hb:JB X G b db):JT X G (.Compare a [.Gt] [b] pos) (aU (d2 uN da db)):=l7 Dx (nG fun _ _ _ _=>rfl) ha hb (gK _)
noncomputable def AZ:PV->PV->Rx PV
 |.str x,.str y=> .ok (.bl (decide (x.cps.toList<y.cps.toList)))
 |_,_=> .bad
theorem B2{K:Fg}:nE K G AZ (fun x y H Q=>∃i j,x= .str i/\y= .str j/\Q (.bl (decide (i.cps.toList<j.cps.toList))) H):=by
 intro H A x y w v u Q hu e r1 r2 q
 cases x <;> try cases e
 cases y <;> try cases e
 exact⟨_,_,r1.str,r2.str,q _ H (Same.refl H) rfl⟩
theorem Ed(ha:JB X G a da)(hb:JB X G b db):JT X G (.Compare a [.Lt] [b] pos) (aU (d2 AZ da db)):=l7 rD B2 ha hb (gK _)
def Ee:PV->Bool
 |.non=>true
 |_=>false
def Ho(d:DP):DP:=fun ps=>(d ps).bind fun x=> .ok (.bl (Ee x))
noncomputable def gG(d:DP):DP:=fun ps=>(d ps).bind fun x=> .ok (.bl (!Ee x))
theorem yf{K:Fg}{H:Hp}{A:Av}{x:PV}{v:V}(r:bU K G H A x v):decide (v= .non)=Ee x:=by
 cases x with
 |non=>rw[r.non];rfl
 |bl b=>rw[r.bl];rfl
 |int i=>rw[r.int];rfl
 |str i=>rw[r.str];rfl
 |tup xs=>obtain⟨a,vs,e,_⟩:=r.tup;rw[e];rfl
 |lst xs=>obtain⟨a,vs,e,_⟩:=r.lst;rw[e];rfl
 |obj k xs=>obtain⟨a,dx,vs,e,_⟩:=r.obj;rw[e];rfl
 |dic ks xs=>obtain⟨a,vs,_,e,_⟩:=r.dic;rw[e];rfl
 |dit ks xs=>obtain⟨a,vs,_,e,_⟩:=r.dit;rw[e];rfl
 |clo f xs=>obtain⟨a,cl,vs,e,_⟩:=r.clo;rw[e];rfl
theorem t_val{d:DP}(h:JP X G e d)(he:∀whole,isTrue e X.env whole=(do let v <- whole;standAt e.pos;holding [v] (truthy v)):=by intro _;rfl):JT X G e (aU d):=rZ (A5 h he) fun σ H Q ⟨c,ow,ps,b,R,e,q⟩=>by
 obtain⟨x,e1,e2⟩:=am e
 have:x= .bl b:=by
  cases x <;> first|(cases e2;rfl)|cases e2
 subst this
 exact⟨c,ow,ps,_,R,e1,fun v H' s r=>⟨b,r,q H' s⟩⟩
theorem uO{j pos'}(ha:JB X G a da):JT X G (.Compare a [.IsNot] [.Constant .none j pos'] pos) (aU (gG da)):=rZ (A4 (xA ha)) fun σ H Q ⟨c,ow,ps,b,R,e,q⟩=>by
 obtain⟨y,e1,e2⟩:=am e
 obtain⟨x,e3,e4⟩:=am e1
 cases e4
 cases e2
 exact⟨c,ow,ps,x,R,e3,fun v H' s r=>⟨_,by rw[yf r],q H' s⟩⟩
def f8(a b:DT):DT:=fun ps=>(a ps).bind fun x=>if x=true then b ps else .ok false
def iQ(a b:DT):DT:=fun ps=>(a ps).bind fun x=>if x=true then .ok true else b ps
noncomputable def f9(a:DT):DT:=fun ps=>(a ps).bind fun x=> .ok (!x)
theorem Ef{K:Fg}{ta tb:DT}{σ :L2.St}{H:Hp}{Q:Bool->Hp->Prop}(h:rY K G (f8 ta tb) σ H Q):Dc (rY K G ta) (rY K G tb) σ H Q:=by
 obtain⟨c,ow,ps,b,R,e,q⟩:=h
 obtain⟨x,e1,e2⟩:=am e
 refine⟨c,ow,ps,x,R,e1,fun H' s=> ?_⟩
 split at e2
 ·rename_i hx;subst hx
  exact iteT ⟨c,ow,ps,b,R.grow s,e2,fun H2 s2=>q H2 (s.trans s2)⟩
 ·rename_i hx
  cases e2
  have:x=false:=by simpa using hx
  subst this
  exact lP (q H' s)
theorem Hq{K:Fg}{ta tb:DT}{σ :L2.St}{H:Hp}{Q:Bool->Hp->Prop}(h:rY K G (iQ ta tb) σ H Q):JK (rY K G ta) (rY K G tb) σ H Q:=by
 obtain⟨c,ow,ps,b,R,e,q⟩:=h
 obtain⟨x,e1,e2⟩:=am e
 refine⟨c,ow,ps,x,R,e1,fun H' s=> ?_⟩
 split at e2
 ·rename_i hx;subst hx
  cases e2
  exact iteT (q H' s)
 ·rename_i hx
  have:x=false:=by simpa using hx
  subst this
  exact lP ⟨c,ow,ps,b,R.grow s,e2,fun H2 s2=>q H2 (s.trans s2)⟩
noncomputable section
variable{ta tb:DT}{rest:List Expr}
theorem w_and1(ha:JT X G a ta):JW X G (.BoolOp .And [a] pos) ta:=xB ha
theorem w_or1(ha:JT X G a ta):JW X G (.BoolOp .Or [a] pos) ta:=A6 ha
theorem w_and(ha:JT X G a ta)(hb:JW X G (.BoolOp .And (b::rest) pos) tb):JW X G (.BoolOp .And (a::b::rest) pos) (f8 ta tb):=Ea (A7 ha hb) fun _ _ _=>Ef
theorem w_or(ha:JT X G a ta)(hb:JW X G (.BoolOp .Or (b::rest) pos) tb):JW X G (.BoolOp .Or (a::b::rest) pos) (iQ ta tb):=Ea (Dd ha hb) fun _ _ _=>Hq
theorem t_w(h:JW X G e ta):JT X G e ta:=PW.pt h
theorem ie(ha:JT X G a ta):JT X G (.UnaryOp .Not a pos) (f9 ta):=rZ (A8 ha) fun σ H Q ⟨c,ow,ps,b,R,e,q⟩=>by
 obtain⟨x,e1,e2⟩:=am e
 cases e2
 exact⟨c,ow,ps,x,R,e1,fun H' s=>q H' s⟩
end
noncomputable def uP(a b:DP):DP:=fun ps=>(a ps).bind fun x=>match x with | .bl true=>b ps | .bl false=> .ok (.bl false)|_=> .bad
def yg(a b:DP):DP:=fun ps=>(a ps).bind fun x=>match x with | .bl true=> .ok (.bl true) | .bl false=>b ps|_=> .bad
noncomputable def qe(a:DP):DP:=fun ps=>(a ps).bind fun x=>match x with | .bl k=> .ok (.bl (!k))|_=> .bad
noncomputable section
variable{rest:List Expr}
theorem uQ{op}(h:JP X G a da):JP X G (.BoolOp op [a] pos) da:=A9 h
theorem B3(ha:JP X G a da)(hb:JP X G (.BoolOp .And (b::rest) pos) db):JP X G (.BoolOp .And (a::b::rest) pos) (uP da db):=imp (Aa ha hb) fun σ H Q ⟨c,ow,ps,w,R,e,q⟩=>by
 obtain⟨x,e1,e2⟩:=am e
 refine⟨c,ow,ps,x,R,e1,fun v H' s r=> ?_⟩
 split at e2
 ·exact⟨true,r,iteT ⟨c,ow,ps,w,R.grow s,e2,fun v2 H2 s2 r2=>q v2 H2 (s.trans s2) r2⟩⟩
 ·cases e2;exact⟨false,r,lP (q _ H' s rfl)⟩
 ·cases e2
theorem zt(ha:JP X G a da)(hb:JP X G (.BoolOp .Or (b::rest) pos) db):JP X G (.BoolOp .Or (a::b::rest) pos) (yg da db):=imp (Dg ha hb) fun σ H Q ⟨c,ow,ps,w,R,e,q⟩=>by
 obtain⟨x,e1,e2⟩:=am e
 refine⟨c,ow,ps,x,R,e1,fun v H' s r=> ?_⟩
 split at e2
 ·cases e2;exact⟨true,r,iteT (q _ H' s rfl)⟩
 ·exact⟨false,r,lP ⟨c,ow,ps,w,R.grow s,e2,fun v2 H2 s2 r2=>q v2 H2 (s.trans s2) r2⟩⟩
 ·cases e2
theorem uR(ha:JP X G a da):JP X G (.UnaryOp .Not a pos) (qe da):=imp (Ab ha) fun σ H Q ⟨c,ow,ps,w,R,e,q⟩=>by
 obtain⟨x,e1,e2⟩:=am e
 refine⟨c,ow,ps,x,R,e1,fun v H' s r=> ?_⟩
 split at e2
 ·cases e2;exact⟨_,r,q _ H' s rfl⟩
 ·cases e2
noncomputable def yh(d:DP):DP:=fun ps=>(d ps).bind fun x=>match x with | .int i=> .ok (.int (-i))|_=> .bad
theorem Eg(ha:JP X G a da):JP X G (.UnaryOp .USub a pos) (yh da):=imp (zk Aw ha) fun σ H Q ⟨c,ow,ps,w,R,e,q⟩=>by
 obtain⟨x,e1,e2⟩:=am e
 refine⟨c,ow,ps,x,R,e1,fun v H' s r=> ?_⟩
 split at e2
 ·cases e2;exact⟨_,r,q _ H' s rfl⟩
 ·cases e2
def p9(t:DT)(a b:DP):DP:=fun ps=>(t ps).bind fun x=>if x=true then a ps else b ps
theorem p_ifV{t:Expr}{dt:DT}(ht:JT X G t dt)(ha:JP X G a da)(hb:JP X G b db):JP X G (.IfExp t a b pos) (p9 dt da db):=imp (u0 ht ha hb) fun σ H Q ⟨c,ow,ps,w,R,e,q⟩=>by
 obtain⟨x,e1,e2⟩:=am e
 refine⟨c,ow,ps,x,R,e1,fun H' s=> ?_⟩
 split at e2
 ·rename_i hx;subst hx;exact iteT ⟨c,ow,ps,w,R.grow s,e2,fun v2 H2 s2 r2=>q v2 H2 (s.trans s2) r2⟩
 ·rename_i hx
  have:x=false:=by simpa using hx
  subst this
  exact lP ⟨c,ow,ps,w,R.grow s,e2,fun v2 H2 s2 r2=>q v2 H2 (s.trans s2) r2⟩
end
end
end DN
end
noncomputable section
namespace DN
open PySem PySem.Spec PyProof.Rows L2
noncomputable section
variable{X:Cx}{G:Pg}{e a b:Expr}{es:List Expr}{da db:DP}{pos:Pos}
noncomputable def fIx:PV->PV->Rx PV
 |.lst xs,.int i=>match iL xs i with|some w=> .ok w|none=> .bad
 |.tup xs,.int i=>match iL xs i with|some w=> .ok w|none=> .bad
 |.str z,.int i=>if z.length<=sizeLine then(match iL z.cps.toList i with|some c=> .ok (.str ⟨#[c]⟩)|none=> .bad) else .bad
 |_,_=> .bad
theorem qf{K:Fg}{H:Hp}{A:Av}{xs:List PV}{vs:List V}{i:Int}{w:PV}(r:aC K G H A xs vs)(e:iL xs i=some w):∃v,iL vs i=some v/\dB K G H A w v:=by
 unfold iL at e ⊢
 rw[<-r.len]
 cases q:oT xs.length i with
 |none=>rw[q]at e;cases e
 |some j =>
  rw[q]at e
  exact r.get e
theorem Eh{K:Fg}:nE K G fIx (Hf K):=by
 intro H A x y w v u Q hu e r1 r2 q
 cases x <;> try cases e
 ·cases y <;> try cases e
  rename_i z i
  have e:(if z.length<=sizeLine then(match iL z.cps.toList i with|some c=>Rx.ok (PV.str ⟨#[c]⟩)|none=> .bad) else .bad)= .ok w:=e
  split at e
  ·rename_i hz
   split at e
   ·rename_i c hc
    cases e
    exact .inr (.inr ⟨z,i,c,r1.str,r2.int,hz,hc,q _ H (Same.refl H) rfl⟩)
   ·cases e
  ·cases e
 ·cases y <;> try cases e
  rename_i xs i
  have e:(match iL xs i with|some w=>Rx.ok w|none=> .bad)= .ok w:=e
  split at e
  ·rename_i w' hw
   cases e
   obtain⟨p,vs,ev,sq,rs⟩:=r1.tup
   obtain⟨v',e1,r'⟩:=qf rs hw
   exact .inr (.inl ⟨p,vs,i,v',ev,r2.int,sq,e1,q _ H (Same.refl H) r'⟩)
  ·cases e
 ·cases y <;> try cases e
  rename_i xs i
  have e:(match iL xs i with|some w=>Rx.ok w|none=> .bad)= .ok w:=e
  split at e
  ·rename_i w' hw
   cases e
   obtain⟨p,vs,ev,sq,rs⟩:=r1.lst
   obtain⟨v',e1,r'⟩:=qf rs hw
   exact .inl ⟨p,vs,i,v',ev,r2.int,sq,e1,q _ H (Same.refl H) r'⟩
  ·cases e
theorem p_at(ha:JB X G a da)(hb:JB X G b db)(hs:lK b):JP X G (.Subscript a b pos) (d2 fIx da db):=Hn Eh ha hb hs
def ah:DA:=fun _=> .ok []
noncomputable def ae(a:DP)(r:DA):DA:=fun ps=>(a ps).bind fun x=>(r ps).bind fun xs=> .ok (x::xs)
theorem a_nil:JA X G [] [] ah:=uM fB fun σ H Q ⟨c,ow,ps,ws,R,e,q⟩=>by
 cases e
 exact q [] H (Same.refl H) ⟨rfl,rfl⟩
theorem a_cons{ms:List Bool}{d:DA}(ha:JP X G e da)(hr:JA X G ms es d)(hs:starEach (e::es) X.env=.(S)::starEach es X.env:=by rfl):JA X G (false::ms) (e::es) (ae da d) :=
 uM (dg ha hr hs) fun σ H Q ⟨c,ow,ps,ws,R,e,q⟩=>by
  obtain⟨x,e1,e⟩:=am e
  obtain⟨xs,e2,e⟩:=am e
  cases e
  exact⟨c,ow,ps,x,R,e1,fun v H1 s1 r1=>⟨c,ow,ps,xs,R.grow s1,e2,fun vs H2 s2 r2=>q (v::vs) H2 (s1.trans s2) ⟨x,xs,v,vs,rfl,rfl,by rw[if_neg Bool.false_ne_true];exact r1.same s2,r2⟩⟩⟩
theorem a_consB{ms:List Bool}{d:DA}(ha:JB X G e da)(hr:JA X G ms es d)(hs:starEach (e::es) X.env=.(S)::starEach es X.env:=by rfl):JA X G (true::ms) (e::es) (ae da d) :=
 uM (dg ha hr hs) fun σ H Q ⟨c,ow,ps,ws,R,e,q⟩=>by
  obtain⟨x,e1,e⟩:=am e
  obtain⟨xs,e2,e⟩:=am e
  cases e
  exact⟨c,ow,ps,x,R,e1,fun v H1 s1 r1=>⟨c,ow,ps,xs,R.grow s1,e2,fun vs H2 s2 r2=>q (v::vs) H2 (s1.trans s2) ⟨x,xs,v,vs,rfl,rfl,by rw[if_pos rfl];exact r1.same s2,r2⟩⟩⟩
theorem dP.reps'{K:Fg}{H:Hp}{A:Av}:∀{ms:List Bool} {ws:List PV} {vs:List V},dP K G H A ms ws vs->ms.all (! ·)=true->aC K G H A ws vs
 |[],ws,vs,h,_=>by obtain⟨rfl,rfl⟩:=h;rfl
 |m::ms,ws,vs,h,hm=>by
  obtain⟨w,wr,v,vr,rfl,rfl,r,rr⟩:=h
  rw[List.all_cons,Bool.and_eq_true]at hm
  have:m=false:=by simpa using hm.1
  subst this
  rw[if_neg Bool.false_ne_true]at r
  exact⟨v,vr,rfl,r,dP.reps' rr hm.2⟩
def eT(d:DA):DP:=fun ps=>(d ps).bind fun ws=> .ok (.tup ws)
theorem p_tup{ms:List Bool}{d:DA}{x1}(h:JA X G ms es d)(hm:ms.all (! ·)=true:=by rfl)(hl:ms.length<=1000:=by decide):JP X G (.Tuple es x1 pos) (eT d):=imp (uk h) fun σ H Q ⟨c,ow,ps,w,R,e,q⟩=>by
 obtain⟨ws,e1,e⟩:=am e
 cases e
 refine⟨c,ow,ps,ws,R,e1,fun vs H1 s1 r1=>⟨?_,fun p hp=> ?_⟩⟩
 ·rw[r1.len.2];exact Nat.le_of_lt (iN hl)
 ·exact q _ _ (s1.trans (bx hp _)) ⟨p,vs,rfl,ax,(r1.reps' hm).same (bx hp _)⟩
theorem n_lst{ms:List Bool}{d:DA}(h:JA X G ms es d)(hm:ms.all (! ·)=true:=by rfl)(hl:ms.length<=1000:=by decide):JN X G (.List es pos) d:=imp (Az h) fun σ H Q ⟨c,ow,ps,ws,R,e,q⟩=>by
 refine⟨c,ow,ps,ws,R,e,fun vs H1 s1 r1=>⟨?_,fun p hp=> ?_⟩⟩
 ·rw[r1.len.2];exact Nat.le_of_lt (iN hl)
 ·exact q p vs _ (s1.trans (bx hp _)) (s1.free hp) ax ((Kp.take hp (bx hp _) fun a z=>z.symm).reps (r1.reps' hm))
noncomputable def dL(a b:DP):DA:=fun ps=>(a ps).bind fun x=>(b ps).bind fun y=>match x,y with | .lst xs,.lst ys=>if xs.length+ys.length<=sizeLine then .ok (xs++ys) else .bad|_,_=> .bad
theorem jM(ha:JB X G a da)(hb:JB X G b db)(ho:fY X (binaryOp .Add) (fun x y H Q=>∃l m xs zs,x= .ref l/\y= .ref m/\eI X.K H l xs/\eI X.K H m zs/\xs.length+zs.length<=sizeLine/\ ∀p,H p=none->Q (.ref p) (upd H p (.lst (xs++zs))))) :
  JN X G (.BinOp a .Add b pos) (dL da db):=imp (ud ho ha hb) fun σ H Q ⟨c,ow,ps,ws,R,e,q⟩=>by
 obtain⟨x,e1,e⟩:=am e
 obtain⟨y,e2,e⟩:=am e
 refine⟨c,ow,ps,x,R,e1,fun v H1 s1 r1=>⟨c,ow,ps,y,R.grow s1,e2,fun u H2 s2 r2=> ?_⟩⟩
 split at e
 ·rename_i xs ys
  split at e
  ·rename_i hl
   cases e
   obtain⟨l,vs,e3,sq,rs⟩:=(r1.same s2).lst
   obtain⟨m,us,e4,sq',rs'⟩:=r2.lst
   refine⟨l,m,vs,us,e3,e4,sq,sq',by rw[<-rs.len,<-rs'.len];exact hl,fun p hp=> ?_⟩
   have sp:=bx hp (.lst (vs++us))
   exact q p _ _ ((s1.trans s2).trans sp) ((s1.trans s2).free hp) ax ((Kp.take hp sp fun a z=>z.symm).reps (rs.app rs'))
  ·cases e
 ·cases e
theorem fF:fY X (binaryOp .Add) (fun x y H Q=>∃l m xs zs,x= .ref l/\y= .ref m/\eI X.K H l xs/\eI X.K H m zs/\xs.length+zs.length<=sizeLine/\ ∀p,H p=none->Q (.ref p) (upd H p (.lst (xs++zs)))):=by
 intro pins s σ H x y v u Q I rx ry h
 obtain⟨l,b,xs,zs,rfl,rfl,e1,e2,z,q⟩:=h
 obtain⟨its,r1,⟨⟨cls,dd,data,sl⟩,n,ho,hc,hd0,hd⟩,z1⟩:=I.list e1
 obtain⟨itb,r2,⟨⟨cls2,dd2,data2,sl2⟩,n2,ho2,hc2,hd02,hd2⟩,z2⟩:=I.list e2
 simp only at hc hd hc2 hd2
 subst hc hd hc2 hd2
 obtain rfl:v=Value.ref l:=rx
 obtain rfl:u=Value.ref b:=ry
 have hl1:=r1.length
 have hl2:=r2.length
 have ea:its.toArray++itb.toArray=(its++itb).toArray:=by simp
 refine concat_meets ⟨_,ho,rfl⟩ ⟨_,ho2,rfl⟩ noFill_list_add seq_list_add PySem.F.slot_list_add PySem.F.entry_list_add (PySem.F.args_list_add_2 _ _) (list_addW l b its.toArray itb.toArray n n2 dd dd2 sl sl2 (by rw[List.size_toArray,List.size_toArray];omega)) ⟨ho,ho2,?_⟩
 rw[ea]
 exact⟨.ref _,_,I.lnew (t':=s.toks) (r1.append r2) (by rw[List.length_append];omega),rfl,q _ I.fresh⟩
def KL(K:Fg)(G:Pg)(d:aX->Rx (Option Int)):TO:=fun σ H Q=>∃(c:Fr) (ow:gD) (ps:aX) (o:Option Int),bf K G c H ow ps σ /\d ps= .ok o/\ ∀H',Same H H'->Q o H'
abbrev JO(X:Cx)(G:Pg)(e:Option Expr)(d:aX->Rx (Option Int)):Prop:=PO X e (KL X.K G d)
def jn:aX->Rx (Option Int):=fun _=> .ok none
noncomputable def g9(d:DP):aX->Rx (Option Int):=fun ps=>(d ps).bind fun x=>match x with | .int i=> .ok (some i)|_=> .bad
theorem o_none:JO X G none jn:=fun pins s σ H Q I hq=>xP pins s σ H Q I (by
 obtain⟨c,ow,ps,o,R,e,q⟩:=hq
 cases e
 exact q H (Same.refl H))
theorem o_some(h:JP X G e da):JO X G (some e) (g9 da):=fun pins s σ H Q I hq=>xQ h pins s σ H Q I (by
 obtain⟨c,ow,ps,o,R,e,q⟩:=hq
 obtain⟨x,e1,e2⟩:=am e
 refine⟨c,ow,ps,x,R,e1,fun v H' s r=> ?_⟩
 split at e2
 ·cases e2;exact⟨_,r,q H' s⟩
 ·cases e2)
noncomputable def cutP(xs:List PV)(lo hi:Option Int):List PV:=(xs.drop (HT.sIx xs.length 0 lo)).take (HT.sIx xs.length xs.length hi-HT.sIx xs.length 0 lo)
noncomputable def cT(d:DP)(dl dh:aX->Rx (Option Int)):DA:=fun ps=>(d ps).bind fun x=>(dl ps).bind fun lo=>(dh ps).bind fun hi=>match x with | .lst xs=> .ok (cutP xs lo hi)|_=> .bad
theorem n_cut{lo hi:Option Expr}{dl dh:aX->Rx (Option Int)}{p2:Pos}(he:JB X G e da)(hl:JO X G lo dl)(hh:JO X G hi dh):JN X G (.Subscript e (.Slice lo hi none p2) pos) (cT da dl dh):=imp (ul xT he hl hh) fun σ H Q ⟨c,ow,ps,ws,R,e,q⟩=>by
 obtain⟨x,e1,e⟩:=am e
 obtain⟨l,e2,e⟩:=am e
 obtain⟨h,e3,e⟩:=am e
 refine⟨c,ow,ps,x,R,e1,fun v H1 s1 r1=>⟨c,ow,ps,l,R.grow s1,e2,fun H2 s2=>⟨c,ow,ps,h,(R.grow s1).grow s2,e3,fun H3 s3=> ?_⟩⟩⟩
 split at e
 ·cases e
  obtain⟨a,vs,e4,sq,rs⟩:=((r1.same s2).same s3).lst
  refine⟨a,vs,e4,sq,fun p hp=> ?_⟩
  have sp:=bx hp (.lst (rK vs l h))
  have sA:=(s1.trans s2).trans s3
  refine q p _ _ (sA.trans sp) (sA.free hp) ax ((Kp.take hp sp fun a z=>z.symm).reps ?_)
  unfold cutP rK
  rw[rs.len]
  exact(rs.drop _).take _
 ·cases e
def aj(f:List PV->Rx PV)(d:DA):DP:=fun ps=>(d ps).bind f
def Ei(K:Fg)(G:Pg)(ms:List Bool)(f:List PV->Rx PV)(r:List V->Hp->VK->Prop):Prop:=∀(H:Hp) (A:Av) (ws:List PV) (vs:List V) (w:PV) (Q:VK),jm H A->f ws= .ok w->dP K G H A ms ws vs->(∀z H',Same H H'->dB K G H' A w z->Q z H')->r vs H Q
theorem Ej{K:Fg}{ms:List Bool}{f:List PV->Rx PV}{r:List V->Hp->VK->Prop}{d:DA}(hf:Ei K G ms f r){σ :L2.St}{H:Hp}{Q:VK}(h:xr K G (aj f d) σ H Q):He r (Gb K G ms d) σ H Q:=by
 obtain⟨c,ow,ps,w,R,e,q⟩:=h
 obtain⟨ws,e1,e2⟩:=am e
 exact⟨c,ow,ps,ws,R,e1,fun vs H' s r=>hf H' _ ws vs w Q (R.grow s).used e2 r fun z H2 s2 r2=>q z H2 (s.trans s2) r2⟩
theorem p_callB{x:Str}{p:Pos}{id:String}{ms:List Bool}{f:List PV->Rx PV}{r:List V->Hp->VK->Prop}{d:DA}(hc:j5 X (.builtin id) r)(hf:Ei X.K G ms f r)(hg:Gl X x)(hm:X.mg x=none)(hv:bootBuiltins x=some (.builtin id))(ha:JA X G ms (e::es) d)(hn:x ≠ "__name__":=by decide)(hdb:(x == .(L))=false:=by decide)
  (he:starEach (e::es) X.env=.(S)::starEach es X.env:=by rfl) (hpl:.(V).any (·.1)=false:=by rfl):JP X G .(Am) (aj f d):=imp (nh hc hg hm hv ha hn hdb he hpl) fun _ _ _=>Ej hf
theorem dP.one{K:Fg}{H:Hp}{A:Av}{ws:List PV}{vs:List V}(h:dP K G H A [true] ws vs):∃w v,ws=[w]/\vs=[v]/\bU K G H A w v:=by
 obtain⟨w,wr,v,vr,rfl,rfl,r,rfl,rfl⟩:=h
 exact⟨w,v,rfl,rfl,r⟩
noncomputable def bR:List PV->Rx PV
 |[.str y]=>if y.length<=sizeLine then .ok (.int y.length) else .bad
 |[.lst xs]=> .ok (.int xs.length)
 |[.tup xs]=> .ok (.int xs.length)
 |_=> .bad
theorem cb_len{K:Fg}:Ei K G [true] bR (fun xs H Q=>∃x n,xs=[x]/\DB K x H n/\Q (.int n) H):=by
 intro H A ws vs w Q hu e r q
 obtain⟨x,v,rfl,rfl,rb⟩:=r.one
 clear r
 cases x <;> try cases e
 ·rename_i y
  have e:(if y.length<=sizeLine then Rx.ok (PV.int y.length) else .bad)= .ok w:=e
  split at e
  ·rename_i hy
   cases e
   rw[rb.str]
   exact⟨_,_,rfl,⟨hy,rfl⟩,q _ H (Same.refl H) rfl⟩
  ·cases e
 ·obtain⟨a,vs,rfl,sq,rs⟩:=rb.tup
  exact⟨_,_,rfl,.inr ⟨vs,sq,rfl⟩,q _ H (Same.refl H) (by show _=_;rw[rs.len])⟩
 ·obtain⟨a,vs,rfl,sq,rs⟩:=rb.lst
  exact⟨_,_,rfl,.inl ⟨vs,sq,rfl⟩,q _ H (Same.refl H) (by show _=_;rw[rs.len])⟩
noncomputable def j8:List PV->Rx (List PV)
 |[.lst xs]=> .ok xs
 |[.tup xs]=> .ok xs
 |_=> .bad
def fG(f:List PV->Rx (List PV))(d:DA):DA:=fun ps=>(d ps).bind f
theorem jN{x:Str}{p:Pos}{d:DA}(hg:Gl X "list")(hm:X.mg "list"=none)(ha:JA X G [true] [e] d)
  (he:starEach [e] X.env=.(S)::starEach [] X.env:=by rfl) (hpl:(backTo pos (starEach [] X.env)).any (·.1)=false:=by rfl):JN X G (.Call (.Name "list" p) [e] [] pos) (fG j8 d) :=
 imp (rJ lO hg hm boot_list ha (by decide) (by decide) he hpl) fun σ H Q ⟨c,ow,ps,ws,R,e,q⟩=>by
  obtain⟨xs,e1,e2⟩:=am e
  refine⟨c,ow,ps,xs,R,e1,fun vs H' s r=> ?_⟩
  obtain⟨x,v,rfl,rfl,rb⟩:=r.one
  clear r
  cases x <;> try cases e2
  ·obtain⟨a,vs,rfl,sq,rs⟩:=rb.tup
   exact⟨a,vs,rfl,.inr sq,fun l hl=>q l vs _ (s.trans (bx hl _)) (s.free hl) ax ((Kp.take hl (bx hl _) fun a z=>z.symm).reps rs)⟩
  ·obtain⟨a,vs,rfl,sq,rs⟩:=rb.lst
   exact⟨a,vs,rfl,.inl sq,fun l hl=>q l vs _ (s.trans (bx hl _)) (s.free hl) ax ((Kp.take hl (bx hl _) fun a z=>z.symm).reps rs)⟩
noncomputable def kd:PV->Nat
 |.non=>0 | .bl _=>1 | .int _=>2 | .str _=>3 | .tup _=>4 | .lst _=>5 | .dic _ _=>6 | .clo _ _=>9 | .dit _ _=>9 | .obj k _=>k+10
noncomputable def pb(G:Pg):Nat->Value
 |0=> .type "NoneType" |1=> .type "bool" |2=> .type "int" |3=> .type "str" |4=> .type "tuple" |5=> .type "list" |6=> .type "dict" |7=> .none|8=> .none|9=> .none
 |k+10=> .ref (G.cA k)
def nM(K:Fg)(C:Addr):Prop:=∀H a dx fs,H a=some (.ins C dx fs)->gZ K H (.ref a) (.ref C)
noncomputable def gM(l:List (Nat×Bool))(d:DP):DP:=fun ps=>(d ps).bind fun x=>match l.lookup (kd x)with|some b=> .ok (.bl b)|none=> .bad
structure en(K:Fg)(G:Pg)(cv:Value)(l:List (Nat×Bool)):Prop where
 kit:∀k b,l.lookup k=some b->PySem.W.kitOne K (pb G k) cv=some b
 cls:∀k b,l.lookup (k+10)=some b->nM K (G.cA k)
 n9:∀b,l.lookup 9≠some b
theorem uS(cv:Value)(l:List (Nat×Bool))(ok:en X.K G cv l):j5 X (.builtin "isinstance") (fun xs H Q=>∃A w v c b,xs=[v,c]/\(∀u,aR c u->u=cv)/\bU X.K G H A w v/\l.lookup (kd w)=some b/\Q (.bl b) H):=by
 intro pins s σ H xs us Q I r h
 obtain⟨A,w,v,c,b,rfl,hc,rw',hl,q⟩:=h
 obtain⟨u,u',rfl,ru,rc⟩:=Dz r
 obtain rfl:=hc _ rc
 have kit:=ok.kit _ _ hl
 have fin:∀tk,EP X pins σ Q (.bool b) { s with toks:=tk }:=fun tk=>⟨.bl b,H,I.tok tk,rfl,q⟩
 cases w with
 |non=>rw[rw'.non]at ru;exact dW I ru .non kit fin
 |bl k=>rw[rw'.bl]at ru;exact dW I ru (.bl _) kit fin
 |int i=>rw[rw'.int]at ru;exact dW I ru (.int _) kit fin
 |str i=>rw[rw'.str]at ru;exact dW I ru (.str _) kit fin
 |tup ws =>
  obtain⟨a,vs,rfl,sq,rs⟩:=rw'.tup
  cases (show u=Value.ref a from ru)
  obtain⟨its,_,p,_⟩:=I.tuple sq
  obtain⟨o,h1,h2,_⟩:=p
  exact PySem.W.kia_one PySem.W.kitx_tuple I.kIn ⟨o,h1,h2⟩ kit (fun z=>nomatch z) fin
 |lst ws =>
  obtain⟨a,vs,rfl,sq,rs⟩:=rw'.lst
  cases (show u=Value.ref a from ru)
  obtain⟨its,_,⟨o,n,h1,h2,_⟩,_⟩:=I.list sq
  exact PySem.W.kia_one PySem.W.kitx_list I.kIn ⟨o,h1,h2⟩ kit (fun z=>nomatch z) fin
 |clo f ws=>exact absurd hl (ok.n9 b)
 |dit ks ws=>exact absurd hl (ok.n9 b)
 |dic ks ws =>
  obtain⟨a,vs,ep,rfl,hH,_,rs⟩:=rw'.dic
  exact dW I ru (.dK hH) kit fin
 |obj k ws =>
  obtain⟨a,dx,vs,rfl,hH,_,rs⟩:=rw'.obj
  exact dW I ru (ok.cls k b hl H a dx _ hH) kit fin
theorem j9{ce:Expr}{cvv:V}{cv:Value}{l:List (Nat×Bool)}{p:Pos}(hg:Gl X "isinstance")(hm:X.mg "isinstance"=none)(ok:en X.K G cv l)(hcv:∀u,aR cvv u->u=cv)(ha:JB X G e da)(hc:PE X ce (tC cvv))
  (he:starEach [e,ce] X.env=.(S)::starEach [ce] X.env:=by rfl) (he2:starEach [ce] X.env=(false,eval ce X.env)::starEach [] X.env:=by rfl) (hpl:(backTo pos (starEach [ce] X.env)).any (·.1)=false:=by rfl) :
  JP X G (.Call (.Name "isinstance" p) [e,ce] [] pos) (gM l da) :=
 imp (nh (uS cv l ok) hg hm boot_isinstance (dg ha (dg hc fB he2) he) (by decide) (by decide) he hpl) fun σ H Q ⟨c,ow,ps,w,R,e,q⟩=>by
  obtain⟨x,e1,e2⟩:=am e
  refine⟨c,ow,ps,x,R,e1,fun v H' s r=> ?_⟩
  split at e2
  ·rename_i b hb
   cases e2
   exact⟨_,x,v,cvv,b,rfl,hcv,r,hb,q _ H' s rfl⟩
  ·cases e2
theorem gN{f:Str}{v:V}:∀{ns:List Str} {vs:List V} {j:Nat},ns.Nodup->ns[j]? =some f->vs[j]? =some v->(ns.zip vs).lookup f=some v
 |[],vs,j,_,h,_=>by simp at h
 |n::ns,[],j,_,_,h=>by simp at h
 |n::ns,u::vs,0,_,h1,h2=>by
  simp at h1 h2;subst h1;subst h2
  simp
 |n::ns,u::vs,j+1,nd,h1,h2=>by
  have h1':ns[j]? =some f:=by simpa using h1
  have hne:(f == n)=false:=by
   have:f≠n:=fun z=>by subst z;exact(List.nodup_cons.mp nd).1 (List.mem_of_getElem? h1')
   simpa using this
  rw[List.zip_cons_cons,List.lookup_cons,hne]
  exact gN (j:=j) (List.nodup_cons.mp nd).2 h1' (by simpa using h2)
structure bQ(K:Fg)(G:Pg)(f:Str)(l:List (Nat×Nat)):Prop where
 all:∀k j,l.lookup k=some j->kN K (G.cA k)/\bq K (G.cA k) f/\(G.fN k).Nodup/\(G.fN k)[j]? =some f
noncomputable def aZ(l:List (Nat×Nat))(d:DP):DP:=fun ps=>(d ps).bind fun x=>match x with
 |.obj k xs=>(match l.lookup k with|some j=>(match xs[j]? with|some w=> .ok w|none=> .bad)|none=> .bad)
 |_=> .bad
theorem p_fld{f:Str}{l:List (Nat×Nat)}(ok:bQ X.K G f l)(ha:JP X G e da)(hb:attributeBase e f X.env (eval e X.env)=eval e X.env):JP X G (.Attribute e f pos) (aZ l da):=imp (uj ha hb) fun σ H Q ⟨c,ow,ps,w,R,e,q⟩=>by
 obtain⟨x,e1,e2⟩:=am e
 refine⟨c,ow,ps,x,R,e1,fun v H' s r=> ?_⟩
 cases x with
 |obj k xs =>
  have e2:(match l.lookup k with|some j=>(match xs[j]? with|some w=>Rx.ok w|none=> .bad)|none=> .bad)= .ok w:=e2
  split at e2
  ·rename_i j hj
   split at e2
   ·rename_i w' hw
    cases e2
    obtain⟨a,dx,vs,rfl,hH,hl,na,rs⟩:=r
    obtain⟨c1,c2,c3,c4⟩:=ok.all k j hj
    obtain⟨u,hu,ru⟩:=rs.get hw
    exact⟨a,_,dx,_,u,rfl,hH,c1,c2,gN c3 c4 hu,q u H' s ru⟩
   ·cases e2
  ·cases e2
 |_=>cases e2
end
end DN
end
noncomputable section
namespace DN
open PySem PySem.Spec PyProof.Rows L2
def JX(K:Fg)(G:Pg)(B:Av)(H:Hp)(A:Av):Sl->Option V->Prop
 |.no,_=>True
 |.v w,o=>∃v,o=some v/\dB K G H A w v
 |.own _,_=>False
 |.bor w,o=>∃v,o=some v/\(dB K G H A w v\/ ∃x p,w=x.pv/\v= .ref p/\fE K G H A x p/\B p)
 |.ino _,_=>False
 |.ini _ _,_=>False
 |.dol _ _,_=>False
 |.als _ _,_=>False
structure gO(K:Fg)(G:Pg)(B:Av)(H:Hp)(A:Av)(ps:aX)(σ :L2.St):Prop where
 len:ps.length= σ.length
 slot:∀(i:Nat) (s:Sl) (o:Option V),ps[i]? =some s-> σ[i]? =some o->JX K G B H A s o
noncomputable section
variable{K:Fg}{G:Pg}{H H':Hp}{A A' B:Av}{ps:aX}{σ :L2.St}
def mT:gD:=fun _=>none
theorem Ge{c:Fr}(a:Addr):av c mT a->c.A0 a:=by
 rintro(h|⟨i,h⟩)
 ·exact h
 ·cases h
theorem gO.toS(R:gO K G B H A ps σ)(u:jm H A)(ub:jm H B):bf K G ⟨H,A,B,none⟩ H mT ps σ :=by
 refine⟨R.len,jL.of (Same.refl H),(fun p e=>(nomatch e)),u,(fun a z=>⟨ub a z,fun e=>nomatch e⟩),(fun i p e=>(nomatch e)),(fun i j p e=>(nomatch e)),(fun _ _ e=>(nomatch e)),fun i s o e1 e2=> ?_⟩
 have q:=R.slot i s o e1 e2
 have k:Kp K G H A H (av ⟨H,A,B,none⟩ mT):=Kp.weak fun a z=>Ge a z
 cases s with
 |no=>rfl
 |v w=>obtain⟨v,e,r⟩:=q;exact⟨rfl,v,e,k.rep r⟩
 |own x=>exact q.elim
 |ino x=>exact q.elim
 |ini k xs=>exact q.elim
 |dol ks xss=>exact q.elim
 |als d j=>exact q.elim
 |bor w =>
  obtain⟨v,e,r⟩:=q
  refine⟨rfl,v,e,?_⟩
  rcases r with r|⟨x,p,e1,e2,r,n⟩
  ·exact .inl (k.rep r)
  ·exact .inr ⟨x,p,e1,e2,r.keep k rfl,n⟩
theorem gO.ofS{c:Fr}(R:bf K G c H mT ps σ)(hl:c.lx=none):gO K G c.B0 H c.A0 ps σ :=by
 refine⟨R.len,fun i s o e1 e2=> ?_⟩
 have q:=R.slot i s o e1 e2
 have k:Kp K G H (av c mT) H c.A0:=Kp.weak fun a z=> .inl z
 cases s with
 |no=>exact True.intro
 |v w=>obtain⟨_,v,e,r⟩:=q;exact⟨v,e,k.rep r⟩
 |own x=>obtain⟨p,e,_⟩:=q;cases e
 |ino x=>obtain⟨_,_,p,_,e,_⟩:=q;rw[hl]at e;cases e
 |ini k xs=>obtain⟨_,_,p,_,e,_⟩:=q;rw[hl]at e;cases e
 |dol ks xss=>obtain⟨p,qs,e,_⟩:=q;cases e
 |als d j=>obtain⟨_,q',_,e⟩:=q;cases e
 |bor w =>
  obtain⟨_,v,e,r⟩:=q
  refine⟨v,e,?_⟩
  rcases r with r|⟨x,p,e1,e2,r,n⟩
  ·exact .inl (k.rep r)
  ·exact .inr ⟨x,p,e1,e2,r.keep k rfl,n⟩
noncomputable def Sl.out:Sl->Sl
 |.own x=> .bor x.pv
 |.ino x=> .bor x.pv
 |.ini _ _=> .no
 |.dol _ _=> .no
 |.als _ _=> .no
 |s=>s
def pc(own:List Str)(caps:List (Str×Nat))(ps:aX):aX:=List.replicate own.length .no++caps.map fun p=>((ps[p.2]?).getD .no).out
theorem bf.caps{c:Fr}{ow:gD}(R:bf K G c H ow ps σ)(own:List Str)(caps:List (Str×Nat)):gO K G (fun p=>H p≠none) H (av c ow) (pc own caps ps) (lV own caps σ):=by
 refine⟨by simp[pc,lV],fun i s o e1 e2=> ?_⟩
 unfold pc at e1
 unfold lV at e2
 rcases Nat.lt_or_ge i own.length with h|h
 ·rw[List.getElem?_append_left (by simpa using h),List.getElem?_replicate,if_pos h]at e1
  cases e1
  exact True.intro
 ·rw[List.getElem?_append_right (by simpa using h),List.length_replicate,List.getElem?_map]at e1 e2
  cases ep:caps[i-own.length]? with
  |none=>rw[ep]at e1;cases e1
  |some p =>
   rw[ep]at e1 e2
   have e1:((ps[p.2]?).getD .no).out=s:=Option.some.inj e1
   have e2:(σ[p.2]?).getD none=o:=Option.some.inj e2
   cases eq:ps[p.2]? with
   |none=>rw[eq]at e1;subst e1;exact True.intro
   |some t =>
    obtain⟨o',eo,q⟩:=R.get eq
    rw[eq]at e1;rw[eo]at e2
    have e2:o'=o:=e2
    subst e2
    subst e1
    cases t with
    |no=>exact True.intro
    |v w=>obtain⟨_,v,e,r⟩:=q;exact⟨v,e,r⟩
    |own x=>obtain⟨p,_,e,r⟩:=q;obtain⟨o',eo,_⟩:=r.at;exact⟨_,e,.inr ⟨x,p,rfl,rfl,r,by show H p≠none;rw[eo];simp⟩⟩
    |ino x=>obtain⟨_,_,p,e,_,r⟩:=q;obtain⟨o',eo,_⟩:=r.at;exact⟨_,e,.inr ⟨x,p,rfl,rfl,r,by show H p≠none;rw[eo];simp⟩⟩
    |ini k xs=>exact True.intro
    |dol ks xss=>exact True.intro
    |als d j=>exact True.intro
    |bor w =>
     obtain⟨_,v,e,r⟩:=q
     refine⟨v,e,?_⟩
     rcases r with r|⟨x,p,e1,e2,r,_⟩
     ·exact .inl r
     ·obtain⟨o',eo,_⟩:=r.at
      exact .inr ⟨x,p,e1,e2,r,by show H p≠none;rw[eo];simp⟩
end
def tU(K:Fg)(G:Pg)(ms:List Bool)(g:List PV->Rx PV):Sp:=fun vs H Q _=>∃A ws w,jm H A/\dP K G H A ms ws vs/\g ws= .ok w/\ ∀v H',Same H H'->dB K G H' A w v->Q v H'
noncomputable section
variable{X:Cx}{G:Pg}{e a b o:Expr}{es:List Expr}{da db:DP}{d:DA}{pos p apos:Pos}{x m:Str}{k:Nat}{ms:List Bool}{g:List PV->Rx PV}
theorem p_fn(h:FnAt X.prog X.w X.K X.mg X.base fX k x (tU X.K G ms g))(hr:bv k X.A)(hg:Gl X x)(ha:JA X G ms (e::es) d)(hdb:(x == .(L))=false:=by decide)
  (he:starEach (e::es) X.env=.(S)::starEach es X.env:=by rfl) (hpl:.(V).any (·.1)=false:=by rfl):JP X G .(Am) (aj g d) :=
 imp (E2 (E:=E0) h hr hg kW ha hdb he hpl) fun σ H Q ⟨c,ow,ps,w,R,e,q⟩=>by
  obtain⟨ws,e1,e2⟩:=am e
  exact⟨c,ow,ps,ws,R,e1,fun vs H' s r=>⟨_,ws,w,(R.grow s).used,r,e2,fun v H2 s2 r2=>q v H2 (s.trans s2) r2⟩⟩
theorem nN{f:Str}:∀{ns:List Str} {vs:List V},f∉ns->(ns.zip vs).lookup f=none
 |[],vs,_=>rfl
 |n::ns,[],_=>rfl
 |n::ns,u::vs,h=>by
  have h1:(f == n)=false:=by
   have:f≠n:=fun z=>h (by rw[z];exact List.mem_cons_self)
   simpa using this
  rw[List.zip_cons_cons,List.lookup_cons,h1]
  exact nN fun z=>h (List.mem_cons_of_mem _ z)
structure gx(P:Program)(w:World)(K:Fg)(mg:Str->Option Value)(base:Bs)(G:Pg)(k:Nat)(m:Str)(ms:List Bool)(tab:List (Nat×Nat))(g:Nat->List PV->Rx PV):Prop where
 all:∀c f,tab.lookup c=some f->lT P w K mg base fX k (G.cA c) m (tU K G (false::ms) (g f))/\m∉G.fN c
noncomputable def aO(tab:List (Nat×Nat))(g:Nat->List PV->Rx PV)(d:DP)(r:DA):DP:=fun ps=>(d ps).bind fun x=>match x with
 |.obj c xs=>(match tab.lookup c with|some f=>(r ps).bind fun ws=>g f (.obj c xs::ws)|none=> .bad)
 |_=> .bad
theorem qg{tab:List (Nat×Nat)}{g:Nat->List PV->Rx PV}(h:gx X.prog X.w X.K X.mg X.base G k m ms tab g){σ :L2.St}{H:Hp}{Q:VK}(hq:xr X.K G (aO tab g da d) σ H Q) :
  oY (ι :={ q:Nat×Nat // tab.lookup q.1=some q.2 }) (fun i=>G.cA i.1.1) m (fun i=>tU X.K G (false::ms) (g i.1.2)) E0 (xr X.K G da) (Gb X.K G ms d) σ H Q:=by
 obtain⟨c,ow,ps,w,R,e,q⟩:=hq
 obtain⟨x,e1,e2⟩:=am e
 refine⟨c,ow,ps,x,R,e1,fun v H' s r=> ?_⟩
 cases x with
 |obj kc xs =>
  have e2:(match tab.lookup kc with|some f=>(d ps).bind fun ws=>g f (.obj kc xs::ws)|none=> .bad)= .ok w:=e2
  split at e2
  ·rename_i f hf
   obtain⟨ws,e3,e4⟩:=am e2
   obtain⟨a,dx,vs,ev,hH,hl,na,rs⟩:=id r
   refine⟨⟨(kc,f),hf⟩,a,dx,_,ev,hH,nN (h.all kc f hf).2,c,ow,ps,ws,R.grow s,e3,fun vs2 H2 s2 r2=> ?_⟩
   exact⟨_,.obj kc xs::ws,w,((R.grow s).grow s2).used,⟨_,_,_,_,rfl,rfl,by rw[if_neg Bool.false_ne_true];exact r.same s2,r2⟩,e4,fun v3 H3 s3 r3=>q v3 H3 ((s.trans s2).trans s3) r3⟩
  ·cases e2
 |_=>cases e2
theorem p_meth{tab:List (Nat×Nat)}{g:Nat->List PV->Rx PV}{pl:Sem Bool}(h:gx X.prog X.w X.K X.mg X.base G k m ms tab g)(hr:bv k X.A)(ho:JP X G o da)(ha:JA X G ms (e::es) d)
  (hst:starEach (e::es) X.env=.(S)::starEach es X.env:=by rfl) (hpl:.(V).any (·.1)=false:=by rfl)
  (ht:eval (.Call (.Attribute o m apos) (e::es) [] pos) X.env=(do
   let ov <- eval o X.env
   standAt apos.atName
   let (f,first) <- holding [ov] (getMethod ov m pl)
   callWith pos f first (backTo pos (starEach (e::es) X.env)) (backToKw pos (keywordEach [] X.env))):=by rfl):JP X G (.Call (.Attribute o m apos) (e::es) [] pos) (aO tab g da d) :=
 imp (uE (ι :={ q:Nat×Nat // tab.lookup q.1=some q.2 }) (pl:=pl) ho (fun i=>(h.all i.1.1 i.1.2 i.2).1) hr kW ha hst hpl ht) fun _ _ _=>qg h
theorem eN{tab:List (Nat×Nat)}{g:Nat->List PV->Rx PV}{pl:Sem Bool}(h:gx X.prog X.w X.K X.mg X.base G k m [] tab g)(hr:bv k X.A)(ho:JP X G o da)
  (ht:eval (.Call (.Attribute o m apos) [] [] pos) X.env=(do
   let ov <- eval o X.env
   standAt apos.atName
   let (f,first) <- holding [ov] (getMethod ov m pl)
   callWith pos f first (backTo pos (starEach [] X.env)) (backToKw pos (keywordEach [] X.env))):=by rfl):JP X G (.Call (.Attribute o m apos) [] [] pos) (aO tab g da ah) :=
 imp (rR (ι :={ q:Nat×Nat // tab.lookup q.1=some q.2 }) (pl:=pl) ho (fun i=>(h.all i.1.1 i.1.2 i.2).1) hr kW ht) fun σ H Q hq=>by
  obtain⟨c,ow,ps,x,R,e1,f⟩:=qg h hq
  refine⟨c,ow,ps,x,R,e1,fun v H' s r=> ?_⟩
  obtain⟨i,a,dx,fs,e2,e3,e4,c',ow',ps',ws,R',e5,f2⟩:=f v H' s r
  have:ws=[]:=by cases e5;rfl
  subst this
  exact⟨i,a,dx,fs,e2,e3,e4,f2 [] H' (Same.refl H') ⟨rfl,rfl⟩⟩
def eB(c:Nat)(d:DA):DP:=fun ps=>(d ps).bind fun ws=> .ok (.obj c ws)
theorem cL{c:Nat}(h:eM X.prog X.w X.K X.mg X.base x (G.cA c) (G.fN c))(hr:bv (k+2) X.A)(hg:Gl X x)(ha:JA X G ms (e::es) d)(hl:(G.fN c).length=ms.length)(hm:ms.all (! ·)=true:=by rfl)(hdb:(x == .(L))=false:=by decide)
  (he:starEach (e::es) X.env=.(S)::starEach es X.env:=by rfl) (hpl:.(V).any (·.1)=false:=by rfl):JP X G .(Am) (eB c d) :=
 imp (AR h hr hg ha hdb he hpl) fun σ H Q ⟨f,ow,ps,w,R,e,q⟩=>by
  obtain⟨ws,e1,e2⟩:=am e
  cases e2
  refine⟨f,ow,ps,ws,R,e1,fun vs H' s r=>⟨by rw[r.len.2,hl],fun y dy n1 n2 ne=> ?_⟩⟩
  have sn:=kY (C:=G.cA c) (fs:=(G.fN c).zip vs) n1 n2
  exact q _ _ (s.trans sn) ⟨y,dy,vs,rfl,qb,by rw[r.len.2,hl],fun z=>(R.grow s).used y z n1,(r.reps' hm).same sn⟩
theorem dQ{c:Nat}(M:AO X.K (G.cA c))(hf:G.fN c=[])(hg:Gl X x)(hm:X.mg x=some (.ref (G.cA c)))(hdb:(x == .(L))=false:=by decide):JP X G (.Call (.Name x p) [] [] pos) (dC (.obj c [])) :=
 imp (rV M hg hm hdb) fun σ H Q ⟨f,ow,ps,w,R,e,q⟩=>by
  cases e
  intro y dy n1 n2 ne
  have sn:=kY (C:=G.cA c) (fs:=[]) n1 n2
  exact q _ _ sn ⟨y,dy,[],rfl,by rw[List.zip_nil_right];exact qb,by rw[hf];rfl,fun z=>R.used y z n1,rfl⟩
abbrev DG:=PV->aX->Rx aX
def tG(K:Fg)(G:Pg)(g:DG):TG:=fun v σ H Q=>∃(c:Fr) (ow:gD) (ps:aX) (w:PV) (ps':aX),bf K G c H ow ps σ /\dB K G H (av c ow) w v/\g w ps= .ok ps' /\
 ∀σ' ow',bf K G c H ow' ps' σ'->(∀a,av c ow' a->av c ow a)->Q σ' H
def KM(K:Fg)(G:Pg)(g:List PV->aX->Rx aX):xE:=fun vs σ H Q=>∃(c:Fr) (ow:gD) (ps:aX) (ws:List PV) (ps':aX),bf K G c H ow ps σ /\aC K G H (av c ow) ws vs/\g ws ps= .ok ps' /\
 ∀σ' ow',bf K G c H ow' ps' σ'->(∀a,av c ow' a->av c ow a)->Q σ' H
abbrev JG(X:Cx)(G:Pg)(t:Expr)(g:DG):Prop:=PG X t (tG X.K G g)
abbrev Gf(X:Cx)(G:Pg)(t:List Expr)(g:List PV->aX->Rx aX):Prop:=Ac X t (KM X.K G g)
theorem Ek{e:Expr}{t t':TG}(h:PG X e t)(f:∀v σ H Q,t' v σ H Q->t v σ H Q):PG X e t':=fun pins s σ H v u Q I r q=>h pins s σ H v u Q I r (f v σ H Q q)
theorem zu{e:List Expr}{t t':xE}(h:Ac X e t)(f:∀v σ H Q,t' v σ H Q->t v σ H Q):Ac X e t':=fun pins s σ H v u Q I r q=>h pins s σ H v u Q I r (f v σ H Q q)
def aD(i:Nat):DG:=fun w ps=> .ok (ps.set i (.v w))
theorem bX{i:Nat}(hN:X.N.Nodup)(hi:X.N[i]? =some x)(hx:mW X.env.scope x)(hf:X.fn x=true\/X.env.scope.names.lookup x=some .local:=by first|exact .inl rfl|exact .inr rfl|assumption):JG X G (.Name x pos) (aD i) :=
 Ek (xF hN hi hx hf) fun v σ H Q ⟨c,ow,ps,w,ps',R,r,e,q⟩=>by
  cases e
  exact q _ _ (R.setV r) g7
noncomputable def ja:List PV->aX->Rx aX
 |[],ps=> .ok ps
 |_::_,_=> .bad
noncomputable def ci(g:DG)(gs:List PV->aX->Rx aX):List PV->aX->Rx aX
 |w::ws,ps=>(g w ps).bind fun ps'=>gs ws ps'
 |[],_=> .bad
theorem pd:Gf X G [] ja:=zu xG fun vs σ H Q ⟨c,ow,ps,ws,ps',R,r,e,q⟩=>by
 cases ws with
 |nil=>cases e;exact⟨r,q σ ow R fun _ z=>z⟩
 |cons w ws=>cases e
theorem eO{t:Expr}{ts:List Expr}{g:DG}{gs:List PV->aX->Rx aX}(h1:JG X G t g)(h2:Gf X G ts gs)(hs:(assignEach (t::ts) X.env).map (·.2)=assign t X.env::(assignEach ts X.env).map (·.2):=by rfl):Gf X G (t::ts) (ci g gs) :=
 zu (u3 h1 h2 hs) fun vs σ H Q ⟨c,ow,ps,ws,ps',R,r,e,q⟩=>by
  cases ws with
  |nil=>cases e
  |cons w ws =>
   obtain⟨v,vr,rfl,r1,r2⟩:=r
   obtain⟨ps1,e1,e2⟩:=am e
   refine⟨v,vr,rfl,c,ow,ps,w,ps1,R,r1,e1,fun σ' ow' R' wk=> ?_⟩
   exact⟨c,ow',ps1,ws,ps',R',(Kp.weak wk).reps r2,e2,fun σ2 ow2 R2 wk2=>q σ2 ow2 R2 fun a z=>wk a (wk2 a z)⟩
noncomputable def jb(n:Nat)(gs:List PV->aX->Rx aX):DG:=fun w ps=>match w with | .tup ws=>if ws.length=n then gs ws ps else .bad|_=> .bad
theorem uT{ts:List Expr}{j n:Nat}{gs:List PV->aX->Rx aX}(hc:X.calm=true)(h:Gf X G ts gs)(hn:(assignEach ts X.env).length=n:=by rfl)(hst:(assignEach ts X.env).findIdx? (·.1)=none:=by rfl):JG X G (.Tuple ts j pos) (jb n gs) :=
 Ek (Ae hc h hn hst) fun v σ H Q ⟨c,ow,ps,w,ps',R,r,e,q⟩=>by
  cases w with
  |tup ws =>
   have e:(if ws.length=n then gs ws ps else .bad)= .ok ps':=e
   split at e
   ·rename_i hl
    obtain⟨a,vs,rfl,sq,rs⟩:=r
    exact⟨a,vs,rfl,gA.of sq,by rw[<-rs.len];exact hl,c,ow,ps,ws,ps',R,rs,e,q⟩
   ·cases e
  |_=>cases e
end
end DN
end
noncomputable section
namespace DN
open PySem PySem.Spec PyProof.Rows L2
def Wk(K:Fg)(G:Pg)(c:Fr)(J:It)(H:Hp)(A:Av)(vs:List V):Prop:=∀H' A',Kp K G H A H' A'->jL c H' ->
 (∀(i:Nat) (x:V),vs[i]? =some x->J.go i H'/\ ∀y H2,J.yld i H' y H2->H2=H'/\y=x)/\J.stop vs.length H'
def KN(J:It)(H:Hp)(vs:List V):Prop:=∀H',Same H H'->(∀(i:Nat) (x:V),vs[i]? =some x->J.go i H'/\ ∀y H2,J.yld i H' y H2->H2=H'/\y=x)/\J.stop vs.length H'
def KO(K:Fg)(G:Pg)(d:DA):TI:=fun σ H R=>∃(c:Fr) (ow:gD) (ps:aX) (ws:List PV),bf K G c H ow ps σ /\d ps= .ok ws/\ ∀J H' vs,Same H H'->aC K G H' (av c ow) ws vs->Wk K G c J H' (av c ow) vs->R J H'
def El(K:Fg)(G:Pg)(d:DA):TI:=fun σ H R=>∃(c:Fr) (ow:gD) (ps:aX) (ws:List PV),bf K G c H ow ps σ /\d ps= .ok ws/\ ∀J H' vs,Same H H'->aC K G H' (av c ow) ws vs->KN J H' vs->R J H'
abbrev JI(X:Cx)(G:Pg)(tg it:Expr)(d:DA):Prop:=PI X tg it (KO X.K G d)
abbrev Em(X:Cx)(G:Pg)(tg it:Expr)(d:DA):Prop:=PI X tg it (El X.K G d)
noncomputable section
variable{X:Cx}{G:Pg}{e a b o tg:Expr}{es:List Expr}{da db:DP}{d:DA}{pos p apos:Pos}{x m:Str}{k:Nat}{ms:List Bool}
theorem uU{it:Expr}{t t':TI}(h:PI X tg it t)(f:∀σ H R,t' σ H R->t σ H R):PI X tg it t':=fun pins s σ H R I q=>h pins s σ H R I (f σ H R q)
def aE(d:DP):DA:=fun ps=>(d ps).bind fun x=>match x with | .lst xs=> .ok xs|_=> .bad
def fH(d:DP):DA:=fun ps=>(d ps).bind fun x=>match x with | .tup xs=> .ok xs|_=> .bad
theorem qh{K:Fg}{a:Addr}{vs:List V}{H:Hp}(h:eI K H a vs):(∀(i:Nat) (x:V),vs[i]? =some x->(Do K a).go i H/\ ∀y H2,(Do K a).yld i H y H2->H2=H/\y=x)/\(Do K a).stop vs.length H :=
 ⟨fun i x e=>⟨⟨vs,x,h,e⟩,fun y H2 ⟨e2,hy⟩=>⟨e2,Option.some.inj ((hy vs h).symm.trans e)⟩⟩,⟨vs,h,Nat.le_refl _⟩⟩
theorem B4{K:Fg}{a:Addr}{vs:List V}{H:Hp}(h:gA K H a vs):(∀(i:Nat) (x:V),vs[i]? =some x->(Dp K a).go i H/\ ∀y H2,(Dp K a).yld i H y H2->H2=H/\y=x)/\(Dp K a).stop vs.length H :=
 ⟨fun i x e=>⟨⟨vs,x,h,e⟩,fun y H2 ⟨e2,hy⟩=>⟨e2,Option.some.inj ((hy vs h).symm.trans e)⟩⟩,⟨vs,h,Nat.le_refl _⟩⟩
theorem Hr(h:JP X G e da):JI X G tg e (aE da):=uU (pX h) fun σ H R ⟨c,ow,ps,ws,S,e,q⟩=>by
 obtain⟨x,e1,e2⟩:=am e
 refine⟨c,ow,ps,x,S,e1,fun v H' s r=> ?_⟩
 split at e2
 ·cases e2
  obtain⟨a,vs,rfl,rd,rs⟩:=r
  exact⟨a,rfl,⟨vs,rd.sq⟩,q _ H' vs s rs fun H2 A2 k _=>qh (k.rdL rd).sq⟩
 ·cases e2
noncomputable def yi(i:Nat):DA:=fun ps=>match ps[i]? with|some (.bor (.lst xs))=> .ok xs|_=> .bad
theorem s_list(h:JB X G e da):Em X G tg e (aE da):=uU (pX h) fun σ H R ⟨c,ow,ps,ws,S,e,q⟩=>by
 obtain⟨x,e1,e2⟩:=am e
 refine⟨c,ow,ps,x,S,e1,fun v H' s r=> ?_⟩
 split at e2
 ·cases e2
  obtain⟨a,vs,rfl,rd,rs⟩:=r.lst
  exact⟨a,rfl,⟨vs,rd⟩,q _ H' vs s rs fun H2 k=>qh (k.seq rd)⟩
 ·cases e2
theorem i_topT{x:Str}{t:Addr}{ws:List PV}{vs:List V}(T:jl X.K t vs)(hg:Gl X x)(hm:X.mg x=some (.ref t))(hr:∀H A,aC X.K G H A ws vs)(hd:(x == .(L))=false:=by decide):JI X G tg (.Name x pos) (fH (dC (.tup ws))) :=
 uU (Aj (cJ hg hm hd)) fun σ H R ⟨c,ow,ps,ws',S,e,q⟩=>by
  cases e
  exact⟨t,rfl,⟨vs,T.sq H⟩,q _ H vs (Same.refl H) (hr H _) fun H2 A2 k _=>B4 (T.sq H2)⟩
theorem s_of_i(h:JI X G tg e d):Em X G tg e d:=uU h fun σ H R ⟨c,ow,ps,ws,S,e,q⟩=>⟨c,ow,ps,ws,S,e,fun J H' vs s rs w=>q J H' vs s rs fun H2 k=>w H2 _ (Kp.of_same k) (S.grow (s.trans k)).same⟩
def ig(lo:Int)(n:Nat):List PV:=(List.range n).map fun(i:Nat)=>PV.int (lo+(i:Int))
theorem uV{K:Fg}{H:Hp}{A:Av}{lo:Int}{n:Nat}:aC K G H A (ig lo n) (lW lo n):=by
 unfold ig lW
 generalize List.range n=l
 induction l with
 |nil=>rfl
 |cons x xs ih=>exact⟨_,_,rfl,rfl,ih⟩
theorem B5{lo:Int}{n:Nat}{H:Hp}:(∀(i:Nat) (x:V),(lW lo n)[i]? =some x->(CH lo n).go i H/\ ∀y H2,(CH lo n).yld i H y H2->H2=H/\y=x)/\(CH lo n).stop (lW lo n).length H:=by
 refine⟨fun i x e=> ?_,by show n<=(lW lo n).length;rw[nA];exact Nat.le_refl _⟩
 have h:=(List.getElem?_eq_some_iff.mp e).1
 rw[nA]at h
 rw[ya h]at e
 exact⟨h,fun y H2 ⟨e2,hy⟩=>⟨e2,hy.trans (Option.some.inj e)⟩⟩
noncomputable def bA(d:DA):DA:=fun ps=>(d ps).bind fun ws=>match ws with|[.int j]=>if -(2 ^ 62)<=j/\j<2 ^ 62 then .ok (ig 0 j.toNat) else .bad|_=> .bad
theorem i_rng1{ea:Expr}(hg:Gl X "range")(hm:X.mg "range"=none)(ha:JA X G [false] [ea] d)(hs:starEach [ea] X.env=[(false,eval ea X.env)]:=by rfl):JI X G tg (.Call (.Name "range" p) [ea] [] pos) (bA d) :=
 uU (rB hg hm ha hs) fun σ H R ⟨c,ow,ps,ws,S,e,q⟩=>by
  obtain⟨xs,e1,e2⟩:=am e
  refine⟨c,ow,ps,xs,S,e1,fun vs H' s r=> ?_⟩
  split at e2
  ·split at e2
   ·rename_i j hj
    cases e2
    obtain⟨v,vr,rfl,r1,rfl⟩:=dP.reps' r rfl
    exact⟨j,by rw[show v=V.int j from r1],hj.1,hj.2,q _ H' _ s uV fun _ _ _ _=>B5⟩
   ·cases e2
  ·cases e2
abbrev En(X:Cx)(G:Pg)(ifs:List Expr)(d:DT):Prop:=E1 X ifs (rY X.K G d)
def bP:DT:=fun _=> .ok true
theorem ts_nil:En X G [] bP:=fun pins s σ H Q I h=>y4 pins s σ H Q I (by
 obtain⟨c,ow,ps,b,R,e,q⟩:=h
 cases e
 exact q H (Same.refl H))
theorem ts_one{c:Expr}{dt:DT}(h:JT X G c dt):En X G [c] dt:=y6 h
noncomputable def jO(g:DG)(dt:DT)(de:DP):List PV->aX->Rx (List PV)
 |[],_=> .ok []
 |x::xs,ps=>(g x ps).bind fun ps1=>(dt ps1).bind fun b=>if b=true then(de ps1).bind fun y=>(jO g dt de xs ps1).bind fun r=> .ok (y::r) else jO g dt de xs ps1
noncomputable def dComp(own:List Str)(caps:List (Str×Nat))(di:DA)(g:DG)(dt:DT)(de:DP):DA:=fun ps=>(di ps).bind fun ws=>if ws.length<=sizeLine then jO g dt de ws (pc own caps ps) else .bad
theorem lZ{own:List Str}{caps:List (Str×Nat)}{di:DA}{g:DG}{dt:DT}{de:DP}(gk:∀(w:PV) (ps ps':aX),g w ps= .ok ps'->∀(i:Nat) (x:Ow),ps'[i]? =some (Sl.own x)->ps[i]? =some (Sl.own x)){σ :L2.St}{H:Hp}{Q:VK}
  (h:JV X.K G (dComp own caps di g dt de) σ H Q):tComp own caps (El X.K G di) (tG X.K G g) (rY X.K G dt) (xr X.K G de) σ H Q:=by
 obtain⟨c,ow,ps,rs,R,e,q⟩:=h
 obtain⟨ws,e1,e2⟩:=am e
 split at e2
 ·rename_i hsz
  refine⟨c,ow,ps,ws,R,e1,fun J H1 vs s1 rep wk=> ?_⟩
  intro D hD
  have R1:=R.grow s1
  have hD0:H D=none:=s1.free hD
  let AD:Av:=fun a=>av c ow a\/a=D
  let B1:Av:=fun p=>H1 p≠none
  have usedB:∀{H':Hp},Same H1 H'->jm H' B1:=fun {H'} s a z=>by
   cases e3:H1 a with
   |none=>exact absurd e3 z
   |some o=>rw[s _ _ e3];simp
  have usedD:∀{H':Hp},Same H1 H'->H' D≠none->jm H' AD:=by
   intro H' s hd a z
   rcases z with z|z
   ·cases e3:H1 a with
    |none=>exact absurd e3 (R1.used a z)
    |some o=>rw[s _ _ e3];simp
   ·rw[z];exact hd
  refine⟨fun i m σ' H'=>∃(ps':aX) (ys:List PV) (us:List V) (rest:List PV),m=ws.length-i/\i<=ws.length/\gO X.K G B1 H' AD ps' σ'/\(∀(j:Nat) (x:Ow),ps'[j]? ≠ some (Sl.own x))/\Same H1 H'/\aC X.K G H' AD ws vs/\H' D=some (.lst us)/\aC X.K G H' AD ys us/\ys.length<=i /\
    jO g dt de (ws.drop i) ps'= .ok rest/\ys++rest=rs,?_,?_⟩
  ·have sD:Same H1 (upd H1 D (.lst [])):=bx hD _
   have k:Kp X.K G H1 (av c ow) (upd H1 D (.lst [])) AD:=Kp.take hD sD fun a z=>z.symm
   have F0:=R1.caps own caps
   refine⟨_,pc own caps ps,[],[],rs,rfl,Nat.zero_le _,⟨F0.len,fun i s o h1 h2=> ?_⟩,fun j x z=> ?_,sD,k.reps rep,ax,rfl,Nat.le_refl _,e2,rfl⟩
   ·have q:=F0.slot i s o h1 h2
    cases s with
    |no=>exact True.intro
    |v w=>obtain⟨v,e,r⟩:=q;exact⟨v,e,k.rep r⟩
    |own x=>exact q.elim
    |ino x=>exact q.elim
    |ini k xs=>exact q.elim
    |dol ks xss=>exact q.elim
    |als d j=>exact q.elim
    |bor w =>
     obtain⟨v,e,r⟩:=q
     refine⟨v,e,?_⟩
     rcases r with r|⟨x,p,e1,e2,r,n⟩
     ·exact .inl (k.rep r)
     ·obtain⟨o',eo,_⟩:=r.at
      exact .inr ⟨x,p,e1,e2,r.keep k (by rw[sD _ _ eo,eo]),n⟩
   ·have hl:j<(pc own caps ps).length:=(List.getElem?_eq_some_iff.mp z).1
    have hl2:j<(lV own caps σ).length:=by rw[<-F0.len];exact hl
    exact(F0.slot j _ _ z (List.getElem?_eq_getElem hl2)).elim
  ·rintro i m σ' H' ⟨ps',ys,us,rest,rfl,hi',F,no,sm,rep',hH,ry,hy,ec,er⟩
   have lv:=rep'.len
   have wk':=wk H' sm
   rcases Nat.lt_or_ge i ws.length with hlt|hge
   ·right
    have hdr:ws.drop i=ws[i]::ws.drop (i+1):=List.drop_eq_getElem_cons hlt
    rw[hdr]at ec
    have hgi:ws[i]? =some ws[i]:=List.getElem?_eq_getElem hlt
    obtain⟨v,hv,rv⟩:=rep'.get hgi
    obtain⟨go,yl⟩:=wk'.1 i v hv
    refine⟨go,_,fun _ _ h=>h,fun y H2 hyl=> ?_⟩
    obtain⟨rfl,rfl⟩:=yl y H2 hyl
    obtain⟨ps1,c1,ec⟩:=am ec
    obtain⟨bb,c2,ec⟩:=am ec
    have u':jm H2 AD:=usedD sm (by rw[hH];simp)
    have S':=F.toS u' (usedB sm)
    have kav:Kp X.K G H2 AD H2 (av ⟨H2,AD,B1,none⟩ mT):=Kp.weak fun a z=>Ge a z
    refine⟨⟨H2,AD,B1,none⟩,mT,ps',ws[i],ps1,S',kav.rep rv,c1,fun σ3 ow3 S3 wk3=> ?_⟩
    have no1:∀(j:Nat) (x:Ow),ps1[j]? ≠ some (Sl.own x):=fun j x z=>no j x (gk _ _ _ c1 j x z)
    have eow:ow3=mT:=by
     funext j
     cases q:ow3 j with
     |none=>rfl
     |some p'=>exact absurd (S3.fresh j p' q) (S3.a0 p' (Ge p' (wk3 p' (.inr ⟨j,q⟩))))
    subst eow
    refine⟨⟨H2,AD,B1,none⟩,mT,ps1,bb,S3,c2,fun H4 s4=> ?_⟩
    have S4:=S3.grow s4
    have aft:∀{H5:Hp},Same H2 H5->gO X.K G B1 H5 AD ps1 σ3:=fun s5=>gO.ofS (S3.grow s5) rfl
    split at ec
    ·rename_i hb
     subst hb
     refine iteT ?_
     obtain⟨yw,c3,ec⟩:=am ec
     obtain⟨r',c4,ec⟩:=am ec
     cases ec
     refine⟨⟨H2,AD,B1,none⟩,mT,ps1,yw,S4,c3,fun yv H5 s5 r5=> ?_⟩
     have s25:=s4.trans s5
     have hH5:H5 D=some (.lst us):=s25 _ _ hH
     have r5':dB X.K G H5 AD yw yv:=(Kp.weak fun a z=>Or.inl z).rep r5
     have mD:Mt (HO.lst us):=And.intro (fun _ z=>by cases z) (fun _ _ z=>by cases z)
     have kD:∀u,Kp X.K G H5 AD (upd H5 D u) AD:=fun u=>Kp.own (.inr rfl) hH5 mD
     have F5:=aft s25
     refine⟨us,hH5,?_,ws.length-(i+1),by omega,ps1,ys++[yw],us++[yv],r',rfl,hlt,⟨F5.len,fun j s o h1 h2=> ?_⟩,no1,fun b u hb=> ?_,(kD _).reps (rep'.same s25),ax,(kD _).reps ((ry.same s25).snoc r5'),by rw[List.length_append];simp;omega,c4,by rw[<-er,List.append_assoc];rfl⟩
     ·rw[<-ry.len];omega
     ·have q:=F5.slot j s o h1 h2
      cases s with
      |no=>exact True.intro
      |v w=>obtain⟨v,e,r⟩:=q;exact⟨v,e,(kD _).rep r⟩
      |own x=>exact q.elim
      |ino x=>exact q.elim
      |ini k xs=>exact q.elim
      |dol ks xss=>exact q.elim
      |als d j=>exact q.elim
      |bor w =>
       obtain⟨v,e,r⟩:=q
       refine⟨v,e,?_⟩
       rcases r with r|⟨x,p',e1',e2',r,n⟩
       ·exact .inl ((kD _).rep r)
       ·exact .inr ⟨x,p',e1',e2',r.keep (kD _) (aw (by intro z;subst z;exact n hD)),n⟩
     ·rw[aw (aL hb hD)];exact s25 _ _ (sm _ _ hb)
    ·rename_i hb
     have:bb=false:=by simpa using hb
     subst this
     exact lP ⟨ws.length-(i+1),by omega,ps1,ys,us,rest,rfl,hlt,aft s4,no1,sm.trans s4,rep'.same s4,s4 _ _ hH,ry.same s4,by omega,ec,er⟩
   ·left
    have:i=ws.length:=Nat.le_antisymm hi' hge
    subst this
    rw[List.drop_length]at ec
    cases ec
    rw[List.append_nil]at er
    subst er
    refine⟨by rw[lv];exact wk'.2,q D us H' (s1.trans sm) hD0 hH ry⟩
 ·cases e2
theorem bY{elt iter:Expr}{ifs:List Expr}{scope:Scope}{own:List Str}{caps:List (Str×Nat)}{di:DA}{g:DG}{dt:DT}{de:DP}(S:dX X scope own caps)(hc:X.calm=true)(hi:Em X G tg iter di)
  (hg:∀C s₀ H₀ fp,JG .(O) G tg g) (ht:∀C s₀ H₀ fp,En .(O) G ifs dt) (he:∀C s₀ H₀ fp,JP .(O) G elt de)
  (gk:∀(w:PV) (ps ps':aX),g w ps= .ok ps'->∀(i:Nat) (x:Ow),ps'[i]? =some (Sl.own x)->ps[i]? =some (Sl.own x))
  (hs:∀x,foldedSetIterable iter X.env x=pure x:=by intro _;rfl):JN X G (.ListComp elt [⟨tg,iter,ifs,0⟩] scope pos) (dComp own caps di g dt de) :=
 imp (y7 (wi:=El X.K G di) (g:=tG X.K G g) (tc:=rY X.K G dt) (te:=xr X.K G de) S hc hi hg ht he hs) fun σ H Q h=>lZ gk h
end
end DN
end
noncomputable section
namespace DN
open PySem PySem.Spec PyProof.Rows L2
noncomputable section
variable{X:Cx}{G:Pg}{e a b o tg:Expr}{es:List Expr}{da db:DP}{d:DA}{dm:DM}{dma:p7}{pos p apos cpos:Pos}{x m:Str}{k i:Nat}{ms:List Bool}
def m4:p7:=fun ps=> .ok ([],ps)
noncomputable def cM(a:DM)(r:p7):p7:=fun ps=>(a ps).bind fun x=>(r x.2).bind fun y=> .ok (x.1::y.1,y.2)
theorem gP:Gc X G [] m4:=uM fB fun σ H Q ⟨c,ow,ps,ws,ps',R,e,q⟩=>by
 cases e
 exact q [] H ow R (Kp.of_same (Same.refl H)) rfl
theorem bG(ha:JM X G e dm)(hr:Gc X G es dma)(hs:starEach (e::es) X.env=.(S)::starEach es X.env:=by rfl):Gc X G (e::es) (cM dm dma) :=
 uM (dg ha hr hs) fun σ H Q ⟨c,ow,ps,ws,ps',R,e,q⟩=>by
  obtain⟨⟨x,p1⟩,e1,e⟩:=am e
  obtain⟨⟨xs,p2⟩,e2,e⟩:=am e
  cases e
  refine⟨c,ow,ps,x,p1,R,e1,fun v H1 ow1 R1 k1 r1=>⟨c,ow1,p1,xs,p2,R1,e2,fun vs H2 ow2 R2 k2 r2=> ?_⟩⟩
  exact q (v::vs) H2 ow2 R2 (k1.trans k2) ⟨v,vs,rfl,k2.rep r1,r2⟩
noncomputable def m5(d:p7):DM:=fun ps=>(d ps).bind fun x=>if x.1.length<=1000 then .ok (.tup x.1,x.2) else .bad
theorem jP{x1}(h:Gc X G es dma):JM X G (.Tuple es x1 pos) (m5 dma):=imp (uk h) fun σ H Q ⟨c,ow,ps,w,ps',R,e,q⟩=>by
 obtain⟨⟨ws,p1⟩,e1,e⟩:=am e
 split at e
 ·rename_i hl
  cases e
  refine⟨c,ow,ps,ws,p1,R,e1,fun vs H1 ow1 R1 k1 r1=>⟨?_,fun p hp=> ?_⟩⟩
  ·rw[<-r1.len];exact Nat.le_of_lt (iN hl)
  ·have s:=bx hp (.tup vs)
   exact q _ _ ow1 (R1.grow s) (k1.trans (Kp.of_same s)) ⟨p,vs,rfl,ax,r1.same s⟩
 ·cases e
noncomputable def kB(i:Nat):DM:=fun ps=>match ps[i]? with
 |some (.own (.lst xs))=>(match xs.getLast? with|some w=> .ok (w,ps.set i (.own (.lst xs.dropLast)))|none=> .bad)
 |_=> .bad
theorem aC.last{K:Fg}{H:Hp}{A:Av}{ws:List PV}{vs:List V}{w:PV}(r:aC K G H A ws vs)(e:ws.getLast? =some w):∃v,vs[vs.length-1]? =some v/\dB K G H A w v:=by
 rw[List.getLast?_eq_getElem?]at e
 obtain⟨v,h1,h2⟩:=r.get e
 exact⟨v,by rw[<-r.len];exact h1,h2⟩
theorem aC.dropLast{K:Fg}{H:Hp}{A:Av}{ws:List PV}{vs:List V}(r:aC K G H A ws vs):aC K G H A ws.dropLast vs.dropLast:=by
 rw[List.dropLast_eq_take,List.dropLast_eq_take,r.len]
 exact r.take _
theorem jQ(i:Nat)(hline:(apos.endLine == cpos.line)=true:=by rfl)(hN:X.N[i]? =some x:=by rfl)(hv:lF X.env.scope x:=by first|exact Or.inl rfl|exact Or.inr (Or.inl rfl)|exact Or.inr (Or.inr rfl))(hd:(x == .(L))=false:=by decide)
  (hcd:(x == .(Z))=false:=by decide) (hbase:attributeBase (.Name x pos) "pop" X.env (eval (.Name x pos) X.env)=eval (.Name x pos) X.env:=by rfl):JM X G (.Call (.Attribute (.Name x pos) "pop" apos) [] [] cpos) (kB i) :=
 imp (uq PySem.F.plainAttrs_list PySem.F.slot_list_pop PySem.F.type_list_pop AF (bh hN hv hd hcd) hbase hline) fun σ H Q ⟨c,ow,ps,w,ps',R,e,q⟩=>by
  unfold kB at e
  split at e
  ·rename_i xs hx
   split at e
   ·rename_i w' hw
    cases e
    obtain⟨p,e1,e2,vs,hH,rs⟩:=R.getO hx
    obtain⟨v,hv,rv⟩:=rs.last hw
    have mD:Mt (HO.lst vs):=And.intro (fun _ z=>by cases z) (fun _ _ z=>by cases z)
    have k0:Kp X.K G H (av c ow) (upd H p (.lst vs.dropLast)) (av c ow):=Kp.own (.inr ⟨i,e1⟩) hH mD
    have:=R.chg (y:= .lst xs.dropLast) (u:= .lst vs.dropLast) hx e1 ⟨_,ax,k0.reps rs.dropLast⟩
    exact⟨.ref p,e2,.inl ⟨rfl,_,eI.of hH⟩,p,vs,v,rfl,rfl,hH,hv,q v _ ow this.1 this.2 (k0.rep rv)⟩
   ·cases e
  ·cases e
noncomputable def ii(i:Nat)(d:DM):DM:=fun ps=>match ps[i]? with
 |some (.own (.lst _))=>(d ps).bind fun x=>(match x.2[i]? with|some (.own (.lst xs))=>if xs.length<sizeLine then .ok (.non,x.2.set i (.own (.lst (xs++[x.1])))) else .bad|_=> .bad)
 |_=> .bad
theorem ik(i:Nat)(he:JM X G e dm)(hline:(apos.endLine == cpos.line)=true:=by rfl)(hN:X.N[i]? =some x:=by rfl)(hv:lF X.env.scope x:=by first|exact Or.inl rfl|exact Or.inr (Or.inl rfl)|exact Or.inr (Or.inr rfl))(hd:(x == .(L))=false:=by decide)
  (hcd:(x == .(Z))=false:=by decide) (hst:starEach [e] X.env=.(S)::starEach [] X.env:=by rfl) (hbase:attributeBase (.Name x pos) "append" X.env (eval (.Name x pos) X.env)=eval (.Name x pos) X.env:=by rfl)
  (hpl:(backTo cpos (starEach ([]:List Expr) X.env)).any (·.1)=false:=by rfl)
  (hfew:.(C)=true:=by rfl) :
  JM X G (.Call (.Attribute (.Name x pos) "append" apos) [e] [] cpos) (ii i dm) :=
 imp (nj PySem.F.plainAttrs_list PySem.F.slot_list_append PySem.F.type_list_append iM (bh hN hv hd hcd) (dg he fB hst) hbase hfew hline hst hpl) fun σ H Q ⟨c,ow,ps,w,ps',R,e,q⟩=>by
  unfold ii at e
  split at e
  ·rename_i xs0 hx0
   obtain⟨⟨w1,p1⟩,e1,e⟩:=am e
   split at e
   ·rename_i xs hx
    split at e
    ·rename_i hl
     cases e
     obtain⟨p0,e2,e3,vs0,hH0,_⟩:=R.getO hx0
     refine⟨.ref p0,e3,.inl ⟨rfl,_,eI.of hH0⟩,c,ow,ps,w1,p1,R,e1,fun v H1 ow1 R1 k1 r1=> ?_⟩
     obtain⟨p,e4,e5,vs,hH,rs⟩:=R1.getO hx
     rw[e3]at e5;cases e5
     have mD:Mt (HO.lst vs):=And.intro (fun _ z=>by cases z) (fun _ _ z=>by cases z)
     have k0:Kp X.K G H1 (av c ow1) (upd H1 p0 (.lst (vs++[v]))) (av c ow1):=Kp.own (.inr ⟨i,e4⟩) hH mD
     have:=R1.chg (y:= .lst (xs++[w1])) (u:= .lst (vs++[v])) hx e4 ⟨_,ax,k0.reps (rs.snoc r1)⟩
     exact⟨p0,vs,v,rfl,rfl,hH,by rw[<-rs.len];exact hl,q .non _ ow1 this.1 (k1.trans this.2) rfl⟩
    ·cases e
   ·cases e
  ·cases e
noncomputable def kC(i:Nat):DM:=fun ps=>match ps[i]? with
 |some (.own y)=> .ok (y.pv,ps.set i (.v y.pv))
 |some (.v w)=> .ok (w,ps)
 |_=> .bad
theorem nO(i:Nat)(hN:X.N[i]? =some x:=by rfl)(hv:lF X.env.scope x:=by first|exact Or.inl rfl|exact Or.inr (Or.inl rfl)|exact Or.inr (Or.inr rfl))(hd:(x == .(L))=false:=by decide)
  (hcd:(x == .(Z))=false:=by decide):JM X G (.Name x pos) (kC i):=imp (bh hN hv hd hcd) fun σ H Q ⟨c,ow,ps,w,ps',R,e,q⟩=>by
 unfold kC at e
 split at e
 ·rename_i y hy
  cases e
  obtain⟨p,e1,R',r',k'⟩:=R.frz hy
  exact⟨_,e1,q _ H _ R' k' r'⟩
 ·rename_i w' hw
  cases e
  obtain⟨v,ev,r⟩:=R.getV hw
  exact⟨v,ev,q v H ow R (Kp.of_same (Same.refl H)) r⟩
 ·cases e
noncomputable def Eo(f:List PV->Rx PV)(d:p7):DM:=fun ps=>(d ps).bind fun x=>(f x.1).bind fun w=> .ok (w,x.2)
end
theorem qi{c:Fr}{ow:gD}{i:Nat}{p:Addr}:∀a,av c (l5 ow i p) a->a=p\/av c ow a:=by
 intro a h
 rcases h with h|⟨j,h⟩
 ·exact .inr (.inl h)
 ·unfold l5 at h
  split at h
  ·cases h;exact .inl rfl
  ·exact .inr (.inr ⟨j,h⟩)
inductive Rs where
 |nx (ps:aX)|ret (w:PV)|retn (xs:List PV)|reti (w:PV) (x:Ow)|brk (ps:aX)|cnt (ps:aX)|bad|exc (c:Nat)
abbrev DS:=aX->Rs
def dn(K:Fg)(G:Pg)(c:Fr)(H:Hp)(A:Av)(D:mY):Rs->Prop
 |.nx ps=>∀σ H' ow,bf K G c H' ow ps σ ->Kp K G H A H' (av c ow)->D.nx σ H'
 |.ret w=>∀v H',jL c H'->dB K G H' c.A0 w v->D.rt v H'
 |.reti w x=>∀v H' p,jL c H'->c.lx=some p->fE K G H' c.A0 x p->dB K G H' c.A0 w v->D.rt v H'
 |.retn xs=>∀p vs H',jL c H'->c.H0 p=none->H' p=some (.lst vs)->aC K G H' (fun a=>c.A0 a\/a=p) xs vs->D.rt (.ref p) H'
 |.brk ps=>∀σ H' ow,bf K G c H' ow ps σ ->Kp K G H A H' (av c ow)->D.bk σ H'
 |.cnt ps=>∀σ H' ow,bf K G c H' ow ps σ ->Kp K G H A H' (av c ow)->D.ct σ H'
 |.bad=>False
 |.exc _=>False
theorem dn.mono{K:Fg}{G:Pg}{c:Fr}{H H1:Hp}{A A1:Av}{D:mY}{r:Rs}(h:dn K G c H A D r)(k:Kp K G H A H1 A1):dn K G c H1 A1 D r:=by
 cases r with
 |nx ps=>exact fun σ H' ow R k'=>h σ H' ow R (k.trans k')
 |ret w=>exact h
 |retn xs=>exact h
 |reti w x=>exact h
 |brk ps=>exact fun σ H' ow R k'=>h σ H' ow R (k.trans k')
 |cnt ps=>exact fun σ H' ow R k'=>h σ H' ow R (k.trans k')
 |bad=>exact h
 |exc c=>exact h
def tD(K:Fg)(G:Pg)(d:DS):TS:=fun D σ H=>∃(c:Fr) (ow:gD) (ps:aX),bf K G c H ow ps σ /\dn K G c H (av c ow) D (d ps)
abbrev JS(X:Cx)(G:Pg)(st:Stmt)(d:DS):Prop:=PS X st (tD X.K G d)
abbrev mU(X:Cx)(G:Pg)(st:List Stmt)(d:DS):Prop:=mZ X st (tD X.K G d)
theorem fb{X:Cx}{st:Stmt}{t t':TS}(h:PS X st t)(f:∀D σ H,t' D σ H->t D σ H):PS X st t':=fun pins s σ H D I q=>h pins s σ H D I (f D σ H q)
theorem zw{X:Cx}{st:List Stmt}{t t':TS}(h:mZ X st t)(f:∀D σ H,t' D σ H->t D σ H):mZ X st t':=fun pins s σ H D I q=>h pins s σ H D I (f D σ H q)
noncomputable def Rx.st{α :Type}:Rx α ->(α ->Rs)->Rs
 |.ok a,f=>f a
 |.bad,_=> .bad
 |.exc c,_=> .exc c
@[simp]theorem br{α :Type}(a: α)(f: α ->Rs):(Rx.ok a).st f=f a:=rfl
@[simp]theorem Hs{α :Type}(f: α ->Rs):(Rx.bad:Rx α).st f= .bad:=rfl
@[simp]theorem Ht{α :Type}(c:Nat)(f: α ->Rs):(Rx.exc c:Rx α).st f= .exc c:=rfl
theorem bi{α :Type}{K:Fg}{G:Pg}{c:Fr}{H:Hp}{A:Av}{D:mY}{m:Rx α}{f: α ->Rs}(h:dn K G c H A D (m.st f)):∃a,m= .ok a/\dn K G c H A D (f a):=by
 cases m with
 |ok a=>exact⟨a,rfl,h⟩
 |bad=>exact h.elim
 |exc c=>exact h.elim
noncomputable section
variable{X:Cx}{G:Pg}{e a b o tg:Expr}{es:List Expr}{da db:DP}{d:DA}{dm:DM}{ds du:DS}{st:Stmt}{rest:List Stmt}{pos p:Pos}{x m:Str}{k i:Nat}
def aQ:DS:=fun ps=> .nx ps
def ay(a b:DS):DS:=fun ps=>match a ps with | .nx ps'=>b ps'|r=>r
theorem aI:mU X G [] aQ:=zw xC fun D σ H ⟨c,ow,ps,R,q⟩=>q σ H ow R (Kp.of_same (Same.refl H))
theorem ak(h:JS X G st ds):mU X G [st] ds:=gX h
theorem ai(h1:JS X G st ds)(h2:mU X G rest du):mU X G (st::rest) (ay ds du):=zw (dY h1 h2) fun D σ H ⟨c,ow,ps,R,q⟩=>by
 refine⟨c,ow,ps,R,?_⟩
 unfold ay at q
 cases e:ds ps with
 |nx ps'=>rw[e]at q;exact fun σ' H' ow' R' k=>⟨c,ow',ps',R',q.mono k⟩
 |ret w=>rw[e]at q;exact q
 |retn xs=>rw[e]at q;exact q
 |reti w x=>rw[e]at q;exact q
 |brk ps'=>rw[e]at q;exact q
 |cnt ps'=>rw[e]at q;exact q
 |bad=>rw[e]at q;exact q
 |exc c=>rw[e]at q;exact q
def Hu:DS:=fun ps=> .brk ps
def Hv:DS:=fun ps=> .cnt ps
noncomputable def aS(i:Nat)(d:DP):DS:=fun ps=>(d ps).st fun w=> .nx (ps.set i (.v w))
theorem aT(hN:X.N.Nodup)(hi:X.N[i]? =some x)(hx:mW X.env.scope x)(he:JP X G e da)(hs:swapsWith e (some (.Name x p)) pos.line X.env=pure false:=by rfl)(hf:X.fn x=true\/X.env.scope.names.lookup x=some .local:=by first|exact .inl rfl|exact .inr rfl|assumption) :
  JS X G (.Assign [.Name x p] e pos) (aS i da):=fb (jC hN hi hx he hs hf) fun D σ H ⟨c,ow,ps,R,q⟩=>by
 obtain⟨w,e1,q⟩:=bi q
 exact⟨c,ow,ps,w,R,e1,fun v H' s r=>q _ _ _ ((R.grow s).setV r) ((Kp.of_same s).trans (Kp.weak g7))⟩
noncomputable def nQ(i:Nat)(d:DM):DS:=fun ps=>(d ps).st fun w=> .nx (w.2.set i (.v w.1))
theorem pe(hN:X.N.Nodup)(hi:X.N[i]? =some x)(hx:mW X.env.scope x)(he:JM X G e dm)(hs:swapsWith e (some (.Name x p)) pos.line X.env=pure false:=by rfl)(hf:X.fn x=true\/X.env.scope.names.lookup x=some .local:=by first|exact .inl rfl|exact .inr rfl|assumption) :
  JS X G (.Assign [.Name x p] e pos) (nQ i dm):=fb (jC hN hi hx he hs hf) fun D σ H ⟨c,ow,ps,R,q⟩=>by
 obtain⟨⟨w,ps'⟩,e1,q⟩:=bi q
 exact⟨c,ow,ps,w,ps',R,e1,fun v H' ow' R' k r=>q _ _ _ (R'.setV r) (k.trans (Kp.weak g7))⟩
noncomputable def il(i:Nat)(d:DA):DS:=fun ps=>(d ps).st fun ws=>if i<ps.length then .nx (ps.set i (.own (.lst ws))) else .bad
theorem nR(hN:X.N.Nodup)(hi:X.N[i]? =some x)(hx:mW X.env.scope x)(he:JN X G e d)(hs:swapsWith e (some (.Name x p)) pos.line X.env=pure false:=by rfl)(hf:X.fn x=true\/X.env.scope.names.lookup x=some .local:=by first|exact .inl rfl|exact .inr rfl|assumption) :
  JS X G (.Assign [.Name x p] e pos) (il i d):=fb (jC hN hi hx he hs hf) fun D σ H ⟨c,ow,ps,R,q⟩=>by
 obtain⟨ws,e1,q⟩:=bi q
 split at q
 ·rename_i hl
  exact⟨c,ow,ps,ws,R,e1,fun p vs H' s hp hv r=>q _ _ _ (R.setO hl s hp ⟨vs,hv,r⟩) (Kp.take hp s qi)⟩
 ·exact q.elim
noncomputable def se(g:DG)(d:DP):DS:=fun ps=>(d ps).st fun w=>(g w ps).st fun ps'=> .nx ps'
theorem zx{g:DG}(he:JP X G e da)(hg:JG X G tg g)(hs:swapsWithSole [tg] e pos.line X.env=pure false:=by rfl)(hw:swappedStores [tg] e X.env=pure none:=by rfl)(h1:(assignEach [tg] X.env).map (·.2)=[assign tg X.env]:=by rfl):JS X G (.Assign [tg] e pos) (se g da) :=
 fb (u5 he hg hs hw h1) fun D σ H ⟨c,ow,ps,R,q⟩=>by
  obtain⟨w,e1,q⟩:=bi q
  obtain⟨ps',e2,q⟩:=bi q
  exact⟨c,ow,ps,w,R,e1,fun v H' s r=>⟨c,ow,ps,w,ps',R.grow s,r,e2,fun σ' ow' R' wk=>q _ _ _ R' ((Kp.of_same s).trans (Kp.weak wk))⟩⟩
def cN(d:DM):DS:=fun ps=>(d ps).st fun w=> .nx w.2
theorem dH(he:JM X G e dm)(hs:swapsWith e none pos.line X.env=pure false:=by rfl):JS X G (.Expr e pos) (cN dm):=fb (xD he hs) fun D σ H ⟨c,ow,ps,R,q⟩=>by
 obtain⟨⟨w,ps'⟩,e1,q⟩:=bi q
 exact⟨c,ow,ps,w,ps',R,e1,fun v H' ow' R' k r=>q _ _ _ R' k⟩
def aJ(d:DP):DS:=fun ps=>(d ps).st fun w=> .ret w
theorem az(he:JP X G e da):JS X G (.Return (some e) pos) (aJ da):=fb (u1 he) fun D σ H ⟨c,ow,ps,R,q⟩=>by
 obtain⟨w,e1,q⟩:=bi q
 exact⟨c,ow,ps,w,R,e1,fun v H' s r=>q v H' (R.same.trans s) ((Kp.weak fun a z=>Or.inl z).rep r)⟩
noncomputable def im(d:DM):DS:=fun ps=>(d ps).st fun w=> .ret w.1
theorem jR(he:JM X G e dm):JS X G (.Return (some e) pos) (im dm):=fb (u1 he) fun D σ H ⟨c,ow,ps,R,q⟩=>by
 obtain⟨⟨w,ps'⟩,e1,q⟩:=bi q
 exact⟨c,ow,ps,w,ps',R,e1,fun v H' ow' R' k r=>q v H' R'.same ((Kp.weak fun a z=>Or.inl z).rep r)⟩
def Ep(d:DA):DS:=fun ps=>(d ps).st fun xs=> .retn xs
noncomputable def Er(i:Nat):DS:=fun ps=>match ps[i]? with|some (.own (.lst xs))=> .retn xs|_=> .bad
def Es:DS:=fun _=> .ret .non
def cO(t:DT)(a b:DS):DS:=fun ps=>(t ps).st fun x=>if x=true then a ps else b ps
theorem bj{c:Expr}{a b:List Stmt}{dt:DT}(hc:JT X G c dt)(ha:mU X G a ds)(hb:mU X G b du):JS X G (.If c a b pos) (cO dt ds du):=fb (Dj hc ha hb) fun D σ H ⟨c,ow,ps,R,q⟩=>by
 obtain⟨x,e1,q⟩:=bi q
 refine⟨c,ow,ps,x,R,e1,fun H' s=> ?_⟩
 split at q
 ·rename_i hx;subst hx;exact iteT ⟨c,ow,ps,R.grow s,q.mono (Kp.of_same s)⟩
 ·rename_i hx
  have:x=false:=by simpa using hx
  subst this
  exact lP ⟨c,ow,ps,R.grow s,q.mono (Kp.of_same s)⟩
noncomputable def jo(i:Nat)(f:Int->Int->Int)(d:DP):DS:=fun ps=>match ps[i]? with
 |some (.v (.int y))=>(d ps).st fun w=>(match w with | .int z=> .nx (ps.set i (.v (.int (f y z))))|_=> .bad)
 |_=> .bad
theorem nS{op:Operator}{f:Int->Int->Int}(hN:X.N.Nodup)(hi:X.N[i]? =some x)(hx:mW X.env.scope x)(he:JP X G e da)(ho:Dl X op (G6 f))(hf:X.fn x=true\/X.env.scope.names.lookup x=some .local:=by first|exact .inl rfl|exact .inr rfl|assumption) :
  JS X G (.AugAssign (.Name x p) op e pos) (jo i f da):=fb (Ag hN hi hx he ho hf) fun D σ H ⟨c,ow,ps,R,q⟩=>by
 unfold jo at q
 split at q
 ·rename_i y hy
  obtain⟨w,e1,q⟩:=bi q
  obtain⟨v,ev,r⟩:=R.getV hy
  refine⟨v,ev,c,ow,ps,w,R,e1,fun u H' s ru=> ?_⟩
  split at q
  ·rename_i z
   exact⟨y,z,r,ru,q _ _ _ ((R.grow s).setV rfl) ((Kp.of_same s).trans (Kp.weak g7))⟩
  ·exact q.elim
 ·exact q.elim
noncomputable def bS(g:DG)(body:DS):List PV->aX->Rs
 |[],ps=> .nx ps
 |w::ws,ps=>(g w ps).st fun ps1=>match body ps1 with
  |.nx ps2=>bS g body ws ps2
  |.cnt ps2=>bS g body ws ps2
  |.brk ps2=> .nx ps2
  |r=>r
noncomputable def sFor(di:DA)(g:DG)(body:DS):DS:=fun ps=>(di ps).st fun ws=>bS g body ws ps
theorem gH{iter:Expr}{body:List Stmt}{di:DA}{g:DG}(hp:PassesOwn .(E) X.A X.env X.xe)(hc:X.calm=true)(hi:JI X G tg iter di)(hg:JG X G tg g)(hb:mU X G body ds)
  (hs:∀x,foldedSetIterable iter X.env x=pure x:=by intro _;rfl):JS X G (.For tg iter body [] pos) (sFor di g ds):=fb (ua hp hc hi hg hb hs) fun D σ H ⟨c,ow,ps,R,q⟩=>by
 obtain⟨ws,e1,q⟩:=bi q
 refine⟨c,ow,ps,ws,R,e1,fun J H1 vs s1 rep wk=> ?_⟩
 refine⟨fun i m σ' H'=>∃ow' ps',m=ws.length-i/\i<=ws.length/\bf X.K G c H' ow' ps' σ'/\Kp X.K G H1 (av c ow) H' (av c ow')/\dn X.K G c H' (av c ow') D (bS g ds (ws.drop i) ps'),
  ⟨_,ow,ps,rfl,Nat.zero_le _,R.grow s1,Kp.of_same (Same.refl _),q.mono (Kp.of_same s1)⟩,?_⟩
 rintro i m σ' H' ⟨ow',ps',rfl,hi',R',k',q'⟩
 obtain⟨wg,wst⟩:=wk H' _ k' R'.same
 rcases Nat.lt_or_ge i ws.length with hlt|hge
 ·right
  rw[List.drop_eq_getElem_cons hlt]at q'
  obtain⟨v,hv,rv⟩:=(k'.reps rep).get (List.getElem?_eq_getElem hlt)
  obtain⟨go,yl⟩:=wg i v hv
  refine⟨go,_,fun _ _ h=>h,fun y H2 hyl=> ?_⟩
  obtain⟨rfl,rfl⟩:=yl y H2 hyl
  obtain⟨ps1,c1,q'⟩:=bi q'
  refine⟨c,ow',ps',ws[i],ps1,R',rv,c1,fun σ3 ow3 R3 wk3=> ?_⟩
  have k3:Kp X.K G H1 (av c ow) H2 (av c ow3):=k'.trans (Kp.weak wk3)
  have q3:=q'.mono (Kp.weak (K:=X.K) (G:=G) (H:=H2) wk3)
  refine⟨c,ow3,ps1,R3,?_⟩
  cases er:ds ps1 with
  |nx ps2 =>
   rw[er]at q3
   exact fun σ4 H4 ow4 R4 k4=>⟨ws.length-(i+1),by omega,ow4,ps2,rfl,hlt,R4,k3.trans k4,dn.mono q3 k4⟩
  |cnt ps2 =>
   rw[er]at q3
   exact fun σ4 H4 ow4 R4 k4=>⟨ws.length-(i+1),by omega,ow4,ps2,rfl,hlt,R4,k3.trans k4,dn.mono q3 k4⟩
  |brk ps2=>rw[er]at q3;exact q3
  |ret w=>rw[er]at q3;exact q3
  |retn xs=>rw[er]at q3;exact q3
  |reti w x=>rw[er]at q3;exact q3
  |bad=>rw[er]at q3;exact q3
  |exc c=>rw[er]at q3;exact q3
 ·left
  have:i=ws.length:=Nat.le_antisymm hi' hge
  subst this
  rw[List.drop_length]at q'
  exact⟨by rw[rep.len];exact wst,q' σ' H' ow' R' (Kp.of_same (Same.refl _))⟩
end
noncomputable def nT(ms:List Bool)(n:Nat)(ws:List PV):aX:=(List.zipWith (fun m w=>if m=true then Sl.bor w else Sl.v w) ms ws)++List.replicate (n-ws.length) .no
noncomputable def aH(ms:List Bool)(n:Nat)(d:DS)(ws:List PV):Rx PV:=if ws.length=ms.length then(match d (nT ms n ws)with | .ret w=> .ok w | .retn xs=> .ok (.lst xs) | .nx _=> .ok .non | .exc c=> .exc c|_=> .bad) else .bad
theorem JY{K:Fg}{G:Pg}{H:Hp}{A:Av}:∀{ms:List Bool} {ws:List PV} {vs:List V} {i:Nat} {s:Sl} {o:Option V},dP K G H A ms ws vs->(List.zipWith (fun m w=>if m=true then Sl.bor w else Sl.v w) ms ws)[i]? =some s->(vs.map some)[i]? =some o->JX K G (fun p=>H p≠none) H A s o
 |[],ws,vs,i,s,o,h,e1,e2=>by obtain⟨rfl,rfl⟩:=h;simp at e1
 |m::ms,ws,vs,0,s,o,h,e1,e2=>by
  obtain⟨w,wr,v,vr,rfl,rfl,r,rr⟩:=h
  simp at e1 e2
  subst e1;subst e2
  cases m with
  |true =>
   simp only[if_pos]
   rw[if_pos rfl]at r
   refine⟨v,rfl,?_⟩
   rcases r with r|⟨x,p,e1,e2,r⟩
   ·exact .inl r
   ·obtain⟨o',eo,_⟩:=r.at
    exact .inr ⟨x,p,e1,e2,r,by show H p≠none;rw[eo];simp⟩
  |false =>
   rw[if_neg Bool.false_ne_true]at r
   exact⟨v,rfl,r⟩
 |m::ms,ws,vs,i+1,s,o,h,e1,e2=>by
  obtain⟨w,wr,v,vr,rfl,rfl,r,rr⟩:=h
  exact JY (i:=i) rr (by simpa using e1) (by simpa using e2)
theorem m6{K:Fg}{G:Pg}{H:Hp}{A:Av}{ms:List Bool}{ws:List PV}{vs:List V}{N:List Str}(r:dP K G H A ms ws vs):gO K G (fun p=>H p≠none) H A (nT ms N.length ws) (L2.start N vs):=by
 have l1:=r.len.1
 have l2:=r.len.2
 refine⟨by simp[nT,L2.start,l1,l2],fun i s o e1 e2=> ?_⟩
 unfold nT at e1
 unfold L2.start at e2
 rcases Nat.lt_or_ge i ms.length with h|h
 ·rw[List.getElem?_append_left (by simp[l1];omega)]at e1
  rw[List.getElem?_append_left (by simp[l2];omega)]at e2
  exact JY r e1 e2
 ·rw[List.getElem?_append_right (by simp[l1];omega),List.getElem?_replicate]at e1
  split at e1
  ·cases e1;exact True.intro
  ·cases e1
theorem uW{P:Program}{w:World}{K:Fg}{mg:Str->Option Value}{base:Bs}{G:Pg}{x qual:Str}{st:Stmt}{f:Addr}{fd:FuncData}{N ps:List Str}{k:Nat}{ms:List Bool}{d:DS}(F:fC K x qual st f fd)(S:ap N ps (al st))(hm:ms.length=ps.length)
  (hb:∀(cdv:Value) (A:Around) (outer:List Env) (s:Shared) (H:Hp) (E:XK),bv k (A.deeper (envOfC qual (al st) s.heap.objs.size f cdv))->mU (iK fX P w K mg base N qual (al st) f cdv A outer s H E).nox G (bF st) d) :
  cY P w K mg base fX (k+1) f fd ps (tU K G ms (aH ms N.length d)):=by
 refine F.ok S (fun vs H Q E h=> ?_) (fun cdv A outer s H vs Q E hr h=> ?_)
 ·obtain⟨A,ws,w,u,r,_⟩:=h
  rw[r.len.2,hm]
 ·obtain⟨A',ws,w',u,r,e,q⟩:=h
  refine⟨_,hb cdv A outer s H E hr,?_⟩
  have F0:=m6 (N:=N) r
  have S0:=F0.toS u fun a z=>z
  refine⟨_,mT,nT ms N.length ws,S0,?_⟩
  unfold aH at e
  rw[if_pos r.len.1]at e
  cases ed:d (nT ms N.length ws) with
  |nx ps'=>rw[ed]at e;cases e;exact fun σ' H' ow' R' _=>q .non H' (R'.same.same rfl) rfl
  |ret w2=>rw[ed]at e;cases e;exact fun v H' s r=>q v H' (s.same rfl) r
  |reti w x=>rw[ed]at e;cases e
  |retn xs=>rw[ed]at e;cases e;exact fun p vs H' s hp hv r=>q (.ref p) H' (s.same rfl) ⟨p,vs,rfl,.inl ⟨hv,fun z=>u p z hp⟩,(Kp.weak fun a z=>Or.inl z).reps r⟩
  |brk _=>rw[ed]at e;cases e
  |cnt _=>rw[ed]at e;cases e
  |bad=>rw[ed]at e;cases e
  |exc _=>rw[ed]at e;cases e
end DN
end
noncomputable section
namespace DN
open PySem PySem.Spec PyProof.Rows L2
def uX:PV->Bool
 |.non=>true | .bl _=>true | .int _=>true | .str _=>true|_=>false
mutual
noncomputable def pf:PV->PV->Option Bool
 |.tup xs,.tup ys=>gy xs ys
 |.lst xs,.lst ys=>if xs.length=ys.length then gy xs ys else some false
 |.tup _,.lst _=>some false
 |.lst _,.tup _=>some false
 |.tup _,.non=>some false | .tup _,.bl _=>some false | .tup _,.int _=>some false | .tup _,.str _=>some false
 |.lst _,.non=>some false | .lst _,.bl _=>some false | .lst _,.int _=>some false | .lst _,.str _=>some false
 |.non,.tup _=>some false | .bl _,.tup _=>some false | .int _,.tup _=>some false | .str _,.tup _=>some false
 |.non,.lst _=>some false | .bl _,.lst _=>some false | .int _,.lst _=>some false | .str _,.lst _=>some false
 |.non,.non=>some true | .bl a,.bl b=>some (a == b) | .int a,.int b=>some (a == b) | .str a,.str b=>some (a == b)
 |.bl a,.int b=>some ((if a then 1 else 0) == b) | .int a,.bl b=>some (a == (if b then 1 else 0))
 |.non,.bl _=>some false | .non,.int _=>some false | .non,.str _=>some false
 |.bl _,.non=>some false | .int _,.non=>some false | .str _,.non=>some false
 |.bl _,.str _=>some false | .str _,.bl _=>some false | .int _,.str _=>some false | .str _,.int _=>some false
 |_,_=>none
noncomputable def gy:List PV->List PV->Option Bool
 |[],[]=>some true
 |x::xs,y::ys=>match pf x y,gy xs ys with|some a,some b=>some (a && b)|_,_=>none
 |[],_::_=>some false
 |_::_,[]=>some false
end
mutual
noncomputable def PV.depth:PV->Nat
 |.tup xs=>aP xs+1
 |.lst xs=>aP xs+1
 |_=>0
noncomputable def aP:List PV->Nat
 |[]=>0
 |x::xs=>max x.depth (aP xs)
end
theorem ph(xs ys:List PV):pf (.tup xs) (.tup ys)=gy xs ys:=rfl
theorem iR(xs ys:List PV):pf (.lst xs) (.lst ys)=if xs.length=ys.length then gy xs ys else some false:=rfl
noncomputable def sf:List PV->List PV->Nat->Bool
 |x::_,y::_,0=>(pf x y).getD false
 |_::xs,_::ys,j+1=>sf xs ys j
 |_,_,_=>false
theorem iS{x y:PV}{xs ys:List PV}{b:Bool}(h:gy (x::xs) (y::ys)=some b):∃a c,pf x y=some a/\gy xs ys=some c/\b=(a && c):=by
 rw[gy]at h
 cases e1:pf x y with
 |none=>rw[e1]at h;simp at h
 |some a =>
  cases e2:gy xs ys with
  |none=>rw[e1,e2]at h;simp at h
  |some c=>rw[e1,e2]at h;simp at h;exact⟨a,c,rfl,rfl,h.symm⟩
theorem eC:∀{xs ys:List PV} {b:Bool},gy xs ys=some b->((List.range (min xs.length ys.length)).all (sf xs ys) && xs.length == ys.length)=b
 |[],[],b,h=>by rw[gy]at h;cases h;rfl
 |[],y::ys,b,h=>by rw[gy]at h;cases h;simp
 |x::xs,[],b,h=>by rw[gy]at h;cases h;simp
 |x::xs,y::ys,b,h=>by
  obtain⟨a,c,e1,e2,rfl⟩:=iS h
  have ih:=eC e2
  rw[<-ih,List.length_cons,List.length_cons,Nat.add_min_add_right,List.range_succ_eq_map,List.all_cons,List.all_map]
  have q1:((sf (x::xs) (y::ys)) ∘ Nat.succ)=sf xs ys:=rfl
  have q2:sf (x::xs) (y::ys) 0=a:=by show(pf x y).getD false=a;rw[e1];rfl
  have q3:(xs.length+1 == ys.length+1)=(xs.length == ys.length):=by simp
  rw[q1,q2,q3,Bool.and_assoc]
noncomputable section
variable{X:Cx}{G:Pg}{pins:List (Addr×Obj)}{σ :L2.St}{H:Hp}{s:Shared}{A0:Av}
theorem sg(I:aA X pins σ H s){a:Addr}{xs ys:List V}(h:eI X.K H a xs)(h':eI X.K H a ys):xs=ys:=by
 obtain⟨i1,r1,p1,_⟩:=I.list h
 obtain⟨i2,r2,p2,_⟩:=I.list h'
 obtain⟨o,n,e,c,d,q⟩:=p1
 obtain⟨o',n',e',c',d',q'⟩:=p2
 rw[e]at e';cases e'
 rw[q]at q'
 have:i1=i2:=by
  have:=(Data.seq.inj q').1
  simpa using this
 subst this
 exact r1.inj r2
mutual
theorem m7(I:aA X pins σ H s):∀{x y:PV} {v:V} {b:Bool},dB X.K G H A0 x v->dB X.K G H A0 y v->pf x y=some b->b=true
 |.tup xs,y,v,b,h,h',e=>by
  obtain⟨a,vs,rfl,sq,rs⟩:=h
  cases y with
  |tup ys =>
   obtain⟨a',vs',e2,sq',rs'⟩:=h'
   cases e2
   have:=I.tuple_inj (gA.of sq) (gA.of sq')
   subst this
   exact jS I rs rs' e
  |lst ys =>
   obtain⟨a',vs',e2,sq',rs'⟩:=h'
   cases e2
   obtain⟨_,_,⟨o,h1,h2,_⟩,_⟩:=I.tuple (gA.of sq)
   obtain⟨_,_,⟨o',_,h1',h2',_⟩,_⟩:=I.list sq'.sq
   rw[h1]at h1';cases h1'
   rw[h2]at h2';exact absurd (Value.type.inj h2') (by decide)
  |non=>cases h'
  |bl _=>cases h'
  |int _=>cases h'
  |str _=>cases h'
  |_=>cases e
 |.lst xs,y,v,b,h,h',e=>by
  obtain⟨a,vs,rfl,sq,rs⟩:=h
  cases y with
  |lst ys =>
   obtain⟨a',vs',e2,sq',rs'⟩:=h'
   cases e2
   have:=sg I sq.sq sq'.sq
   subst this
   rw[iR,if_pos (by rw[rs.len,rs'.len])]at e
   exact jS I rs rs' e
  |tup ys =>
   obtain⟨a',vs',e2,sq',rs'⟩:=h'
   cases e2
   obtain⟨_,_,⟨o,h1,h2,_⟩,_⟩:=I.tuple (gA.of sq')
   obtain⟨_,_,⟨o',_,h1',h2',_⟩,_⟩:=I.list sq.sq
   rw[h1]at h1';cases h1'
   rw[h2]at h2';exact absurd (Value.type.inj h2') (by decide)
  |non=>cases h'
  |bl _=>cases h'
  |int _=>cases h'
  |str _=>cases h'
  |_=>cases e
 |.non,y,v,b,h,h',e=>by
  cases h
  cases y with
  |non=>cases h' <;> (cases e;simp)
  |bl _=>cases h' <;> (cases e;simp)
  |int _=>cases h' <;> (cases e;simp)
  |str _=>cases h' <;> (cases e;simp)
  |tup _=>obtain⟨_,_,z,_⟩:=h';cases z
  |lst _=>obtain⟨_,_,z,_⟩:=h';cases z
  |dic _ _=>obtain⟨_,_,_,z,_⟩:=h';cases z
  |dit _ _=>obtain⟨_,_,_,z,_⟩:=h';cases z
  |clo _ _=>obtain⟨_,_,_,z,_⟩:=h';cases z
  |obj _ _=>obtain⟨_,_,_,z,_⟩:=h';cases z
 |.bl k,y,v,b,h,h',e=>by
  cases h
  cases y with
  |non=>cases h' <;> (cases e;simp)
  |bl _=>cases h' <;> (cases e;simp)
  |int _=>cases h' <;> (cases e;simp)
  |str _=>cases h' <;> (cases e;simp)
  |tup _=>obtain⟨_,_,z,_⟩:=h';cases z
  |lst _=>obtain⟨_,_,z,_⟩:=h';cases z
  |dic _ _=>obtain⟨_,_,_,z,_⟩:=h';cases z
  |dit _ _=>obtain⟨_,_,_,z,_⟩:=h';cases z
  |clo _ _=>obtain⟨_,_,_,z,_⟩:=h';cases z
  |obj _ _=>obtain⟨_,_,_,z,_⟩:=h';cases z
 |.int k,y,v,b,h,h',e=>by
  cases h
  cases y with
  |non=>cases h' <;> (cases e;simp)
  |bl _=>cases h' <;> (cases e;simp)
  |int _=>cases h' <;> (cases e;simp)
  |str _=>cases h' <;> (cases e;simp)
  |tup _=>obtain⟨_,_,z,_⟩:=h';cases z
  |lst _=>obtain⟨_,_,z,_⟩:=h';cases z
  |dic _ _=>obtain⟨_,_,_,z,_⟩:=h';cases z
  |dit _ _=>obtain⟨_,_,_,z,_⟩:=h';cases z
  |clo _ _=>obtain⟨_,_,_,z,_⟩:=h';cases z
  |obj _ _=>obtain⟨_,_,_,z,_⟩:=h';cases z
 |.str k,y,v,b,h,h',e=>by
  cases h
  cases y with
  |non=>cases h' <;> (cases e;simp)
  |bl _=>cases h' <;> (cases e;simp)
  |int _=>cases h' <;> (cases e;simp)
  |str _=>cases h' <;> (cases e;simp)
  |tup _=>obtain⟨_,_,z,_⟩:=h';cases z
  |lst _=>obtain⟨_,_,z,_⟩:=h';cases z
  |dic _ _=>obtain⟨_,_,_,z,_⟩:=h';cases z
  |dit _ _=>obtain⟨_,_,_,z,_⟩:=h';cases z
  |clo _ _=>obtain⟨_,_,_,z,_⟩:=h';cases z
  |obj _ _=>obtain⟨_,_,_,z,_⟩:=h';cases z
 |.obj k xs,y,v,b,h,h',e=>by
  cases y <;> cases e
 |.dic k xs,y,v,b,h,h',e=>by
  cases y <;> cases e
 |.dit k xs,y,v,b,h,h',e=>by
  cases y <;> cases e
 |.clo k xs,y,v,b,h,h',e=>by
  cases y <;> cases e
theorem jS(I:aA X pins σ H s):∀{xs ys:List PV} {vs:List V} {b:Bool},aC X.K G H A0 xs vs->aC X.K G H A0 ys vs->gy xs ys=some b->b=true
 |[],[],vs,b,h,h',e=>by rw[gy]at e;cases e;rfl
 |[],y::ys,vs,b,h,h',e=>by
  obtain⟨v,r,e2,_⟩:=h'
  have h:vs=[]:=h
  rw[h]at e2;cases e2
 |x::xs,[],vs,b,h,h',e=>by
  obtain⟨v,r,e2,_⟩:=h
  have h':vs=[]:=h'
  rw[h']at e2;cases e2
 |x::xs,y::ys,vs,b,h,h',e=>by
  obtain⟨v,r,rfl,h1,h2⟩:=h
  obtain⟨v',r',e2,h1',h2'⟩:=h'
  cases e2
  obtain⟨a,c,e1,e2,rfl⟩:=iS e
  rw[m7 I h1 h1' e1,jS I h2 h2' e2];rfl
end
mutual
theorem KP(I:aA X pins σ H s):∀{x y:PV} {v v':V} {u u':Value} {A:Around} {b:Bool},A.units+x.depth<cLine->dB X.K G H A0 x v->dB X.K G H A0 y v'->aR v u->aR v' u'->pf x y=some b->SeqAt.EqAt A s u u' b
 |.tup xs,y,v,v',u,u',A,b,hu,h,h',r,r',e=>by
  have hu0:A.units<cLine:=Nat.lt_of_le_of_lt (Nat.le_add_right _ _) hu
  have h0:=h
  obtain⟨a,vs,rfl,sq,rs⟩:=h
  obtain rfl:u=Value.ref a:=r
  obtain⟨its,r1,p1,_⟩:=I.tuple (gA.of sq)
  cases y with
  |tup ys =>
   have h0':=h'
   obtain⟨a',vs',rfl,sq',rs'⟩:=h'
   obtain rfl:u'=Value.ref a':=r'
   by_cases ea:a=a'
   ·subst ea
    rw[m7 I h0 h0' e]
    exact SeqAt.EqAt.same _
   ·obtain⟨its',r2,p2,_⟩:=I.tuple (gA.of sq')
    have hd:(PV.tup xs).depth=aP xs+1:=by rw[PV.depth]
    rw[ph]at e
    refine SeqAt.EqAt.of_refs ea ?_
    have q:=SeqAt.RcAt.tuples (A:=A) (e:=sf xs ys) p1 p2 (by omega) fun j h1 h2=>by
     have h1':j<its.length:=by simpa using h1
     have h2':j<its'.length:=by simpa using h2
     have:=pi I (A:=A.in1) (j:=j) (by show A.units+1+aP xs<cLine;omega) rs rs' r1 r2 e (List.getElem?_eq_getElem h1') (List.getElem?_eq_getElem h2')
     simpa using this
    have e4:its.toArray.size=xs.length:=by rw[List.size_toArray,<-r1.length,rs.len]
    have e5:its'.toArray.size=ys.length:=by rw[List.size_toArray,<-r2.length,rs'.len]
    rw[e4,e5,eC e]at q
    exact q
  |lst ys =>
   obtain⟨a',vs',rfl,sq',rs'⟩:=h'
   obtain rfl:u'=Value.ref a':=r'
   obtain⟨its',r2,p2,_⟩:=I.list sq'.sq
   cases e
   exact SeqAt.EqAt.tuple_list p1 p2.isList hu0
  |non=>cases h';cases r';cases e;exact SeqAt.EqAt.tuple_none p1 hu0
  |bl k=>cases h';cases r';cases e;exact SeqAt.EqAt.tuple_bool k p1 hu0
  |int k=>cases h';obtain⟨t,rfl⟩:=r';cases e;exact SeqAt.EqAt.tuple_int k t p1 hu0
  |str k=>cases h';obtain⟨t,rfl⟩:=r';cases e;exact SeqAt.EqAt.tuple_str k t p1 hu0
  |_=>cases e
 |.lst xs,y,v,v',u,u',A,b,hu,h,h',r,r',e=>by
  have hu0:A.units<cLine:=Nat.lt_of_le_of_lt (Nat.le_add_right _ _) hu
  have h0:=h
  obtain⟨a,vs,rfl,sq,rs⟩:=h
  obtain rfl:u=Value.ref a:=r
  obtain⟨its,r1,p1,_⟩:=I.list sq.sq
  cases y with
  |lst ys =>
   have h0':=h'
   obtain⟨a',vs',rfl,sq',rs'⟩:=h'
   obtain rfl:u'=Value.ref a':=r'
   by_cases ea:a=a'
   ·subst ea
    rw[m7 I h0 h0' e]
    exact SeqAt.EqAt.same _
   ·obtain⟨its',r2,p2,_⟩:=I.list sq'.sq
    have hd:(PV.lst xs).depth=aP xs+1:=by rw[PV.depth]
    have e4:its.toArray.size=xs.length:=by rw[List.size_toArray,<-r1.length,rs.len]
    have e5:its'.toArray.size=ys.length:=by rw[List.size_toArray,<-r2.length,rs'.len]
    refine SeqAt.EqAt.of_refs ea ?_
    rw[iR]at e
    by_cases hl:xs.length=ys.length
    ·rw[if_pos hl]at e
     have q:=SeqAt.RcAt.lists (A:=A) (e:=sf xs ys) p1.isList p2.isList (by rw[e4,e5,hl]) (by omega) fun j h1 h2=>by
      have h1':j<its.length:=by simpa using h1
      have h2':j<its'.length:=by simpa using h2
      have:=pi I (A:=A.in1) (j:=j) (by show A.units+1+aP xs<cLine;omega) rs rs' r1 r2 e (List.getElem?_eq_getElem h1') (List.getElem?_eq_getElem h2')
      simpa using this
     have q2:=eC e
     rw[hl,Nat.min_self,beq_self_eq_true,Bool.and_true]at q2
     rw[e4,hl,q2]at q
     exact q
    ·rw[if_neg hl]at e
     cases e
     exact SeqAt.RcAt.lists_lengths p1.isList p2.isList (by rw[e4,e5];simpa using hl) hu0
  |tup ys =>
   obtain⟨a',vs',rfl,sq',rs'⟩:=h'
   obtain rfl:u'=Value.ref a':=r'
   obtain⟨its',r2,p2,_⟩:=I.tuple (gA.of sq')
   cases e
   exact SeqAt.EqAt.list_tuple p1.isList p2 hu0
  |non=>cases h';cases r';cases e;exact SeqAt.EqAt.list_none p1.isList hu0
  |bl k=>cases h';cases r';cases e;exact SeqAt.EqAt.list_bool k p1.isList hu0
  |int k=>cases h';obtain⟨t,rfl⟩:=r';cases e;exact SeqAt.EqAt.list_int k t p1.isList hu0
  |str k=>cases h';obtain⟨t,rfl⟩:=r';cases e;exact SeqAt.EqAt.list_str k t p1.isList hu0
  |_=>cases e
 |.non,y,v,v',u,u',A,b,hu,h,h',r,r',e=>by
  have hu0:A.units<cLine:=Nat.lt_of_le_of_lt (Nat.le_add_right _ _) hu
  cases h
  cases r
  cases y with
  |non=>cases h';cases r';cases e;exact SeqAt.EqAt.same _
  |bl k=>cases h';cases r';cases e;exact SeqAt.EqAt.none_bool k
  |int k=>cases h';obtain⟨t,rfl⟩:=r';cases e;exact SeqAt.EqAt.none_int k t
  |str k=>cases h';obtain⟨t,rfl⟩:=r';cases e;exact SeqAt.EqAt.none_str k t
  |tup ys =>
   obtain⟨a',vs',rfl,sq',rs'⟩:=h'
   obtain rfl:u'=Value.ref a':=r'
   obtain⟨its',r2,p2,_⟩:=I.tuple (gA.of sq')
   cases e
   exact SeqAt.EqAt.none_tuple p2 hu0
  |lst ys =>
   obtain⟨a',vs',rfl,sq',rs'⟩:=h'
   obtain rfl:u'=Value.ref a':=r'
   obtain⟨its',r2,p2,_⟩:=I.list sq'.sq
   cases e
   exact SeqAt.EqAt.none_list p2.isList hu0
  |_=>cases e
 |.bl k0,y,v,v',u,u',A,b,hu,h,h',r,r',e=>by
  have hu0:A.units<cLine:=Nat.lt_of_le_of_lt (Nat.le_add_right _ _) hu
  cases h
  cases r
  cases y with
  |non=>cases h';cases r';cases e;exact SeqAt.EqAt.bool_none k0
  |bl k=>cases h';cases r';cases e;exact SeqAt.EqAt.bool_bool k0 k
  |int k=>cases h';obtain⟨t,rfl⟩:=r';cases e;exact SeqAt.EqAt.bool_int k0 k t
  |str k=>cases h';obtain⟨t,rfl⟩:=r';cases e;exact SeqAt.EqAt.bool_str k0 k t
  |tup ys =>
   obtain⟨a',vs',rfl,sq',rs'⟩:=h'
   obtain rfl:u'=Value.ref a':=r'
   obtain⟨its',r2,p2,_⟩:=I.tuple (gA.of sq')
   cases e
   exact SeqAt.EqAt.bool_tuple k0 p2 hu0
  |lst ys =>
   obtain⟨a',vs',rfl,sq',rs'⟩:=h'
   obtain rfl:u'=Value.ref a':=r'
   obtain⟨its',r2,p2,_⟩:=I.list sq'.sq
   cases e
   exact SeqAt.EqAt.bool_list k0 p2.isList hu0
  |_=>cases e
 |.int k0,y,v,v',u,u',A,b,hu,h,h',r,r',e=>by
  have hu0:A.units<cLine:=Nat.lt_of_le_of_lt (Nat.le_add_right _ _) hu
  cases h
  obtain⟨t0,rfl⟩:=r
  cases y with
  |non=>cases h';cases r';cases e;exact SeqAt.EqAt.int_none k0 t0
  |bl k=>cases h';cases r';cases e;exact SeqAt.EqAt.int_bool k0 t0 k
  |int k=>cases h';obtain⟨t,rfl⟩:=r';cases e;exact SeqAt.EqAt.int_int k0 t0 k t
  |str k=>cases h';obtain⟨t,rfl⟩:=r';cases e;exact SeqAt.EqAt.int_str k0 t0 k t
  |tup ys =>
   obtain⟨a',vs',rfl,sq',rs'⟩:=h'
   obtain rfl:u'=Value.ref a':=r'
   obtain⟨its',r2,p2,_⟩:=I.tuple (gA.of sq')
   cases e
   exact SeqAt.EqAt.int_tuple k0 t0 p2 hu0
  |lst ys =>
   obtain⟨a',vs',rfl,sq',rs'⟩:=h'
   obtain rfl:u'=Value.ref a':=r'
   obtain⟨its',r2,p2,_⟩:=I.list sq'.sq
   cases e
   exact SeqAt.EqAt.int_list k0 t0 p2.isList hu0
  |_=>cases e
 |.str k0,y,v,v',u,u',A,b,hu,h,h',r,r',e=>by
  have hu0:A.units<cLine:=Nat.lt_of_le_of_lt (Nat.le_add_right _ _) hu
  cases h
  obtain⟨t0,rfl⟩:=r
  cases y with
  |non=>cases h';cases r';cases e;exact SeqAt.EqAt.str_none k0 t0
  |bl k=>cases h';cases r';cases e;exact SeqAt.EqAt.str_bool k0 t0 k
  |int k=>cases h';obtain⟨t,rfl⟩:=r';cases e;exact SeqAt.EqAt.str_int k0 t0 k t
  |str k=>cases h';obtain⟨t,rfl⟩:=r';cases e;exact SeqAt.EqAt.str_str k0 t0 k t
  |tup ys =>
   obtain⟨a',vs',rfl,sq',rs'⟩:=h'
   obtain rfl:u'=Value.ref a':=r'
   obtain⟨its',r2,p2,_⟩:=I.tuple (gA.of sq')
   cases e
   exact SeqAt.EqAt.str_tuple k0 t0 p2 hu0
  |lst ys =>
   obtain⟨a',vs',rfl,sq',rs'⟩:=h'
   obtain rfl:u'=Value.ref a':=r'
   obtain⟨its',r2,p2,_⟩:=I.list sq'.sq
   cases e
   exact SeqAt.EqAt.str_list k0 t0 p2.isList hu0
  |_=>cases e
 |.obj k xs,y,v,v',u,u',A,b,hu,h,h',r,r',e=>by
  cases y <;> cases e
 |.dic k xs,y,v,v',u,u',A,b,hu,h,h',r,r',e=>by
  cases y <;> cases e
 |.dit k xs,y,v,v',u,u',A,b,hu,h,h',r,r',e=>by
  cases y <;> cases e
 |.clo k xs,y,v,v',u,u',A,b,hu,h,h',r,r',e=>by
  cases y <;> cases e
theorem pi(I:aA X pins σ H s):∀{xs ys:List PV} {vs vs':List V} {us us':List Value} {A:Around} {j:Nat} {u u':Value} {b:Bool},A.units+aP xs<cLine->aC X.K G H A0 xs vs->aC X.K G H A0 ys vs'->aM vs us->aM vs' us'->gy xs ys=some b ->
  us[j]? =some u->us'[j]? =some u'->SeqAt.EqAt A s u u' (sf xs ys j)
 |[],ys,vs,vs',us,us',A,j,u,u',b,hu,h,h',r,r',e,q,q'=>by
  have h:vs=[]:=h
  subst h;cases r
  simp at q
 |x::xs,[],vs,vs',us,us',A,j,u,u',b,hu,h,h',r,r',e,q,q'=>by
  have h':vs'=[]:=h'
  subst h';cases r'
  simp at q'
 |x::xs,y::ys,vs,vs',us,us',A,j,u,u',b,hu,h,h',r,r',e,q,q'=>by
  obtain⟨v,t,rfl,h1,h2⟩:=h
  obtain⟨v',t',rfl,h1',h2'⟩:=h'
  obtain⟨a,c,e1,e2,rfl⟩:=iS e
  have hd:aP (x::xs)=max x.depth (aP xs):=by rw[aP]
  cases r with
  |cons rx rt =>
   cases r' with
   |cons rx' rt' =>
    cases j with
    |zero =>
     simp at q q'
     subst q;subst q'
     have:sf (x::xs) (y::ys) 0=a:=by show(pf x y).getD false=a;rw[e1];rfl
     rw[this]
     exact KP I (by omega) h1 h1' rx rx' e1
    |succ j=>exact pi I (j:=j) (by omega) h2 h2' rt rt' e2 (by simpa using q) (by simpa using q')
end
theorem KQ(I:aA X pins σ H s):∀{x y:PV} {v v':V} {u u':Value} {A:Around} {b:Bool},A.units+x.depth<cLine->bU X.K G H A0 x v->bU X.K G H A0 y v'->aR v u->aR v' u'->pf x y=some b->SeqAt.RcAt A s u u' b:=by
 intro x y v v' u u' A b hu h h' r r' e
 have hu0:A.units<cLine:=Nat.lt_of_le_of_lt (Nat.le_add_right _ _) hu
 cases x with
 |tup xs =>
  obtain⟨a,vs,rfl,sq,rs⟩:=h.tup
  obtain rfl:u=Value.ref a:=r
  obtain⟨its,r1,p1,_⟩:=I.tuple sq
  cases y with
  |tup ys =>
   obtain⟨a',vs',rfl,sq',rs'⟩:=h'.tup
   obtain rfl:u'=Value.ref a':=r'
   obtain⟨its',r2,p2,_⟩:=I.tuple sq'
   rw[ph]at e
   have hd:(PV.tup xs).depth=aP xs+1:=by rw[PV.depth]
   have e4:its.toArray.size=xs.length:=by rw[List.size_toArray,<-r1.length,rs.len]
   have e5:its'.toArray.size=ys.length:=by rw[List.size_toArray,<-r2.length,rs'.len]
   have q:=SeqAt.RcAt.tuples (A:=A) (s:=s) (e:=sf xs ys) p1 p2 (by omega) fun j h1 h2=>by
     have h1':j<its.length:=by simpa using h1
     have h2':j<its'.length:=by simpa using h2
     have:=pi I (A:=A.in1) (j:=j) (by show A.units+1+aP xs<cLine;omega) rs rs' r1 r2 e (List.getElem?_eq_getElem h1') (List.getElem?_eq_getElem h2')
     simpa using this
   rw[e4,e5,eC e]at q
   exact q
  |lst ys =>
   obtain⟨a',vs',rfl,sq',rs'⟩:=h'.lst
   obtain rfl:u'=Value.ref a':=r'
   obtain⟨its',r2,p2,_⟩:=I.list sq'
   cases e
   exact SeqAt.RcAt.tuple_list p1 p2.isList hu0
  |non=>rw[h'.non]at r';cases r';cases e;exact SeqAt.RcAt.tuple_none p1 hu0
  |bl k=>rw[h'.bl]at r';cases r';cases e;exact SeqAt.RcAt.tuple_bool k p1 hu0
  |int k=>rw[h'.int]at r';obtain⟨t,rfl⟩:=r';cases e;exact SeqAt.RcAt.tuple_int k t p1 hu0
  |str k=>rw[h'.str]at r';obtain⟨t,rfl⟩:=r';cases e;exact SeqAt.RcAt.tuple_str k t p1 hu0
  |_=>cases e
 |lst xs =>
  obtain⟨a,vs,rfl,sq,rs⟩:=h.lst
  obtain rfl:u=Value.ref a:=r
  obtain⟨its,r1,p1,_⟩:=I.list sq
  cases y with
  |tup ys =>
   obtain⟨a',vs',rfl,sq',rs'⟩:=h'.tup
   obtain rfl:u'=Value.ref a':=r'
   obtain⟨its',r2,p2,_⟩:=I.tuple sq'
   cases e
   exact SeqAt.RcAt.list_tuple p1.isList p2 hu0
  |lst ys =>
   obtain⟨a',vs',rfl,sq',rs'⟩:=h'.lst
   obtain rfl:u'=Value.ref a':=r'
   obtain⟨its',r2,p2,_⟩:=I.list sq'
   rw[iR]at e
   have hd:(PV.lst xs).depth=aP xs+1:=by rw[PV.depth]
   have e4:its.toArray.size=xs.length:=by rw[List.size_toArray,<-r1.length,rs.len]
   have e5:its'.toArray.size=ys.length:=by rw[List.size_toArray,<-r2.length,rs'.len]
   by_cases hl:xs.length=ys.length
   ·rw[if_pos hl]at e
    have q:=SeqAt.RcAt.lists (A:=A) (s:=s) (e:=sf xs ys) p1.isList p2.isList (by rw[e4,e5,hl]) (by omega) fun j h1 h2=>by
      have h1':j<its.length:=by simpa using h1
      have h2':j<its'.length:=by simpa using h2
      have:=pi I (A:=A.in1) (j:=j) (by show A.units+1+aP xs<cLine;omega) rs rs' r1 r2 e (List.getElem?_eq_getElem h1') (List.getElem?_eq_getElem h2')
      simpa using this
    have q2:=eC e
    rw[hl,Nat.min_self,beq_self_eq_true,Bool.and_true]at q2
    rw[e4,hl,q2]at q
    exact q
   ·rw[if_neg hl]at e
    cases e
    exact SeqAt.RcAt.lists_lengths p1.isList p2.isList (by rw[e4,e5];simpa using hl) hu0
  |non=>rw[h'.non]at r';cases r';cases e;exact SeqAt.RcAt.list_none p1.isList hu0
  |bl k=>rw[h'.bl]at r';cases r';cases e;exact SeqAt.RcAt.list_bool k p1.isList hu0
  |int k=>rw[h'.int]at r';obtain⟨t,rfl⟩:=r';cases e;exact SeqAt.RcAt.list_int k t p1.isList hu0
  |str k=>rw[h'.str]at r';obtain⟨t,rfl⟩:=r';cases e;exact SeqAt.RcAt.list_str k t p1.isList hu0
  |_=>cases e
 |non =>
  rw[h.non]at r
  cases r
  cases y with
  |non=>rw[h'.non]at r';cases r';cases e;exact SeqAt.RcAt.none_none
  |bl k=>rw[h'.bl]at r';cases r';cases e;exact SeqAt.RcAt.none_bool k
  |int k=>rw[h'.int]at r';obtain⟨t,rfl⟩:=r';cases e;exact SeqAt.RcAt.none_int k t
  |str k=>rw[h'.str]at r';obtain⟨t,rfl⟩:=r';cases e;exact SeqAt.RcAt.none_str k t
  |tup ys =>
   obtain⟨a',vs',rfl,sq',rs'⟩:=h'.tup
   obtain rfl:u'=Value.ref a':=r'
   obtain⟨its',r2,p2,_⟩:=I.tuple sq'
   cases e
   exact SeqAt.RcAt.none_tuple p2 hu0
  |lst ys =>
   obtain⟨a',vs',rfl,sq',rs'⟩:=h'.lst
   obtain rfl:u'=Value.ref a':=r'
   obtain⟨its',r2,p2,_⟩:=I.list sq'
   cases e
   exact SeqAt.RcAt.none_list p2.isList hu0
  |_=>cases e
 |bl k0 =>
  rw[h.bl]at r
  cases r
  cases y with
  |non=>rw[h'.non]at r';cases r';cases e;exact SeqAt.RcAt.bool_none k0
  |bl k=>rw[h'.bl]at r';cases r';cases e;exact SeqAt.RcAt.bool_bool k0 k
  |int k=>rw[h'.int]at r';obtain⟨t,rfl⟩:=r';cases e;exact SeqAt.RcAt.bool_int k0 k t
  |str k=>rw[h'.str]at r';obtain⟨t,rfl⟩:=r';cases e;exact SeqAt.RcAt.bool_str k0 k t
  |tup ys =>
   obtain⟨a',vs',rfl,sq',rs'⟩:=h'.tup
   obtain rfl:u'=Value.ref a':=r'
   obtain⟨its',r2,p2,_⟩:=I.tuple sq'
   cases e
   exact SeqAt.RcAt.bool_tuple k0 p2 hu0
  |lst ys =>
   obtain⟨a',vs',rfl,sq',rs'⟩:=h'.lst
   obtain rfl:u'=Value.ref a':=r'
   obtain⟨its',r2,p2,_⟩:=I.list sq'
   cases e
   exact SeqAt.RcAt.bool_list k0 p2.isList hu0
  |_=>cases e
 |int k0 =>
  rw[h.int]at r
  obtain⟨t0,rfl⟩:=r
  cases y with
  |non=>rw[h'.non]at r';cases r';cases e;exact SeqAt.RcAt.int_none k0 t0
  |bl k=>rw[h'.bl]at r';cases r';cases e;exact SeqAt.RcAt.int_bool k0 t0 k
  |int k=>rw[h'.int]at r';obtain⟨t,rfl⟩:=r';cases e;exact SeqAt.RcAt.int_int k0 t0 k t
  |str k=>rw[h'.str]at r';obtain⟨t,rfl⟩:=r';cases e;exact SeqAt.RcAt.int_str k0 t0 k t
  |tup ys =>
   obtain⟨a',vs',rfl,sq',rs'⟩:=h'.tup
   obtain rfl:u'=Value.ref a':=r'
   obtain⟨its',r2,p2,_⟩:=I.tuple sq'
   cases e
   exact SeqAt.RcAt.int_tuple k0 t0 p2 hu0
  |lst ys =>
   obtain⟨a',vs',rfl,sq',rs'⟩:=h'.lst
   obtain rfl:u'=Value.ref a':=r'
   obtain⟨its',r2,p2,_⟩:=I.list sq'
   cases e
   exact SeqAt.RcAt.int_list k0 t0 p2.isList hu0
  |_=>cases e
 |str k0 =>
  rw[h.str]at r
  obtain⟨t0,rfl⟩:=r
  cases y with
  |non=>rw[h'.non]at r';cases r';cases e;exact SeqAt.RcAt.str_none k0 t0
  |bl k=>rw[h'.bl]at r';cases r';cases e;exact SeqAt.RcAt.str_bool k0 t0 k
  |int k=>rw[h'.int]at r';obtain⟨t,rfl⟩:=r';cases e;exact SeqAt.RcAt.str_int k0 t0 k t
  |str k=>rw[h'.str]at r';obtain⟨t,rfl⟩:=r';cases e;exact SeqAt.RcAt.str_str k0 t0 k t
  |tup ys =>
   obtain⟨a',vs',rfl,sq',rs'⟩:=h'.tup
   obtain rfl:u'=Value.ref a':=r'
   obtain⟨its',r2,p2,_⟩:=I.tuple sq'
   cases e
   exact SeqAt.RcAt.str_tuple k0 t0 p2 hu0
  |lst ys =>
   obtain⟨a',vs',rfl,sq',rs'⟩:=h'.lst
   obtain rfl:u'=Value.ref a':=r'
   obtain⟨its',r2,p2,_⟩:=I.list sq'
   cases e
   exact SeqAt.RcAt.str_list k0 t0 p2.isList hu0
  |_=>cases e
 |obj _ _=>cases y <;> cases e
 |dic _ _=>cases y <;> cases e
 |dit _ _=>cases y <;> cases e
 |clo _ _=>cases y <;> cases e
theorem KR(I:aA X pins σ H s):∀{x y:PV} {v v':V} {u u':Value} {A:Around} {b:Bool},A.units+x.depth<cLine->bU X.K G H A0 x v->bU X.K G H A0 y v'->aR v u->aR v' u'->pf x y=some b->SeqAt.RcNeAt A s u u' (!b):=by
 intro x y v v' u u' A b hu h h' r r' e
 have hu0:A.units<cLine:=Nat.lt_of_le_of_lt (Nat.le_add_right _ _) hu
 cases x with
 |tup xs =>
  obtain⟨a,vs,rfl,sq,rs⟩:=h.tup
  obtain rfl:u=Value.ref a:=r
  obtain⟨its,r1,p1,_⟩:=I.tuple sq
  cases y with
  |tup ys =>
   obtain⟨a',vs',rfl,sq',rs'⟩:=h'.tup
   obtain rfl:u'=Value.ref a':=r'
   obtain⟨its',r2,p2,_⟩:=I.tuple sq'
   rw[ph]at e
   have hd:(PV.tup xs).depth=aP xs+1:=by rw[PV.depth]
   have e4:its.toArray.size=xs.length:=by rw[List.size_toArray,<-r1.length,rs.len]
   have e5:its'.toArray.size=ys.length:=by rw[List.size_toArray,<-r2.length,rs'.len]
   have q:=SeqAt.RcNeAt.tuples (A:=A) (s:=s) (e:=sf xs ys) p1 p2 (by omega) fun j h1 h2=>by
     have h1':j<its.length:=by simpa using h1
     have h2':j<its'.length:=by simpa using h2
     have:=pi I (A:=A.in1) (j:=j) (by show A.units+1+aP xs<cLine;omega) rs rs' r1 r2 e (List.getElem?_eq_getElem h1') (List.getElem?_eq_getElem h2')
     simpa using this
   rw[e4,e5,eC e]at q
   exact q
  |lst ys =>
   obtain⟨a',vs',rfl,sq',rs'⟩:=h'.lst
   obtain rfl:u'=Value.ref a':=r'
   obtain⟨its',r2,p2,_⟩:=I.list sq'
   cases e
   exact SeqAt.RcNeAt.tuple_list p1 p2.isList hu0
  |non=>rw[h'.non]at r';cases r';cases e;exact SeqAt.RcNeAt.tuple_none p1 hu0
  |bl k=>rw[h'.bl]at r';cases r';cases e;exact SeqAt.RcNeAt.tuple_bool k p1 hu0
  |int k=>rw[h'.int]at r';obtain⟨t,rfl⟩:=r';cases e;exact SeqAt.RcNeAt.tuple_int k t p1 hu0
  |str k=>rw[h'.str]at r';obtain⟨t,rfl⟩:=r';cases e;exact SeqAt.RcNeAt.tuple_str k t p1 hu0
  |_=>cases e
 |lst xs =>
  obtain⟨a,vs,rfl,sq,rs⟩:=h.lst
  obtain rfl:u=Value.ref a:=r
  obtain⟨its,r1,p1,_⟩:=I.list sq
  cases y with
  |tup ys =>
   obtain⟨a',vs',rfl,sq',rs'⟩:=h'.tup
   obtain rfl:u'=Value.ref a':=r'
   obtain⟨its',r2,p2,_⟩:=I.tuple sq'
   cases e
   exact SeqAt.RcNeAt.list_tuple p1.isList p2 hu0
  |lst ys =>
   obtain⟨a',vs',rfl,sq',rs'⟩:=h'.lst
   obtain rfl:u'=Value.ref a':=r'
   obtain⟨its',r2,p2,_⟩:=I.list sq'
   rw[iR]at e
   have hd:(PV.lst xs).depth=aP xs+1:=by rw[PV.depth]
   have e4:its.toArray.size=xs.length:=by rw[List.size_toArray,<-r1.length,rs.len]
   have e5:its'.toArray.size=ys.length:=by rw[List.size_toArray,<-r2.length,rs'.len]
   by_cases hl:xs.length=ys.length
   ·rw[if_pos hl]at e
    have q:=SeqAt.RcNeAt.lists (A:=A) (s:=s) (e:=sf xs ys) p1.isList p2.isList (by rw[e4,e5,hl]) (by omega) fun j h1 h2=>by
      have h1':j<its.length:=by simpa using h1
      have h2':j<its'.length:=by simpa using h2
      have:=pi I (A:=A.in1) (j:=j) (by show A.units+1+aP xs<cLine;omega) rs rs' r1 r2 e (List.getElem?_eq_getElem h1') (List.getElem?_eq_getElem h2')
      simpa using this
    have q2:=eC e
    rw[hl,Nat.min_self,beq_self_eq_true,Bool.and_true]at q2
    rw[e4,hl,q2]at q
    exact q
   ·rw[if_neg hl]at e
    cases e
    exact SeqAt.RcNeAt.lists_lengths p1.isList p2.isList (by rw[e4,e5];simpa using hl) hu0
  |non=>rw[h'.non]at r';cases r';cases e;exact SeqAt.RcNeAt.list_none p1.isList hu0
  |bl k=>rw[h'.bl]at r';cases r';cases e;exact SeqAt.RcNeAt.list_bool k p1.isList hu0
  |int k=>rw[h'.int]at r';obtain⟨t,rfl⟩:=r';cases e;exact SeqAt.RcNeAt.list_int k t p1.isList hu0
  |str k=>rw[h'.str]at r';obtain⟨t,rfl⟩:=r';cases e;exact SeqAt.RcNeAt.list_str k t p1.isList hu0
  |_=>cases e
 |non =>
  rw[h.non]at r
  cases r
  cases y with
  |non=>rw[h'.non]at r';cases r';cases e;exact SeqAt.RcNeAt.none_none
  |bl k=>rw[h'.bl]at r';cases r';cases e;exact SeqAt.RcNeAt.none_bool k
  |int k=>rw[h'.int]at r';obtain⟨t,rfl⟩:=r';cases e;exact SeqAt.RcNeAt.none_int k t
  |str k=>rw[h'.str]at r';obtain⟨t,rfl⟩:=r';cases e;exact SeqAt.RcNeAt.none_str k t
  |tup ys =>
   obtain⟨a',vs',rfl,sq',rs'⟩:=h'.tup
   obtain rfl:u'=Value.ref a':=r'
   obtain⟨its',r2,p2,_⟩:=I.tuple sq'
   cases e
   exact SeqAt.RcNeAt.none_tuple p2 hu0
  |lst ys =>
   obtain⟨a',vs',rfl,sq',rs'⟩:=h'.lst
   obtain rfl:u'=Value.ref a':=r'
   obtain⟨its',r2,p2,_⟩:=I.list sq'
   cases e
   exact SeqAt.RcNeAt.none_list p2.isList hu0
  |_=>cases e
 |bl k0 =>
  rw[h.bl]at r
  cases r
  cases y with
  |non=>rw[h'.non]at r';cases r';cases e;exact SeqAt.RcNeAt.bool_none k0
  |bl k=>rw[h'.bl]at r';cases r';cases e;exact SeqAt.RcNeAt.bool_bool k0 k
  |int k=>rw[h'.int]at r';obtain⟨t,rfl⟩:=r';cases e;exact SeqAt.RcNeAt.bool_int k0 k t
  |str k=>rw[h'.str]at r';obtain⟨t,rfl⟩:=r';cases e;exact SeqAt.RcNeAt.bool_str k0 k t
  |tup ys =>
   obtain⟨a',vs',rfl,sq',rs'⟩:=h'.tup
   obtain rfl:u'=Value.ref a':=r'
   obtain⟨its',r2,p2,_⟩:=I.tuple sq'
   cases e
   exact SeqAt.RcNeAt.bool_tuple k0 p2 hu0
  |lst ys =>
   obtain⟨a',vs',rfl,sq',rs'⟩:=h'.lst
   obtain rfl:u'=Value.ref a':=r'
   obtain⟨its',r2,p2,_⟩:=I.list sq'
   cases e
   exact SeqAt.RcNeAt.bool_list k0 p2.isList hu0
  |_=>cases e
 |int k0 =>
  rw[h.int]at r
  obtain⟨t0,rfl⟩:=r
  cases y with
  |non=>rw[h'.non]at r';cases r';cases e;exact SeqAt.RcNeAt.int_none k0 t0
  |bl k=>rw[h'.bl]at r';cases r';cases e;exact SeqAt.RcNeAt.int_bool k0 t0 k
  |int k=>rw[h'.int]at r';obtain⟨t,rfl⟩:=r';cases e;exact SeqAt.RcNeAt.int_int k0 t0 k t
  |str k=>rw[h'.str]at r';obtain⟨t,rfl⟩:=r';cases e;exact SeqAt.RcNeAt.int_str k0 t0 k t
  |tup ys =>
   obtain⟨a',vs',rfl,sq',rs'⟩:=h'.tup
   obtain rfl:u'=Value.ref a':=r'
   obtain⟨its',r2,p2,_⟩:=I.tuple sq'
   cases e
   exact SeqAt.RcNeAt.int_tuple k0 t0 p2 hu0
  |lst ys =>
   obtain⟨a',vs',rfl,sq',rs'⟩:=h'.lst
   obtain rfl:u'=Value.ref a':=r'
   obtain⟨its',r2,p2,_⟩:=I.list sq'
   cases e
   exact SeqAt.RcNeAt.int_list k0 t0 p2.isList hu0
  |_=>cases e
 |str k0 =>
  rw[h.str]at r
  obtain⟨t0,rfl⟩:=r
  cases y with
  |non=>rw[h'.non]at r';cases r';cases e;exact SeqAt.RcNeAt.str_none k0 t0
  |bl k=>rw[h'.bl]at r';cases r';cases e;exact SeqAt.RcNeAt.str_bool k0 t0 k
  |int k=>rw[h'.int]at r';obtain⟨t,rfl⟩:=r';cases e;exact SeqAt.RcNeAt.str_int k0 t0 k t
  |str k=>rw[h'.str]at r';obtain⟨t,rfl⟩:=r';cases e;exact SeqAt.RcNeAt.str_str k0 t0 k t
  |tup ys =>
   obtain⟨a',vs',rfl,sq',rs'⟩:=h'.tup
   obtain rfl:u'=Value.ref a':=r'
   obtain⟨its',r2,p2,_⟩:=I.tuple sq'
   cases e
   exact SeqAt.RcNeAt.str_tuple k0 t0 p2 hu0
  |lst ys =>
   obtain⟨a',vs',rfl,sq',rs'⟩:=h'.lst
   obtain rfl:u'=Value.ref a':=r'
   obtain⟨its',r2,p2,_⟩:=I.list sq'
   cases e
   exact SeqAt.RcNeAt.str_list k0 t0 p2.isList hu0
  |_=>cases e
 |obj _ _=>cases y <;> cases e
 |dic _ _=>cases y <;> cases e
 |dit _ _=>cases y <;> cases e
 |clo _ _=>cases y <;> cases e
noncomputable def cD(x y:PV):Rx PV:=if x.depth<100 then(match pf x y with|some b=> .ok (.bl b)|none=> .bad) else .bad
noncomputable def iE(x y:PV):Rx PV:=if x.depth<100 then(match pf x y with|some b=> .ok (.bl (!b))|none=> .bad) else .bad
def yj(K:Fg)(G:Pg)(neg:Bool):R2:=fun v u H Q=>∃A x y b,x.depth<100/\bU K G H A x v/\bU K G H A y u/\pf x y=some b/\Q (.bl (if neg then !b else b)) H
theorem uY(hu:X.A.units+100<cLine):fY X (compareOp .Eq) (yj X.K G false):=by
 intro pins s σ H v u v' u' Q I rx ry h
 obtain⟨A,x,y,b,hd,h1,h2,e,q⟩:=h
 exact KQ I (by omega) h1 h2 rx ry e X.prog X.w _ _ ⟨.bl b,H,I,rfl,q⟩
theorem uZ(hu:X.A.units+100<cLine):fY X (compareOp .NotEq) (yj X.K G true):=by
 intro pins s σ H v u v' u' Q I rx ry h
 obtain⟨A,x,y,b,hd,h1,h2,e,q⟩:=h
 exact KR I (by omega) h1 h2 rx ry e X.prog X.w _ _ ⟨.bl (!b),H,I,rfl,q⟩
theorem zy{K:Fg}:nE K G cD (yj K G false):=by
 intro H A x y w v u Q hu e r1 r2 q
 unfold cD at e
 split at e
 ·rename_i hd
  split at e
  ·rename_i b hb;cases e;exact⟨A,x,y,b,hd,r1,r2,hb,q _ H (Same.refl H) rfl⟩
  ·cases e
 ·cases e
theorem zz{K:Fg}:nE K G iE (yj K G true):=by
 intro H A x y w v u Q hu e r1 r2 q
 unfold iE at e
 split at e
 ·rename_i hd
  split at e
  ·rename_i b hb;cases e;exact⟨A,x,y,b,hd,r1,r2,hb,q _ H (Same.refl H) rfl⟩
  ·cases e
 ·cases e
noncomputable section
variable{e a b:Expr}{da db:DP}{pos:Pos}
theorem qj{A:Around}{k:Nat}(hr:bv k A):A.units+100<cLine:=by have:=hr.un;omega
theorem yk{k:Nat}(hr:bv k X.A)(ha:JB X G a da)(hb:JB X G b db):JP X G (.Compare a [.Eq] [b] pos) (d2 cD da db):=zq (uY (qj hr)) zy ha hb (gK _)
theorem Hw{k:Nat}(hr:bv k X.A)(ha:JB X G a da)(hb:JB X G b db):JP X G (.Compare a [.NotEq] [b] pos) (d2 iE da db):=zq (uZ (qj hr)) zz ha hb (gK _)
theorem t_eq{k:Nat}(hr:bv k X.A)(ha:JB X G a da)(hb:JB X G b db):JT X G (.Compare a [.Eq] [b] pos) (aU (d2 cD da db)):=l7 (uY (qj hr)) zy ha hb (gK _)
theorem pj{k:Nat}(hr:bv k X.A)(ha:JB X G a da)(hb:JB X G b db):JT X G (.Compare a [.NotEq] [b] pos) (aU (d2 iE da db)):=l7 (uZ (qj hr)) zz ha hb (gK _)
noncomputable def kE:PV->V
 |.non=> .non | .bl b=> .bl b | .int i=> .int i | .str x=> .str x|_=> .ref 0
noncomputable def fJ(neg:Bool)(x y:PV):Rx PV:=match (match y with | .lst ys=>some ys | .tup ys=>some ys|_=>none) with
 |some ys=>if uX x=true/\ys.all uX=true then .ok (.bl (if neg then !(ys.any fun y=>lM (kE y) (kE x)) else(ys.any fun y=>lM (kE y) (kE x)))) else .bad
 |none=> .bad
theorem io{K:Fg}{H:Hp}{A:Av}{x:PV}{v:V}(r:bU K G H A x v)(f:uX x=true):v=kE x/\eK v=true:=by
 cases x <;> first|(rw[r.non];exact⟨rfl,rfl⟩)|(rw[r.bl];exact⟨rfl,rfl⟩)|(rw[r.int];exact⟨rfl,rfl⟩)|(rw[r.str];exact⟨rfl,rfl⟩)|cases f
theorem gj{K:Fg}{H:Hp}{A:Av}:∀{xs:List PV} {vs:List V},aC K G H A xs vs->xs.all uX=true->vs=xs.map kE/\vs.all eK=true
 |[],vs,h,_=>by have h:vs=[]:=h;subst h;exact⟨rfl,rfl⟩
 |x::xs,vs,h,f=>by
  obtain⟨v,r,rfl,h1,h2⟩:=h
  rw[List.all_cons,Bool.and_eq_true]at f
  obtain⟨e1,f1⟩:=io (.inl h1) f.1
  obtain⟨e2,f2⟩:=gj h2 f.2
  exact⟨by rw[e1,e2];rfl,by rw[List.all_cons,f1,f2];rfl⟩
theorem Et{K:Fg}{neg:Bool}:nE K G (fJ neg) (DQ K neg):=by
 intro H A x y w v u Q hu e r1 r2 q
 unfold fJ at e
 split at e
 ·rename_i ys hy
  split at e
  ·rename_i hf
   cases e
   obtain⟨e1,f1⟩:=io r1 hf.1
   have fin:∀vs,aC K G H A ys vs->vs.all eK=true/\CI v vs=(ys.any fun y=>lM (kE y) (kE x)):=fun vs rs=>by
    obtain⟨e2,f2⟩:=gj rs hf.2
    refine⟨f2,?_⟩
    unfold CI
    rw[e2,e1,List.any_map];rfl
   cases y with
   |lst zs =>
    cases hy
    obtain⟨a,vs,rfl,sq,rs⟩:=r2.lst
    obtain⟨f2,e3⟩:=fin vs rs
    refine⟨a,vs,rfl,.inl sq,f1,f2,?_⟩
    rw[e3]
    exact q _ H (Same.refl H) rfl
   |tup zs =>
    cases hy
    obtain⟨a,vs,rfl,sq,rs⟩:=r2.tup
    obtain⟨f2,e3⟩:=fin vs rs
    refine⟨a,vs,rfl,.inr sq,f1,f2,?_⟩
    rw[e3]
    exact q _ H (Same.refl H) rfl
   |_=>cases hy
  ·cases e
 ·cases e
theorem B6{K:Fg}{neg:Bool}{H:Hp}{A:Av}{x w:PV}{ys:List PV}{v:V}{vs:List V}{t:Addr}{Q:VK}(e:fJ neg x (.tup ys)= .ok w)(r1:bU K G H A x v)(T:jl K t vs)(rs:aC K G H A ys vs)(q:∀z,dB K G H A w z->Q z H):DQ K neg v (.ref t) H Q:=by
 have e:(if uX x=true/\ys.all uX=true then Rx.ok (PV.bl (if neg then !(ys.any fun y=>lM (kE y) (kE x)) else(ys.any fun y=>lM (kE y) (kE x)))) else .bad)= .ok w:=e
 split at e
 ·rename_i hf
  cases e
  obtain⟨e1,f1⟩:=io r1 hf.1
  obtain⟨e2,f2⟩:=gj rs hf.2
  refine⟨t,vs,rfl,.inr (T.sq H),f1,f2,?_⟩
  have:CI v vs=(ys.any fun y=>lM (kE y) (kE x)):=by
   unfold CI
   rw[e2,e1,List.any_map];rfl
  rw[this]
  exact q _ rfl
 ·cases e
theorem qk{x:Str}{t:Addr}{ws:List PV}{vs:List V}{op:CmpOp}{neg:Bool}{np:Pos}(ho:fY X (compareOp op) (DQ X.K neg))(ha:JB X G a da)(T:jl X.K t vs)(hg:Gl X x)(hm:X.mg x=some (.ref t))(hr:∀H A,aC X.K G H A ws vs)(hb:behindInMarks op (.Name x np)=false)(hd:(x == .(L))=false:=by decide) :
  JT X G (.Compare a [op] [.Name x np] pos) (aU (d2 (fJ neg) da (dC (.tup ws)))):=rZ (pY ho ha (cJ hg hm hd) hb) fun σ H Q ⟨c,ow,ps,b,R,e,q⟩=>by
 obtain⟨w,e0,e2⟩:=am e
 obtain⟨x,e1,e⟩:=am e0
 refine⟨c,ow,ps,x,R,e1,fun v H1 s1 r1=> ?_⟩
 have:=B6 (Q:=fun z H'=>∃b',z= .bl b'/\Q b' H') e r1 T (hr H1 _) fun z r=>by
  cases w <;> first|(cases e2;exact⟨_,r,q H1 s1⟩)|cases e2
 exact this
theorem ym(ha:JB X G a da)(hb:JB X G b db)(hm:behindInMarks .NotIn b=false):JT X G (.Compare a [.NotIn] [b] pos) (aU (d2 (fJ true) da db)):=l7 hJ Et ha hb hm
end
end
end DN
end
noncomputable section
namespace DN
open PySem PySem.Spec PyProof.Rows L2
noncomputable section
variable{P:Program}{w:World}{K:Fg}{mg:Str->Option Value}{base:Bs}{G:Pg}{n:Nat}{m f:Str}{ms:List Bool}
theorem cE{α :Type}{c c':Nat}{x y: α}{l:List (Nat×α)}(h:List.lookup c' ((c,x)::l)=some y):(c'=c/\y=x)\/l.lookup c'=some y:=by
 rw[List.lookup_cons]at h
 by_cases e:c'=c
 ·subst e
  simp at h
  exact .inl ⟨rfl,h.symm⟩
 ·have:(c' == c)=false:=by simpa using e
  rw[this]at h
  exact .inr h
theorem bT{g:Nat->List PV->Rx PV}:gx P w K mg base G n m ms [] g:=⟨fun c f h=>by simp at h⟩
theorem au{g:Nat->List PV->Rx PV}{c fi:Nat}{l:List (Nat×Nat)}(h:lT P w K mg base fX n (G.cA c) m (tU K G (false::ms) (g fi)))(hm:m∉G.fN c)(r:gx P w K mg base G n m ms l g):gx P w K mg base G n m ms ((c,fi)::l) g :=
 ⟨fun c' f' e=>by
  rcases cE e with⟨rfl,rfl⟩|e
  ·exact⟨h,hm⟩
  ·exact r.all c' f' e⟩
theorem bN:bQ K G f []:=⟨fun c j h=>by simp at h⟩
theorem yn{c j:Nat}{l:List (Nat×Nat)}(h1:kN K (G.cA c))(h2:bq K (G.cA c) f)(h3:(G.fN c).Nodup)(h4:(G.fN c)[j]? =some f)(r:bQ K G f l):bQ K G f ((c,j)::l) :=
 ⟨fun c' f' e=>by
  rcases cE e with⟨rfl,rfl⟩|e
  ·exact⟨h1,h2,h3,h4⟩
  ·exact r.all c' f' e⟩
theorem B7{cv:Value}:en K G cv []:=⟨fun c j h=>by simp at h,fun c j h=>by simp at h,fun b h=>by simp at h⟩
theorem yo{cv:Value}{q:Nat}{b:Bool}{l:List (Nat×Bool)}(h1:PySem.W.kitOne K (pb G q) cv=some b)(h2:q<9)(r:en K G cv l):en K G cv ((q,b)::l) :=
 ⟨fun c' f' e=>by
  rcases cE e with⟨rfl,rfl⟩|e
  ·exact h1
  ·exact r.kit c' f' e,fun c' f' e=>by
  rcases cE e with⟨z,rfl⟩|e
  ·omega
  ·exact r.cls c' f' e,fun b e=>by
  rcases cE e with⟨z,rfl⟩|e
  ·omega
  ·exact r.n9 b e⟩
theorem v4{cv:Value}{c:Nat}{b:Bool}{l:List (Nat×Bool)}(h1:PySem.W.kitOne K (.ref (G.cA c)) cv=some b)(h2:nM K (G.cA c))(r:en K G cv l):en K G cv ((c+10,b)::l) :=
 ⟨fun c' f' e=>by
  rcases cE e with⟨rfl,rfl⟩|e
  ·exact h1
  ·exact r.kit c' f' e,fun c' f' e=>by
  rcases cE e with⟨z,rfl⟩|e
  ·have:c'=c:=by omega
   subst this;exact h2
  ·exact r.cls c' f' e,fun b e=>by
  rcases cE e with⟨z,rfl⟩|e
  ·omega
  ·exact r.n9 b e⟩
theorem ck{C:Addr}(h:bz K C):nM K C:=fun H a dx fs e=>h.ty e
theorem eE{a:Addr}:∀u,aR (V.ref a) u->u=Value.ref a:=fun _ h=>h
theorem yp{n:String}:∀u,aR (V.ty n) u->u=Value.type n:=fun _ h=>h
theorem ao{f:Addr}{fd:FuncData}{ps:List Str}{g:List PV->Rx PV}(h:∀ws,g ws= .bad):cY P w K mg base fX n f fd ps (tU K G ms g):=qc fun vs H Q E ⟨A,ws,w,u,r,e,q⟩=>by rw[h]at e;cases e
end
theorem gk_set{i:Nat}:∀(w:PV) (ps ps':aX),aD i w ps= .ok ps'->∀(j:Nat) (x:Ow),ps'[j]? =some (Sl.own x)->ps[j]? =some (Sl.own x):=by
 intro w ps ps' e j x h
 cases e
 by_cases hj:j=i
 ·subst hj
  have hl:j<ps.length:=by
   have:=(List.getElem?_eq_some_iff.mp h).1
   simpa using this
  rw[List.getElem?_set_self hl]at h
  cases h
 ·rw[List.getElem?_set_ne (fun z=>hj z.symm)]at h
  exact h
theorem Hx{K:Fg}{G:Pg}{H:Hp}{a:Addr}{ns:List Int}{g:List PV->Rx PV}(hO:uv H)(hS:eI K H a (ns.map V.int))(hg:g [.lst .(Ae)]= .ok (.bl true)):tU K G [false] g [.ref a] H (fun v _=>v= .bl true) fun _ _ _=>False:=by
 refine⟨fun _=>False,[.lst .(Ae)],.bl true,fun a z=>z.elim,⟨_,_,_,_,rfl,rfl,?_,rfl,rfl⟩,hg,fun v H' s r=>r⟩
 rw[if_neg Bool.false_ne_true]
 refine⟨a,_,rfl,?_,aC.ints ns⟩
 rcases hS with(h|⟨o,h⟩)|h
 ·exact .inl ⟨h,fun z=>z⟩
 ·exact .inr (.inl ⟨o,h⟩)
 ·exact .inr (.inr h)
end DN
end
noncomputable section
namespace DN
open PySem PySem.Spec PyProof.Rows L2
noncomputable section
variable{X:Cx}{G:Pg}{e a b o tg:Expr}{es:List Expr}{da db:DP}{d:DA}{pos p apos cpos:Pos}{x m:Str}{k i:Nat}
noncomputable def Gg:List PV->PV->Nat->Option Nat
 |[],_,_=>none
 |y::ys,x,n=>if lM (kE y) (kE x)=true then some n else Gg ys x (n+1)
theorem v5:∀{ys:List PV} {x:PV} {n j:Nat},Gg ys x n=some j->n<=j/\(∃y,ys[j-n]? =some y/\lM (kE y) (kE x)=true)/\ ∀i y,i<j-n->ys[i]? =some y->lM (kE y) (kE x)=false
 |[],x,n,j,h=>by cases h
 |y::ys,x,n,j,h=>by
  unfold Gg at h
  split at h
  ·rename_i he
   cases h
   refine⟨Nat.le_refl _,⟨y,by simp,he⟩,fun i z hi=>absurd hi (by omega)⟩
  ·rename_i he
   obtain⟨h1,⟨z,h2,h3⟩,h4⟩:=v5 h
   have hj:j-n=(j-(n+1))+1:=by omega
   refine⟨by omega,⟨z,by rw[hj];simpa using h2,h3⟩,fun i w hi e=> ?_⟩
   cases i with
   |zero=>simp at e;subst e;simpa using he
   |succ i=>exact h4 i w (by omega) (by simpa using e)
noncomputable def v6(ws:List PV)(d:DP):DP:=fun ps=>(d ps).bind fun x=>if uX x=true then(match Gg ws x 0 with|some j=> .ok (.int j)|none=> .bad) else .bad
theorem yq{x:Str}{t:Addr}{ws:List PV}{vs:List V}{pos':Pos}(T:jl X.K t vs)(hg:Gl X x)(hm:X.mg x=some (.ref t))(hr:∀H A,aC X.K G H A ws vs)(hf:ws.all uX=true)(he:JP X G e da)(hd:(x == .(L))=false:=by decide)
  (hbase:attributeBase (.Name x pos') "index" X.env (eval (.Name x pos') X.env)=eval (.Name x pos') X.env:=by rfl)
  (hfew:.(C)=true:=by rfl)
  (hline:(apos.endLine == cpos.line)=true:=by rfl) (hst:starEach [e] X.env=.(S)::starEach [] X.env:=by rfl) (hpl:(backTo cpos (starEach ([]:List Expr) X.env)).any (·.1)=false:=by rfl) :
  JP X G (.Call (.Attribute (.Name x pos') "index" apos) [e] [] cpos) (v6 ws da) :=
 imp (nj PySem.F.plainAttrs_tuple PySem.F.slot_tuple_index PySem.F.type_tuple_index rW (cJ hg hm hd) (dg he fB hst) hbase hfew hline hst hpl) fun σ H Q ⟨c,ow,ps,w,R,e,q⟩=>by
  obtain⟨y,e1,e2⟩:=am e
  split at e2
  ·rename_i hy
   split at e2
   ·rename_i j hj
    cases e2
    refine⟨T.ty H,c,ow,ps,y,R,e1,fun v H' s r=> ?_⟩
    obtain⟨ev,fv⟩:=io (G:=G) (.inl r) hy
    obtain⟨evs,fvs⟩:=gj (hr H' (av c ow)) hf
    obtain⟨_,⟨z,h2,h3⟩,h4⟩:=v5 hj
    rw[Nat.sub_zero]at h2 h4
    refine⟨t,vs,v,j,kE z,rfl,rfl,T.sq H',fv,fvs,by rw[evs,List.getElem?_map,h2];rfl,by rw[ev];exact h3,fun i u hi hu=> ?_,q _ H' s rfl⟩
    rw[evs,List.getElem?_map]at hu
    cases q:ws[i]? with
    |none=>rw[q]at hu;cases hu
    |some y'=>rw[q]at hu;cases hu;rw[ev];exact h4 i y' hi q
   ·cases e2
  ·cases e2
end
def KS(K:Fg)(fN:Nat->List Str)(nF:Nat->ju)(g:List PV->Rx PV):Sp:=fun vs H Q E=>∀cA,tU K ⟨cA,fN,nF⟩ [false] g vs H Q E
theorem Hy{P:Program}{w:World}{K:Fg}{mg:Str->Option Value}{k:Nat}{fa:Addr}{x:Str}{fN:Nat->List Str}{nF:Nat->ju}{g:List PV->Rx PV}{ts:List Addr}
  (h:∃(cA:Nat->Addr) (fd:FuncData),(∀(s:Shared) (v:Value),BindsTo s fd ⟨[v],[]⟩ [(x,v)])/\ ∀base:Bs,K.In base->base.Ns mainGlobals mg->base.tabs=ts->cY P w K mg base fX k fa fd [x] (tU K ⟨cA,fN,nF⟩ [false] g)) :
  ∃fd:FuncData,(∀(s:Shared) (v:Value),BindsTo s fd ⟨[v],[]⟩ [(x,v)])/\ ∀base:Bs,K.In base->base.Ns mainGlobals mg->base.tabs=ts->cY P w K mg base fX k fa fd [x] (KS K fN nF g):=by
 obtain⟨cA,fd,h1,h2⟩:=h
 exact⟨fd,h1,fun base k1 k2 k3=>(h2 base k1 k2 k3).imp fun vs H Q E q=>q cA⟩
end DN
end
noncomputable section
namespace DN
open PySem L2
noncomputable def fin:Rs->Rx PV
 |.ret w=> .ok w
 |.retn xs=> .ok (.lst xs)
 |.nx _=> .ok .non
 |.exc c=> .exc c
 |_=> .bad
theorem yr(ms:List Bool)(n:Nat)(d:DS)(ws:List PV):aH ms n d ws=if ws.length=ms.length then fin (d (nT ms n ws)) else .bad:=by
 unfold aH fin
 split
 ·cases d (nT ms n ws) <;> rfl
 ·rfl
theorem aB{ms:List Bool}{n:Nat}{d:DS}{ws:List PV}(h:ws.length=ms.length):aH ms n d ws=fin (d (nT ms n ws)):=by rw[yr,if_pos h]
@[simp]theorem fK(w:PV):fin (.ret w)= .ok w:=rfl
@[simp]theorem Eu(xs:List PV):fin (.retn xs)= .ok (.lst xs):=rfl
def Ev:Rs->Rx PV
 |.retn xs=> .ok (.lst xs)
 |.exc c=> .exc c
 |_=> .bad
@[simp]theorem CL(xs:List PV):Ev (.retn xs)= .ok (.lst xs):=rfl
@[simp]theorem Ew(c:Nat):Ev (.exc c)= .exc c:=rfl
@[simp]theorem Hz(ps:aX):fin (.nx ps)= .ok .non:=rfl
@[simp]theorem Gh(c:Nat):fin (.exc c)= .exc c:=rfl
noncomputable def iT(l:List (Nat×Bool))(q:Nat):Rx PV:=match l.lookup q with|some b=> .ok (.bl b)|none=> .bad
def nU(l:List (Nat×Bool))(x:PV):Rx PV:=iT l (kd x)
@[simp]theorem Ex(l:List (Nat×Bool)):nU l .non=iT l 0:=rfl
@[simp]theorem Gi(l:List (Nat×Bool))(b:Bool):nU l (.bl b)=iT l 1:=rfl
@[simp]theorem Ey(l:List (Nat×Bool))(b:Int):nU l (.int b)=iT l 2:=rfl
@[simp]theorem Ez(l:List (Nat×Bool))(b:Str):nU l (.str b)=iT l 3:=rfl
@[simp]theorem EA(l:List (Nat×Bool))(b:List PV):nU l (.tup b)=iT l 4:=rfl
@[simp]theorem EB(l:List (Nat×Bool))(b:List PV):nU l (.lst b)=iT l 5:=rfl
@[simp]theorem EC(l:List (Nat×Bool))(k:Nat)(b:List PV):nU l (.obj k b)=iT l (k+10):=rfl
def Rs.next(x:Rs)(r:DS):Rs:=match x with | .nx ps'=>r ps'|y=>y
noncomputable def ED(x:Rx Bool)(s r:DS)(ps:aX):Rs:=x.st fun b=>if b=true then s ps else r ps
def yt(x:Rx Bool)(u:DT)(ps:aX):Rx Bool:=x.bind fun b=>if b=true then u ps else .ok false
def HA(x:Rx Bool)(u:DT)(ps:aX):Rx Bool:=x.bind fun b=>if b=true then .ok true else u ps
def v7(x:Rx PV)(b:DP)(ps:aX):Rx PV:=x.bind fun y=>match y with | .bl true=>b ps | .bl false=> .ok (.bl false)|_=> .bad
def yu(x:Rx PV)(b:DP)(ps:aX):Rx PV:=x.bind fun y=>match y with | .bl true=> .ok (.bl true) | .bl false=>b ps|_=> .bad
noncomputable def B8(x:Rx Bool)(a b:DP)(ps:aX):Rx PV:=x.bind fun y=>if y=true then a ps else b ps
noncomputable def jc(x y:Rx PV)(f:PV->PV->Rx PV):Rx PV:=x.bind fun u=>y.bind fun v=>f u v
noncomputable def zA(x:Rx PV)(xs:Rx (List PV)):Rx (List PV):=x.bind fun u=>xs.bind fun us=> .ok (u::us)
noncomputable section
variable(ps:aX)(i:Nat)(a b:DP)(d:DA)(t u:DT)(s r:DS)(f:PV->PV->Rx PV)
@[simp]theorem ar:(Rs.nx ps).next r=r ps:=rfl
@[simp]theorem EE(w:PV):(Rs.ret w).next r= .ret w:=rfl
@[simp]theorem CM(xs:List PV):(Rs.retn xs).next r= .retn xs:=rfl
@[simp]theorem CN(w:PV)(x:Ow):(Rs.reti w x).next r= .reti w x:=rfl
@[simp]theorem EF:(Rs.brk ps).next r= .brk ps:=rfl
@[simp]theorem EG:(Rs.cnt ps).next r= .cnt ps:=rfl
@[simp]theorem EH(c:Nat):(Rs.exc c).next r= .exc c:=rfl
@[simp]theorem fe:ED (.ok true) s r ps=s ps:=rfl
@[simp]theorem cn:ED (.ok false) s r ps=r ps:=rfl
@[simp]theorem JZ(c:Nat):ED (.exc c) s r ps= .exc c:=rfl
@[simp]theorem v8:yt (.ok true) t ps=t ps:=rfl
@[simp]theorem HB:yt (.ok false) t ps= .ok false:=rfl
@[simp]theorem K0:HA (.ok true) t ps= .ok true:=rfl
@[simp]theorem EI:HA (.ok false) t ps=t ps:=rfl
@[simp]theorem Gj:v7 (.ok (.bl true)) b ps=b ps:=rfl
@[simp]theorem Gk:v7 (.ok (.bl false)) b ps= .ok (.bl false):=rfl
@[simp]theorem HC:yu (.ok (.bl true)) b ps= .ok (.bl true):=rfl
@[simp]theorem HD:yu (.ok (.bl false)) b ps=b ps:=rfl
@[simp]theorem HE:B8 (.ok true) a b ps=a ps:=rfl
@[simp]theorem HF:B8 (.ok false) a b ps=b ps:=rfl
@[simp]theorem cq(x y:PV):jc (.ok x) (.ok y) f=f x y:=rfl
@[simp]theorem dq(x:PV)(xs:List PV):zA (.ok x) (.ok xs)= .ok (x::xs):=rfl
@[simp]theorem ql:af i ps=match ps[i]? with|some (.v w)=> .ok w|_=> .bad:=rfl
@[simp]theorem l8:ag i ps=match ps[i]? with|some (.v w)=> .ok w|some (.own x)=> .ok x.pv|some (.bor w)=> .ok w|_=> .bad:=rfl
@[simp]theorem B9(w:PV):dC w ps= .ok w:=rfl
@[simp]theorem gp:d2 f a b ps=jc (a ps) (b ps) f:=rfl
@[simp]theorem fV:aU a ps=(a ps).bind fun x=>match x with | .bl b=> .ok b|_=> .bad:=rfl
@[simp]theorem pk:f8 t u ps=yt (t ps) u ps:=rfl
@[simp]theorem zB:iQ t u ps=HA (t ps) u ps:=rfl
@[simp]theorem m8:f9 t ps=(t ps).bind fun x=> .ok (!x):=rfl
@[simp]theorem HG:uP a b ps=v7 (a ps) b ps:=rfl
@[simp]theorem EJ:yg a b ps=yu (a ps) b ps:=rfl
@[simp]theorem HH:qe a ps=(a ps).bind fun x=>match x with | .bl k=> .ok (.bl (!k))|_=> .bad:=rfl
@[simp]theorem K1:yh a ps=(a ps).bind fun x=>match x with | .int i=> .ok (.int (-i))|_=> .bad:=rfl
@[simp]theorem K2:p9 t a b ps=B8 (t ps) a b ps:=rfl
@[simp]theorem K3:Ho a ps=(a ps).bind fun x=> .ok (.bl (Ee x)):=rfl
@[simp]theorem HI:gG a ps=(a ps).bind fun x=> .ok (.bl (!Ee x)):=rfl
@[simp]theorem gc:ah ps= .ok []:=rfl
@[simp]theorem bZ:ae a d ps=zA (a ps) (d ps):=rfl
@[simp]theorem K4:eT d ps=(d ps).bind fun ws=> .ok (.tup ws):=rfl
@[simp]theorem cP:aG d ps=(d ps).bind fun ws=> .ok (.lst ws):=rfl
@[simp]theorem dR(g:List PV->Rx PV):aj g d ps=(d ps).bind g:=rfl
@[simp]theorem Gm(g:List PV->Rx (List PV)):fG g d ps=(d ps).bind g:=rfl
@[simp]theorem K6(c:Nat):eB c d ps=(d ps).bind fun ws=> .ok (.obj c ws):=rfl
@[simp]theorem yx:aE a ps=(a ps).bind fun x=>match x with | .lst xs=> .ok xs|_=> .bad:=rfl
@[simp]theorem EK:fH a ps=(a ps).bind fun x=>match x with | .tup xs=> .ok xs|_=> .bad:=rfl
@[simp]theorem K7(l:List (Nat×Bool)):gM l a ps=(a ps).bind (nU l):=rfl
@[simp]theorem K8(dl dh:aX->Rx (Option Int)):cT a dl dh ps=(a ps).bind fun x=>(dl ps).bind fun lo=>(dh ps).bind fun hi=>match x with | .lst xs=> .ok (cutP xs lo hi)|_=> .bad:=rfl
@[simp]theorem KU:jn ps= .ok none:=rfl
@[simp]theorem KW:g9 a ps=(a ps).bind fun x=>match x with | .int i=> .ok (some i)|_=> .bad:=rfl
@[simp]theorem m9:dL a b ps=(a ps).bind fun x=>(b ps).bind fun y=>match x,y with | .lst xs,.lst ys=>if xs.length+ys.length<=sizeLine then .ok (xs++ys) else .bad|_,_=> .bad:=rfl
@[simp]theorem cr:aQ ps= .nx ps:=rfl
@[simp]theorem K9:Hu ps= .brk ps:=rfl
@[simp]theorem Ka:Hv ps= .cnt ps:=rfl
@[simp]theorem aF:ay s r ps=(s ps).next r:=rfl
@[simp]theorem gI:aS i a ps=(a ps).st fun w=> .nx (ps.set i (.v w)):=rfl
@[simp]theorem HJ(m:DM):nQ i m ps=(m ps).st fun w=> .nx (w.2.set i (.v w.1)):=rfl
@[simp]theorem EL:il i d ps=(d ps).st fun ws=>if i<ps.length then .nx (ps.set i (.own (.lst ws))) else .bad:=rfl
@[simp]theorem Kb(g:DG):se g a ps=(a ps).st fun w=>(g w ps).st fun ps'=> .nx ps':=rfl
@[simp]theorem va(m:DM):cN m ps=(m ps).st fun w=> .nx w.2:=rfl
@[simp]theorem HK:Ep d ps=(d ps).st fun xs=> .retn xs:=rfl
@[simp]theorem HL:Er i ps=match ps[i]? with|some (.own (.lst xs))=> .retn xs|_=> .bad:=rfl
@[simp]theorem eF:aJ a ps=(a ps).st fun w=> .ret w:=rfl
@[simp]theorem HM(m:DM):im m ps=(m ps).st fun w=> .ret w.1:=rfl
@[simp]theorem HN:Es ps= .ret .non:=rfl
@[simp]theorem cZ:cO t s r ps=ED (t ps) s r ps:=rfl
@[simp]theorem nV(g:DG):sFor d g s ps=(d ps).st fun ws=>bS g s ws ps:=rfl
@[simp]theorem HP:cK a ps=(a ps).bind fun w=> .ok (w,ps):=rfl
@[simp]theorem HQ:m4 ps= .ok ([],ps):=rfl
@[simp]theorem Gn(m:DM)(n:p7):cM m n ps=(m ps).bind fun x=>(n x.2).bind fun y=> .ok (x.1::y.1,y.2):=rfl
@[simp]theorem HR(n:p7):m5 n ps=(n ps).bind fun x=>if x.1.length<=1000 then .ok (.tup x.1,x.2) else .bad:=rfl
@[simp]theorem Go(n:p7)(g:List PV->Rx PV):Eo g n ps=(n ps).bind fun x=>(g x.1).bind fun w=> .ok (w,x.2):=rfl
@[simp]theorem Kc:kC i ps=match ps[i]? with|some (.own y)=> .ok (y.pv,ps.set i (.v y.pv))|some (.v w)=> .ok (w,ps)|_=> .bad:=rfl
@[simp]theorem Kd:kB i ps=match ps[i]? with|some (.own (.lst xs))=>(match xs.getLast? with|some w=> .ok (w,ps.set i (.own (.lst xs.dropLast)))|none=> .bad)|_=> .bad:=rfl
@[simp]theorem Ke(m:DM):ii i m ps=match ps[i]? with
 |some (.own (.lst _))=>(m ps).bind fun x=>(match x.2[i]? with|some (.own (.lst xs))=>if xs.length<sizeLine then .ok (.non,x.2.set i (.own (.lst (xs++[x.1])))) else .bad|_=> .bad)
 |_=> .bad:=rfl
@[simp]theorem HS(w:PV):aD i w ps= .ok (ps.set i (.v w)):=rfl
@[simp]theorem HU:ja [] ps= .ok ps:=rfl
@[simp]theorem Gp(g:DG)(gs:List PV->aX->Rx aX)(w:PV)(ws:List PV):ci g gs (w::ws) ps=(g w ps).bind fun ps'=>gs ws ps':=rfl
@[simp]theorem HV(n:Nat)(gs:List PV->aX->Rx aX)(ws:List PV):jb n gs (.tup ws) ps=if ws.length=n then gs ws ps else .bad:=rfl
@[simp]theorem zC(g:Int->Int->PV)(x y:Int):fI g (.int x) (.int y)= .ok (g x y):=rfl
@[simp]theorem Kf(C:Int->Int->Prop)[∀i j,Decidable (C i j)](g:Int->Int->PV)(x y:Int):AW C g (.int x) (.int y)=if C x y then .ok (g x y) else .bad:=rfl
@[simp]theorem Kg(x y:Int):cD (.int x) (.int y)= .ok (.bl (x == y)):=rfl
@[simp]theorem Kh(x y:Str):cD (.str x) (.str y)= .ok (.bl (x == y)):=rfl
@[simp]theorem Ki(x y:Bool):cD (.bl x) (.bl y)= .ok (.bl (x == y)):=rfl
@[simp]theorem Kj(x y:Int):iE (.int x) (.int y)= .ok (.bl (!(x == y))):=rfl
@[simp]theorem Kk(x y:Str):iE (.str x) (.str y)= .ok (.bl (!(x == y))):=rfl
@[simp]theorem Kl(x y:Bool):iE (.bl x) (.bl y)= .ok (.bl (!(x == y))):=rfl
@[simp]theorem qm(xs:List PV)(j:Int):fIx (.lst xs) (.int j)=match iL xs j with|some w=> .ok w|none=> .bad:=rfl
@[simp]theorem dD(xs:List PV)(j:Int):fIx (.tup xs) (.int j)=match iL xs j with|some w=> .ok w|none=> .bad:=rfl
@[simp]theorem HW(xs:List PV):bR [.lst xs]= .ok (.int xs.length):=rfl
@[simp]theorem HX(xs:List PV):bR [.tup xs]= .ok (.int xs.length):=rfl
@[simp]theorem EM(g:DG):bS g s [] ps= .nx ps:=rfl
end
def bp(tab:List (Nat×Nat))(g:Nat->List PV->Rx PV)(x:PV)(ws:List PV):Rx PV:=match x with
 |.obj c xs=>(match tab.lookup c with|some f=>g f (.obj c xs::ws)|none=> .bad)
 |_=> .bad
noncomputable def vb(tab:List (Nat×Nat))(g:Nat->List PV->Rx PV)(x:PV)(m:Rx (List PV)):Rx PV:=match x with
 |.obj c xs=>(match tab.lookup c with|some f=>m.bind fun ws=>g f (.obj c xs::ws)|none=> .bad)
 |_=> .bad
@[simp]theorem vc(tab:List (Nat×Nat))(g:Nat->List PV->Rx PV)(x:PV)(ws:List PV):vb tab g x (.ok ws)=bp tab g x ws:=rfl
@[simp]theorem jT(tab:List (Nat×Nat))(g:Nat->List PV->Rx PV)(a:DP)(d:DA)(ps:aX):aO tab g a d ps=(a ps).bind fun x=>vb tab g x (d ps):=rfl
noncomputable def ba(l:List (Nat×Nat))(x:PV):Rx PV:=match x with
 |.obj k xs=>(match l.lookup k with|some j=>(match xs[j]? with|some w=> .ok w|none=> .bad)|none=> .bad)
 |_=> .bad
@[simp]theorem vd(l:List (Nat×Nat))(a:DP)(ps:aX):aZ l a ps=(a ps).bind (ba l):=rfl
theorem l9{β :Type}{g:DG}{body:DS}(step: β ->PV-> β)(emb: β ->aX):∀(ws:List PV) (b: β),(∀b w,w∈ws->∃ps1,g w (emb b)= .ok ps1/\(body ps1= .nx (emb (step b w))\/body ps1= .cnt (emb (step b w))))->bS g body ws (emb b)= .nx (emb (ws.foldl step b))
 |[],b,_=>rfl
 |w::ws,b,h=>by
  obtain⟨ps1,e1,e2⟩:=h b w List.mem_cons_self
  rw[bS,e1,br]
  have ih:=l9 step emb ws (step b w) fun b' w' hw=>h b' w' (List.mem_cons_of_mem _ hw)
  rcases e2 with e2|e2 <;> (rw[e2];exact ih)
end DN
end
noncomputable section
namespace DN
open PySem PySem.Spec PyProof.Rows L2
noncomputable section
variable{X:Cx}{G:Pg}{e a b o tg:Expr}{es:List Expr}{da db:DP}{d:DA}{pos p p2 apos cpos:Pos}{x m:Str}{k i:Nat}
theorem qo{bs:List Bool}{us:List Value}(r:aM (bs.map V.bl) us){i:Nat}{v:Value}(h:us[i]? =some v):∃b,bs[i]? =some b/\v= .bool b:=by
 have hi:i<us.length:=(List.getElem?_eq_some_iff.mp h).1
 have hl:(bs.map V.bl).length=us.length:=r.length
 have hi':i<bs.length:=by rw[List.length_map]at hl;omega
 obtain⟨u,e1,e2⟩:=r.get (i:=i) (x:=V.bl bs[i]) (by rw[List.getElem?_map,List.getElem?_eq_getElem hi'];rfl)
 rw[h]at e1;cases e1
 exact⟨bs[i],List.getElem?_eq_getElem hi',e2⟩
theorem la(hc:X.calm=true):j5 X (.builtin "all") (fun xs H Q=>∃p bs,xs=[.ref p]/\eI X.K H p (List.map V.bl bs)/\Q (.bl (bs.all id)) H):=by
 intro pins s σ H xs us Q I r h
 obtain⟨p,bs,rfl,hS,q⟩:=h
 obtain⟨u,rfl,ru⟩:=n0 r
 obtain rfl:u=Value.ref p:=ru
 obtain⟨its,ri,pl,_⟩:=I.list hS
 have hl:=pl.isList
 have hlt:p<s.heap.objs.size:=by obtain⟨_,e,_⟩:=hl;exact Heap.lt_size e
 refine call_all_walk (wpAny_pyIter_list hl ?_)
 refine⟨s.heap.objs.size,[s.heap.objs.size,p],[s.heap.objs.size],its.toArray.size,_,_,fun i=>(bs[i]?).getD true,rfl,Walks.list (A:=X.A.in1) (I.ok.hd hc) _ p (Nat.ne_of_lt hlt) its.toArray,
  ⟨⟨_,Heap.get?_push_size _ rfl,rfl,rfl⟩,hl.push _⟩,fun i v s' Q' E' hP hQ=> ?_,fun h' tk hk=> ?_⟩
 ·obtain⟨b,e,rfl⟩:=qo ri (i:=i) (v:=v) (by simpa using hP)
  simp only[e,Option.getD_some]at hQ
  exact wpAny_truthy_bool hQ
 ·have e:((List.range its.toArray.size).all fun i=>(bs[i]?).getD true)=bs.all id:=by
   have hl:its.length=bs.length:=by rw[<-ri.length,List.length_map]
   rw[List.size_toArray,hl];exact LSm.range_all bs
  rw[e]
  exact⟨.bl _,H,I.kept (LSm.kept_iter hk),rfl,q⟩
theorem si(hc:X.calm=true):j5 X (.builtin "any") (fun xs H Q=>∃p bs,xs=[.ref p]/\eI X.K H p (List.map V.bl bs)/\Q (.bl (bs.any id)) H):=by
 intro pins s σ H xs us Q I r h
 obtain⟨p,bs,rfl,hS,q⟩:=h
 obtain⟨u,rfl,ru⟩:=n0 r
 obtain rfl:u=Value.ref p:=ru
 obtain⟨its,ri,pl,_⟩:=I.list hS
 have hl:=pl.isList
 have hlt:p<s.heap.objs.size:=by obtain⟨_,e,_⟩:=hl;exact Heap.lt_size e
 refine call_any_walk (wpAny_pyIter_list hl ?_)
 refine⟨s.heap.objs.size,[s.heap.objs.size,p],[s.heap.objs.size],its.toArray.size,_,_,fun i=>(bs[i]?).getD false,rfl,Walks.list (A:=X.A.in1) (I.ok.hd hc) _ p (Nat.ne_of_lt hlt) its.toArray,
  ⟨⟨_,Heap.get?_push_size _ rfl,rfl,rfl⟩,hl.push _⟩,fun i v s' Q' E' hP hQ=> ?_,fun h' tk hk=> ?_⟩
 ·obtain⟨b,e,rfl⟩:=qo ri (i:=i) (v:=v) (by simpa using hP)
  simp only[e,Option.getD_some]at hQ
  exact wpAny_truthy_bool hQ
 ·have e:((List.range its.toArray.size).any fun i=>(bs[i]?).getD false)=bs.any id:=by
   have hl:its.length=bs.length:=by rw[<-ri.length,List.length_map]
   rw[List.size_toArray,hl];exact LSm.range_any bs
  rw[e]
  exact⟨.bl _,H,I.kept (LSm.kept_iter hk),rfl,q⟩
noncomputable def fS:List PV->Option (List Bool)
 |[]=>some []
 |.bl i::r=>(fS r).map (i :: ·)
 |_::_=>none
theorem jU:∀{xs:List PV} {ns:List Bool},fS xs=some ns->xs=ns.map PV.bl
 |[],ns,h=>by cases h;rfl
 |x::r,ns,h=>by
  cases x <;> try cases h
  rename_i i
  have h:(fS r).map (i :: ·)=some ns:=h
  cases q:fS r with
  |none=>rw[q]at h;cases h
  |some ms=>rw[q]at h;cases h;rw[jU q];rfl
theorem aC.of_bls{K:Fg}{H:Hp}{A:Av}:∀{ns:List Bool} {vs:List V},aC K G H A (ns.map PV.bl) vs->vs=ns.map V.bl
 |[],vs,h=>h
 |n::ns,vs,h=>by
  obtain⟨v,r,e,h1,h2⟩:=h
  have h1:v= .bl n:=h1
  rw[e,h1,aC.of_bls h2];rfl
noncomputable def sj:List PV->Rx PV
 |[.lst xs]=>match fS xs with|some ns=> .ok (.bl (ns.all id))|none=> .bad
 |_=> .bad
noncomputable def yz:List PV->Rx PV
 |[.lst xs]=>match fS xs with|some ns=> .ok (.bl (ns.any id))|none=> .bad
 |_=> .bad
theorem ve{K:Fg}:Ei K G [true] sj (fun xs H Q=>∃p bs,xs=[V.ref p]/\eI K H p (List.map V.bl bs)/\Q (.bl (bs.all id)) H):=by
 intro H A ws vs w Q hu e r q
 obtain⟨x,v,rfl,rfl,rb⟩:=r.one
 clear r
 cases x <;> try cases e
 rename_i xs
 have e:(match fS xs with|some ns=>Rx.ok (PV.bl (ns.all id))|none=> .bad)= .ok w:=e
 split at e
 ·rename_i ns h
  cases e
  obtain⟨a,vs,rfl,sq,rs⟩:=rb.lst
  rw[jU h]at rs
  rw[rs.of_bls]at sq
  exact⟨a,ns,rfl,sq,q _ H (Same.refl H) rfl⟩
 ·cases e
theorem Ba{K:Fg}:Ei K G [true] yz (fun xs H Q=>∃p bs,xs=[V.ref p]/\eI K H p (List.map V.bl bs)/\Q (.bl (bs.any id)) H):=by
 intro H A ws vs w Q hu e r q
 obtain⟨x,v,rfl,rfl,rb⟩:=r.one
 clear r
 cases x <;> try cases e
 rename_i xs
 have e:(match fS xs with|some ns=>Rx.ok (PV.bl (ns.any id))|none=> .bad)= .ok w:=e
 split at e
 ·rename_i ns h
  cases e
  obtain⟨a,vs,rfl,sq,rs⟩:=rb.lst
  rw[jU h]at rs
  rw[rs.of_bls]at sq
  exact⟨a,ns,rfl,sq,q _ H (Same.refl H) rfl⟩
 ·cases e
noncomputable def EN(d:DA):DA:=fun ps=>(d ps).bind fun ws=>match ws with|[.int j]=>if -(2 ^ 62)<=j/\j<=2 ^ 24 then .ok (ig 0 j.toNat) else .bad|_=> .bad
end
@[simp]theorem HY(ps:aX)(d:DA):EN d ps=(d ps).bind fun ws=>match ws with|[.int j]=>if -(2 ^ 62)<=j/\j<=2 ^ 24 then .ok (ig 0 j.toNat) else .bad|_=> .bad:=rfl
noncomputable def EO(l m:List (Nat×Bool))(d:DP):DP:=fun ps=>(d ps).bind fun x=>match l.lookup (kd x),m.lookup (kd x)with|some a,some b=> .ok (.bl (a || b))|_,_=> .bad
noncomputable section
variable{X:Cx}{G:Pg}{e c1 c2:Expr}{da:DP}{pos p:Pos}
end
noncomputable def EQ(l m:List (Nat×Bool))(x:PV):Rx PV:=match l.lookup (kd x),m.lookup (kd x)with|some a,some b=> .ok (.bl (a || b))|_,_=> .bad
@[simp]theorem HZ(l m:List (Nat×Bool))(a:DP)(ps:aX):EO l m a ps=(a ps).bind (EQ l m):=rfl
end DN
end
noncomputable section
namespace DN
open PySem L2
theorem ma(ns:List Int)(lo hi:Option Int):∃ms:List Int,cutP .(Ae) lo hi=ms.map PV.int/\ms.length=min (HT.sIx ns.length ns.length hi-HT.sIx ns.length 0 lo) (ns.length-HT.sIx ns.length 0 lo):=by
 refine⟨(ns.drop (HT.sIx ns.length 0 lo)).take (HT.sIx ns.length ns.length hi-HT.sIx ns.length 0 lo),?_,by rw[List.length_take,List.length_drop]⟩
 unfold cutP
 rw[List.length_map,List.map_take,List.map_drop]
theorem jV(xs:List PV)(x:PV):(xs++[x]).getLast? =some x:=by simp
theorem jW(xs:List PV)(x:PV):(xs++[x]).dropLast=xs:=by simp
end DN
end
noncomputable section
namespace L2
open PySem PySem.Spec PyProof.Rows
noncomputable section
variable{X:Cx}{tg:Expr}
end
end L2
namespace DN
open PySem PySem.Spec PyProof.Rows L2
def Gq(x:Str):List PV:=x.cps.toList.map fun c=>PV.str ⟨#[c]⟩
noncomputable section
variable{X:Cx}{G:Pg}{e a b o tg iter:Expr}{es:List Expr}{body:List Stmt}{da db dk dv:DP}{d:DA}{ds:DS}{pos pos' p apos:Pos}{x m:Str}{k i:Nat}{ms:List Bool}
def qp(d:DP):DA:=fun ps=>(d ps).bind fun x=>match x with | .str y=> .ok (Gq y)|_=> .bad
@[simp]theorem ER(d:DP)(ps:aX)(y:Str)(h:d ps= .ok (.str y)):qp d ps= .ok (Gq y):=by unfold qp;rw[h];rfl
noncomputable def gd:PV->Option Key
 |.int i=>some (.inl i)
 |.str y=>some (.inr y)
 |_=>none
theorem qq{K:Fg}{H:Hp}{A:Av}{w:PV}{v:V}{k:Key}(r:dB K G H A w v)(e:gd w=some k):v=kV k:=by
 cases w <;> simp[gd]at e
 ·subst e;exact r
 ·subst e;exact r
def inK(ks:List Key)(k:Key):Bool:=ks.any fun k'=>decide (k'=k)
theorem md{ks:List Key}{k:Key}:inK ks k=true ↔ k∈ks:=by unfold inK;simp
def dU(ks:List Key)(k:Key):List Key:=if inK ks k=true then ks else ks++[k]
noncomputable def dE{α :Type}(ks:List Key)(xs:List α)(k:Key)(w: α):List α :=if inK ks k=true then List.zipWith (fun k' x=>if k'=k then w else x) ks xs else xs++[w]
theorem me{k:Key}:∀{ks:List Key} {vs:List V},ks.length=vs.length->(((ks.zip vs).any fun kv=>decide (kv.1=k))=true ↔ k∈ks)
 |[],vs,h=>by simp
 |a::ks,[],h=>by simp at h
 |a::ks,v::vs,h=>by
  have:=me (k:=k) (ks:=ks) (vs:=vs) (by simpa using h)
  rw[List.zip_cons_cons,List.any_cons,Bool.or_eq_true,this,List.mem_cons]
  simp[eq_comm]
theorem qr{k:Key}{w:V}:∀{ks:List Key} {vs:List V},ks.length=vs.length->(ks.zip vs).map (fun kv=>if kv.1=k then(kv.1,w) else kv)=ks.zip (List.zipWith (fun k' x=>if k'=k then w else x) ks vs)
 |[],vs,h=>by simp
 |a::ks,[],h=>by simp at h
 |a::ks,v::vs,h=>by
  have:=qr (k:=k) (w:=w) (ks:=ks) (vs:=vs) (by simpa using h)
  rw[List.zip_cons_cons,List.map_cons,this,List.zipWith_cons_cons,List.zip_cons_cons]
  congr 1
  by_cases e:a=k <;> simp[e]
theorem yA{ks:List Key}{vs:List V}{k:Key}{v:V}(h:ks.length=vs.length):eR (ks.zip vs) k v=(dU ks k).zip (dE ks vs k v):=by
 unfold eR dU dE
 by_cases e:inK ks k=true
 ·rw[if_pos ((me h).mpr (md.mp e)),if_pos e,if_pos e,qr h]
 ·rw[if_neg (fun z=>e (md.mpr ((me h).mp z))),if_neg e,if_neg e,List.zip_append h];rfl
theorem qt{α :Type}{ks:List Key}{vs:List α}{k:Key}{v: α}(h:ks.length=vs.length):(dU ks k).length=(dE ks vs k v).length:=by
 unfold dU dE
 split <;> simp[h]
theorem qu{K:Fg}{H:Hp}{A:Av}{k:Key}{w:PV}{v:V}(r:dB K G H A w v):∀{ks:List Key} {ws:List PV} {vs:List V},aC K G H A ws vs->aC K G H A (List.zipWith (fun k' x=>if k'=k then w else x) ks ws) (List.zipWith (fun k' x=>if k'=k then v else x) ks vs)
 |[],ws,vs,h=>rfl
 |a::ks,[],vs,h=>by have h:vs=[]:=h;subst h;rfl
 |a::ks,x::ws,vs,h=>by
  obtain⟨u,rr,rfl,h1,h2⟩:=h
  refine⟨_,_,rfl,?_,qu r h2⟩
  by_cases e:a=k
  ·simp only[if_pos e];exact r
  ·simp only[if_neg e];exact h1
theorem aC.put{K:Fg}{H:Hp}{A:Av}{ks:List Key}{k:Key}{w:PV}{v:V}{ws:List PV}{vs:List V}(h:aC K G H A ws vs)(r:dB K G H A w v):aC K G H A (dE ks ws k w) (dE ks vs k v):=by
 unfold dE
 split
 ·exact qu r h
 ·exact h.snoc r
noncomputable def vf(i:Nat):DS:=fun ps=>if i<ps.length then .nx (ps.set i (.own (.dic [] []))) else .bad
theorem Bb(hN:X.N.Nodup)(hi:X.N[i]? =some x)(hx:mW X.env.scope x)(hs:swapsWith (.Dict [] [] pos') (some (.Name x p)) pos.line X.env=pure false:=by rfl)(hf:X.fn x=true\/X.env.scope.names.lookup x=some .local:=by first|exact .inl rfl|exact .inr rfl|assumption) :
  JS X G (.Assign [.Name x p] (.Dict [] [] pos') pos) (vf i):=fb (jC hN hi hx uA hs hf) fun D σ H ⟨c,ow,ps,R,q⟩=>by
 unfold vf at q
 split at q
 ·rename_i hl
  intro p hp
  have s:=bx hp (HO.dK [] 0)
  exact q _ _ _ (R.setO hl s hp ⟨[],0,ax,rfl,rfl⟩) (Kp.take hp s qi)
 ·exact q.elim
noncomputable def jX(i:Nat)(dk dv:DP):DS:=fun ps=>(dv ps).st fun w=>(dk ps).st fun y=>match ps[i]?,gd y with
 |some (.own (.dic ks xs)),some k=>if ks.length<sizeLine then .nx (ps.set i (.own (.dic (dU ks k) (dE ks xs k w)))) else .bad
 |_,_=> .bad
theorem vg{ke value:Expr}{tpos:Pos}(i:Nat)(hu:X.A.units+1<cLine)(hk:JP X G ke dk)(he:JP X G value dv)(hs:swapsWith value (some (.Subscript (.Name x p) ke tpos)) pos.line X.env=pure false)(hN:X.N[i]? =some x:=by rfl)(hv:lF X.env.scope x:=by first|exact Or.inl rfl|exact Or.inr (Or.inl rfl)|exact Or.inr (Or.inr rfl))(hd:(x == .(L))=false:=by decide)
  (hcd:(x == .(Z))=false:=by decide):JS X G (.Assign [.Subscript (.Name x p) ke tpos] value pos) (jX i dk dv) :=
 fb (y0 hu (bh hN hv hd hcd) hk he hs) fun D σ H ⟨c,ow,ps,R,q⟩=>by
  obtain⟨w,e1,q⟩:=bi q
  obtain⟨y,e2,q⟩:=bi q
  split at q
  ·rename_i ks xs k hx hkk
   split at q
   ·rename_i hl
    refine⟨c,ow,ps,w,R,e1,fun v H1 s1 r1=> ?_⟩
    obtain⟨p0,e3,e4,vs0,ep0,hH0,l0,rs0⟩:=R.getO hx
    refine⟨_,e4,c,ow,ps,y,R.grow s1,e2,fun u H2 s2 r2=> ?_⟩
    have s12:=s1.trans s2
    have R2:=R.grow s12
    have hH:H2 p0=some (.dK (ks.zip vs0) ep0):=s12 _ _ hH0
    have rs:=rs0.same s12
    have mD:Mt (HO.dK (ks.zip vs0) ep0):=And.intro (fun _ z=>by cases z) (fun _ _ z=>by cases z)
    have hz:eR (ks.zip vs0) k v=(dU ks k).zip (dE ks vs0 k v):=yA l0
    refine⟨p0,rfl,?_⟩
    rw[qq r2 hkk]
    refine uy.k hH (by rw[List.length_zip,<-l0];omega) fun ep'=> ?_
    have k0:Kp X.K G H2 (av c ow) (upd H2 p0 (.dK (eR (ks.zip vs0) k v) ep')) (av c ow):=Kp.own (.inr ⟨i,e3⟩) hH mD
    have:=R2.chg (y:= .dic (dU ks k) (dE ks xs k w)) (u:= .dK (eR (ks.zip vs0) k v) ep') hx e3 ⟨dE ks vs0 k v,ep',by rw[hz];exact ax,qt l0,k0.reps (rs.put (r1.same s2))⟩
    exact q _ _ _ this.1 ((Kp.of_same s12).trans this.2)
   ·exact q.elim
  ·exact q.elim
end
end DN
end
noncomputable section
namespace DN
open PySem PySem.Spec PyProof.Rows L2
noncomputable def bL{α :Type}:List Key->List α ->Key->Option α
 |k'::ks,x::xs,k=>if k'=k then some x else bL ks xs k
 |_,_,_=>none
theorem mf{k:Key}:∀{ks:List Key} {vs:List V},hV (ks.zip vs) k=bL ks vs k
 |[],vs=>by cases vs <;> rfl
 |a::ks,[]=>rfl
 |a::ks,v::vs=>by
  rw[List.zip_cons_cons,bL]
  by_cases e:a=k
  ·rw[hX (p:=(a,v)) e,if_pos e]
  ·rw[hZ (p:=(a,v)) e,if_neg e,mf]
noncomputable section
variable{K:Fg}{G:Pg}{H:Hp}{A:Av}
theorem mh{k:Key}:∀{ks:List Key} {ws:List PV} {vs:List V},aC K G H A ws vs->(∀w,bL ks ws k=some w->∃v,bL ks vs k=some v/\dB K G H A w v)/\(bL ks vs k).isSome=(bL ks ws k).isSome
 |[],ws,vs,h=>⟨fun w e=>(by cases ws <;> cases e),by cases ws <;> cases vs <;> rfl⟩
 |a::ks,[],vs,h=>by
  have h:vs=[]:=h
  subst h
  exact⟨fun w e=>(by cases e),rfl⟩
 |a::ks,x::ws,vs,h=>by
  obtain⟨v,r,rfl,h1,h2⟩:=h
  have ih:=mh (k:=k) (ks:=ks) h2
  by_cases e:a=k
  ·simp only[bL,if_pos e]
   exact⟨fun w q=>⟨v,rfl,by cases q;exact h1⟩,by simp⟩
  ·simp only[bL,if_neg e]
   exact ih
end
noncomputable section
variable{X:Cx}{G:Pg}{e a b o i f value:Expr}{es:List Expr}{da db dd dk dv:DP}{d:DA}{dm:DM}{pos pos' p apos cpos tpos:Pos}{x:Str}{j:Nat}
noncomputable def lb:PV->PV->Rx PV
 |.dic ks xs,y=>match gd y with
  |some k=>(match bL ks xs k with|some w=> .ok w|none=> .bad)
  |none=> .bad
 |_,_=> .bad
theorem ES{K:Fg}{H:Hp}{A:Av}{w:PV}{v:V}{k:Key}(r:bU K G H A w v)(e:gd w=some k):v=kV k:=by
 cases w <;> simp[gd]at e
 ·subst e;exact r.int
 ·subst e;exact r.str
theorem vh(hu:X.A.units+1<cLine)(ha:JB X G o da)(hb:JB X G i db)(hs:AK i):JP X G (.Subscript o i pos) (d2 lb da db):=imp (xZ hu ha hb hs) fun σ H Q ⟨c,ow,ps,w,R,e,q⟩=>by
  obtain⟨x,e1,ea⟩:=am e
  clear e
  obtain⟨y,e2,e⟩:=am ea
  clear ea
  refine⟨c,ow,ps,x,R,e1,fun v H1 s1 r1=>⟨c,ow,ps,y,R.grow s1,e2,fun u H2 s2 r2=> ?_⟩⟩
  cases x
  case dic ks xs =>
   have e:(match gd y with|some k=>(match bL ks xs k with|some w=>Rx.ok w|none=> .bad)|none=> .bad)= .ok w:=e
   split at e
   · rename_i k hk
     split at e
     · rename_i w' hw
       cases e
       obtain⟨a,vs,ep,rfl,hH,l,rs⟩:=(r1.same s2).dic
       obtain⟨v',hv,rv⟩:=(mh (k:=k) (ks:=ks) rs).1 _ hw
       refine⟨a,v',rfl,?_,q v' H2 (s1.trans s2) rv⟩
       rw[ES r2 hk,<-hv,<-mf]
       exact lR.k hH
     · cases e
   · cases e
  all_goals cases e
noncomputable def cU(da db dd:DP):DP:=fun ps=>(da ps).bind fun x=>(db ps).bind fun y=>(dd ps).bind fun z=>match x,gd y with
 |.dic ks xs,some k=>if ks.length=xs.length then .ok ((bL ks xs k).getD z) else .bad
 |_,_=> .bad
theorem Bc{K:Fg}{H:Hp}{A:Av}{k:Key}{ks:List Key}{ws:List PV}{vs:List V}{w0:PV}{v0:V}(rs:aC K G H A ws vs)(r0:dB K G H A w0 v0):dB K G H A ((bL ks ws k).getD w0) ((hV (ks.zip vs) k).getD v0):=by
 rw[mf]
 have h:=mh (k:=k) (ks:=ks) rs
 cases e:bL ks ws k with
 |none =>
  have:bL ks vs k=none:=by
   have:=h.2
   rw[e]at this
   cases q:bL ks vs k with
   |none=>rfl
   |some z=>rw[q]at this;cases this
  rw[this];exact r0
 |some w =>
  obtain⟨v,hv,r⟩:=h.1 w e
  rw[hv];exact r
theorem ip(hu:X.A.units+1<cLine)(ha:JB X G o da)(hb:JB X G e db)(hd:JP X G f dd)(m:M2 X o "get" apos e f cpos):JP X G (.Call (.Attribute o "get" apos) [e,f] [] cpos) (cU da db dd):=imp (uD hu ha hb hd m) fun σ H Q ⟨c,ow,ps,w,R,e,q⟩=>by
 obtain⟨x,e1,ea⟩:=am e
 clear e
 obtain⟨y,e2,e⟩:=am ea
 clear ea
 obtain⟨z,e3,ez⟩:=am e
 clear e
 refine⟨c,ow,ps,x,R,e1,fun v H1 s1 r1=> ?_⟩
 split at ez
 ·rename_i ks xs k hk
  split at ez
  ·cases ez
   obtain⟨a,vs,ep,rfl,hH,l,rs⟩:=r1.dic
   refine⟨a,rfl,.inl ⟨_,_,.inl hH⟩,c,ow,ps,y,R.grow s1,e2,fun u H2 s2 r2=>⟨c,ow,ps,z,(R.grow s1).grow s2,e3,fun t H3 s3 r3=> ?_⟩⟩
   have s23:=s2.trans s3
   refine⟨hV (ks.zip vs) k,?_,q _ H3 (s1.trans s23) (Bc (rs.same s23) r3)⟩
   rw[ES r2 hk]
   exact lR.k (s23 _ _ hH)
  ·cases ez
 ·cases ez
noncomputable def jd(j:Nat)(dk dv:DP):DS:=fun ps=>(dv ps).st fun w=>(dk ps).st fun y=>match ps[j]?,y with
 |some (.own (.lst xs)),.int n=>(match oT xs.length n with|some m=> .nx (ps.set j (.own (.lst (xs.set m w))))|none=> .bad)
 |_,_=> .bad
theorem jY{ke:Expr}(j:Nat)(hk:JP X G ke dk)(he:JP X G value dv)(hN:X.N[j]? =some x:=by rfl)(hv:lF X.env.scope x:=by first|exact Or.inl rfl|exact Or.inr (Or.inl rfl)|exact Or.inr (Or.inr rfl))(hd:(x == .(L))=false:=by decide)
  (hcd:(x == .(Z))=false:=by decide) (ha:∀v,assign (.Subscript (.Name x p) ke tpos) X.env v=(do
   let ov <- holding [v] (eval (.Name x p) X.env)
   let iv <- holding [v,ov] (eval ke X.env)
   standAt tpos
   holding [v,ov,iv] (setItem ov iv v)
   release [v,ov,iv] []):=by intro _;rfl) (hs:swapsWith value (some (.Subscript (.Name x p) ke tpos)) pos.line X.env=pure false:=by rfl) :
  JS X G (.Assign [.Subscript (.Name x p) ke tpos] value pos) (jd j dk dv) :=
 fb (u5 he (Af (bh hN hv hd hcd) hk um ha) hs) fun D σ H ⟨c,ow,ps,R,q⟩=>by
  obtain⟨w,e1,q⟩:=bi q
  obtain⟨y,e2,q⟩:=bi q
  split at q
  ·rename_i xs n hx
   split at q
   ·rename_i m hm
    refine⟨c,ow,ps,w,R,e1,fun v H1 s1 r1=> ?_⟩
    obtain⟨p0,e3,e4,vs0,hH0,rs0⟩:=R.getO hx
    refine⟨_,e4,c,ow,ps,_,R.grow s1,e2,fun u H2 s2 r2=> ?_⟩
    have s12:=s1.trans s2
    have R2:=R.grow s12
    have hH:H2 p0=some (.lst vs0):=s12 _ _ hH0
    have rs:=rs0.same s12
    have mD:Mt (HO.lst vs0):=And.intro (fun _ z=>by cases z) (fun _ _ z=>by cases z)
    have k0:Kp X.K G H2 (av c ow) (upd H2 p0 (.lst (vs0.set m v))) (av c ow):=Kp.own (.inr ⟨j,e3⟩) hH mD
    have:=R2.chg (y:= .lst (xs.set m w)) (u:= .lst (vs0.set m v)) hx e3 ⟨_,ax,k0.reps (rs.set m (r1.same s2))⟩
    exact⟨p0,vs0,n,m,rfl,r2,hH,by rw[<-rs.len];exact hm,q _ _ _ this.1 ((Kp.of_same s12).trans this.2)⟩
   ·exact q.elim
  ·exact q.elim
end
end DN
end
noncomputable section
namespace L2
open PySem PySem.Spec PyProof.Rows
theorem aA.turned2{X:Cx}{pins:List (Addr×Obj)}{σ :L2.St}{H:Hp}{s:Shared}{h':Heap}{t':Nat}{it e p:Addr}{w:HO}(I:aA X pins σ H s)(k:∀b o,b≠it->b≠e->s.heap.get? b=some o->h'.get? b=some o)(f:iH X pins H it)(g:iH X pins H e)
  (hp:s.heap.objs.size<=p) (new:bJ X.prog X.w (upd H p w) h' p w):aA X pins σ (upd H p w) { s with heap:=h',toks:=t' }:=by
 obtain⟨f0,f1,f2,f3,f4,f5⟩:=f
 obtain⟨g0,g1,g2,g3,g4,g5⟩:=g
 have hn:H p=none:=I.hok.fresh hp
 have nit:∀b u,H b=some u->b≠it:=fun b u q z=>by rw[z,f0]at q;cases q
 have nie:∀b u,H b=some u->b≠e:=fun b u q z=>by rw[z,g0]at q;cases q
 have old:∀b o,s.heap.get? b=some o->b≠p:=fun b o q=>Nat.ne_of_lt (Nat.lt_of_lt_of_le (Heap.lt_size q) hp)
 refine I.step (g':=s.gens) (d':=s.drawn) (ch:=[it,e]) (fun b hb=> ?_) (fun b o _ _ hc q _=>k b o (fun z=>hc (by simp[z])) (fun z=>hc (by simp[z])) q) (fun b o _ _ hc q _=>⟨o.slots,k b o (fun z=>hc (by simp[z])) (fun z=>hc (by simp[z])) q⟩) (fun b o _ q n=>by rw[aw (old b o q)];exact n)
  (fun b o hc q=>⟨o,k b o (fun z=>hc (by simp[z])) (fun z=>hc (by simp[z])) q⟩) (fun b xs q=>by rw[aw (aL q hn)];exact q) (fun b o u q=>by rw[aw (aL q hn)];exact q) (fun b ps q=>by rw[aw (aL q hn)];exact q) (fun m hm=> ?_) (fun b u q=> ?_) I.bare
 ·have q:b=it\/b=e:=by simpa using hb
  rcases q with rfl|rfl
  ·exact⟨f3,f1,f4,f5⟩
  ·exact⟨g3,g1,g4,g5⟩
 ·obtain⟨o,es,ep,ho,r⟩:=hm
  exact⟨o,es,ep,k _ o (Ne.symm f1) (Ne.symm g1) ho,r⟩
 ·by_cases hb:b=p
  ·subst hb
   rw[ax]at q
   cases q
   exact new
  ·rw[aw hb]at q
   refine(I.hok b u q).stay (fun c v hc r=>k c v ?_ ?_ r) (fun c r=>by rw[aw (aL r hn)];exact r) (fun c xs r=>by rw[aw (aL r hn)];exact r) fun c o u r=>by rw[aw (aL r hn)];exact r
   ·rcases hc with z|z
    ·rw[z];exact nit b u q
    ·exact nit c _ z
   ·rcases hc with z|z
    ·rw[z];exact nie b u q
    ·exact nie c _ z
end L2
namespace DN
open PySem PySem.Spec PyProof.Rows L2
noncomputable section
variable{X:Cx}{G:Pg}{e a b o tg:Expr}{es:List Expr}{da db:DP}{d:DA}{dm:DM}{ds du:DS}{pos p apos cpos:Pos}{x m:Str}{k i:Nat}{ms:List Bool}
noncomputable def gf:Nat->List PV->List PV
 |_,[]=>[]
 |k,w::ws=> .tup [.int (k:Int),w]::gf (k+1) ws
noncomputable def vi(d:DP):DA:=fun ps=>(d ps).bind fun x=>match x with | .lst xs=> .ok (gf 0 xs)|_=> .bad
def ET(d:DP)(g:DG)(body:DS):DS:=sFor (vi d) g body
noncomputable def vj(i:Nat)(d:DA):DM:=fun ps=>match ps[i]? with
 |some (.own (.lst xs))=>(d ps).bind fun ys=>if xs.length+ys.length<=sizeLine then .ok (.non,ps.set i (.own (.lst (xs++ys)))) else .bad
 |_=> .bad
theorem EU(i:Nat)(he:JN X G e d)(hline:(apos.endLine == cpos.line)=true:=by rfl)(hN:X.N[i]? =some x:=by rfl)(hv:lF X.env.scope x:=by first|exact Or.inl rfl|exact Or.inr (Or.inl rfl)|exact Or.inr (Or.inr rfl))(hd:(x == .(L))=false:=by decide)
  (hcd:(x == .(Z))=false:=by decide) (hst:starEach [e] X.env=.(S)::starEach [] X.env:=by rfl) (hbase:attributeBase (.Name x pos) "extend" X.env (eval (.Name x pos) X.env)=eval (.Name x pos) X.env:=by rfl)
  (hpl:(backTo cpos (starEach ([]:List Expr) X.env)).any (·.1)=false:=by rfl)
  (hfew:.(C)=true:=by rfl) :
  JM X G (.Call (.Attribute (.Name x pos) "extend" apos) [e] [] cpos) (vj i d) :=
 imp (nj PySem.F.plainAttrs_list PySem.F.slot_list_extend PySem.F.type_list_extend rM (bh hN hv hd hcd) (dg he fB hst) hbase hfew hline hst hpl) fun σ H Q ⟨c,ow,ps,w,ps',R,e,q⟩=>by
  unfold vj at e
  split at e
  ·rename_i xs hx
   obtain⟨ys,e1,e⟩:=am e
   split at e
   ·rename_i hl
    cases e
    obtain⟨p0,e2,e3,vs,hH,rs⟩:=R.getO hx
    refine⟨.ref p0,e3,.inl ⟨rfl,_,eI.of hH⟩,c,ow,ps,ys,R,e1,fun p us H1 s1 hp hu ru=> ?_⟩
    have R1:=R.grow s1
    have hne:p≠p0:=fun z=>by rw[z,hH]at hp;cases hp
    have hH1:=s1 _ _ hH
    have mD:Mt (HO.lst vs):=And.intro (fun _ z=>by cases z) (fun _ _ z=>by cases z)
    have k0:Kp X.K G H1 (av c ow) (upd H1 p0 (.lst (vs++us))) (av c ow):=Kp.own (.inr ⟨i,e2⟩) hH1 mD
    have ru':aC X.K G H1 (av c ow) ys us:=(Kp.weak fun a z=>Or.inl z).reps ru
    have:=R1.chg (y:= .lst (xs++ys)) (u:= .lst (vs++us)) hx e2 ⟨_,ax,k0.reps ((rs.same s1).app ru')⟩
    exact⟨p0,p,vs,us,rfl,rfl,hH1,hu,by rw[<-rs.len,<-ru.len];exact hl,q .non _ ow this.1 ((Kp.of_same s1).trans this.2) rfl⟩
   ·cases e
  ·cases e
noncomputable def I0(i:Nat):DM:=fun ps=>match ps[i]? with
 |some (.own (.lst _))=> .ok (.non,ps.set i (.own (.lst [])))
 |_=> .bad
theorem aC.reverse{K:Fg}{H:Hp}{A:Av}:∀{ws:List PV} {vs:List V},aC K G H A ws vs->aC K G H A ws.reverse vs.reverse
 |[],vs,h=>by have h:vs=[]:=h;subst h;rfl
 |w::ws,vs,h=>by
  obtain⟨v,r,rfl,h1,h2⟩:=h
  rw[List.reverse_cons,List.reverse_cons]
  exact(aC.reverse h2).snoc h1
noncomputable def pq(i:Nat):DM:=fun ps=>match ps[i]? with
 |some (.own (.lst xs))=> .ok (.non,ps.set i (.own (.lst xs.reverse)))
 |_=> .bad
theorem zD(i:Nat)(hline:(apos.endLine == cpos.line)=true:=by rfl)(hN:X.N[i]? =some x:=by rfl)(hv:lF X.env.scope x:=by first|exact Or.inl rfl|exact Or.inr (Or.inl rfl)|exact Or.inr (Or.inr rfl))(hd:(x == .(L))=false:=by decide)
  (hcd:(x == .(Z))=false:=by decide) (hbase:attributeBase (.Name x pos) "reverse" X.env (eval (.Name x pos) X.env)=eval (.Name x pos) X.env:=by rfl):JM X G (.Call (.Attribute (.Name x pos) "reverse" apos) [] [] cpos) (pq i) :=
 imp (uq PySem.F.plainAttrs_list PySem.F.slot_list_reverse PySem.F.type_list_reverse oW (bh hN hv hd hcd) hbase hline) fun σ H Q ⟨c,ow,ps,w,ps',R,e,q⟩=>by
  unfold pq at e
  split at e
  ·rename_i xs hx
   cases e
   obtain⟨p,e1,e2,vs,hH,rs⟩:=R.getO hx
   have mD:Mt (HO.lst vs):=And.intro (fun _ z=>by cases z) (fun _ _ z=>by cases z)
   have k0:Kp X.K G H (av c ow) (upd H p (.lst vs.reverse)) (av c ow):=Kp.own (.inr ⟨i,e1⟩) hH mD
   have:=R.chg (y:= .lst xs.reverse) (u:= .lst vs.reverse) hx e1 ⟨_,ax,k0.reps rs.reverse⟩
   exact⟨.ref p,e2,.inl ⟨rfl,_,eI.of hH⟩,p,vs,rfl,rfl,hH,q .non _ ow this.1 this.2 rfl⟩
  ·cases e
noncomputable def EV(d:DP)(dl dh:aX->Rx (Option Int)):DP:=fun ps=>(d ps).bind fun x=>(dl ps).bind fun lo=>(dh ps).bind fun hi=>match x with
 |.tup xs=>if HT.sIx xs.length 0 lo=0/\HT.sIx xs.length xs.length hi=xs.length then .bad else .ok (.tup (cutP xs lo hi))
 |_=> .bad
noncomputable def EW:PV->PV->Rx PV
 |.tup xs,.tup ys=>if xs≠[]/\xs.length+ys.length<=sizeLine then .ok (.tup (xs++ys)) else .bad
 |_,_=> .bad
noncomputable def yB(d:DA)(b:DP):DA:=fun ps=>(d ps).bind fun xs=>(b ps).bind fun y=>match y with
 |.int k=>if 0<=k/\k<2 ^ 62/\xs.length*k.toNat<=sizeLine then .ok (List.replicate k.toNat xs).flatten else .bad
 |_=> .bad
theorem aC.rep{K:Fg}{H:Hp}{A:Av}{ws:List PV}{vs:List V}(h:aC K G H A ws vs):∀n:Nat,aC K G H A (List.replicate n ws).flatten (List.replicate n vs).flatten
 |0=>rfl
 |n+1=>by
  rw[List.replicate_succ,List.flatten_cons,List.replicate_succ,List.flatten_cons]
  exact h.app (aC.rep h n)
theorem zE(ha:JN X G a d)(hb:JP X G b db):JN X G (.BinOp a .Mult b pos) (yB d db):=imp (ud AH ha hb) fun σ H Q ⟨c,ow,ps,ws,R,e,q⟩=>by
 obtain⟨xs,e1,e⟩:=am e
 obtain⟨y,e2,e⟩:=am e
 refine⟨c,ow,ps,xs,R,e1,fun p0 vs H1 s1 hp0 hv rs=>⟨c,ow,ps,y,R.grow s1,e2,fun u H2 s2 r2=> ?_⟩⟩
 split at e
 ·rename_i k
  split at e
  ·rename_i hk
   cases e
   obtain rfl:u=V.int k:=r2
   refine⟨p0,k,vs,rfl,rfl,s2 _ _ hv,by omega,by omega,by rw[<-rs.len];exact hk.2.2,fun p hp=> ?_⟩
   have sp:=bx hp (.lst (List.replicate k.toNat vs).flatten)
   have r0:aC X.K G H2 (av c ow) xs vs:=((Kp.weak fun a z=>Or.inl z).reps rs).same s2
   exact q p _ _ ((s1.trans s2).trans sp) ((s1.trans s2).free hp) ax ((Kp.take hp sp fun a z=>z.symm).reps (r0.rep _))
  ·cases e
 ·cases e
noncomputable def Bd(g:List PV->Rx PV)(d:DA):DA:=fun ps=>(d ps).bind fun ws=>(g ws).bind fun w=>match w with | .lst xs=> .ok xs|_=> .bad
variable(ps:aX)
@[simp]theorem EX:vj i d ps=match ps[i]? with
 |some (.own (.lst xs))=>(d ps).bind fun ys=>if xs.length+ys.length<=sizeLine then .ok (.non,ps.set i (.own (.lst (xs++ys)))) else .bad
 |_=> .bad:=rfl
@[simp]theorem Km:I0 i ps=match ps[i]? with
 |some (.own (.lst _))=> .ok (.non,ps.set i (.own (.lst [])))
 |_=> .bad:=rfl
@[simp]theorem Kn:pq i ps=match ps[i]? with
 |some (.own (.lst xs))=> .ok (.non,ps.set i (.own (.lst xs.reverse)))
 |_=> .bad:=rfl
@[simp]theorem Ia(g:DG):ET da g ds ps=(vi da ps).st fun ws=>bS g ds ws ps:=rfl
@[simp]theorem Ib:vi da ps=(da ps).bind fun x=>match x with | .lst xs=> .ok (gf 0 xs)|_=> .bad:=rfl
@[simp]theorem Ic(dl dh:aX->Rx (Option Int)):EV da dl dh ps=(da ps).bind fun x=>(dl ps).bind fun lo=>(dh ps).bind fun hi=>match x with
 |.tup xs=>if HT.sIx xs.length 0 lo=0/\HT.sIx xs.length xs.length hi=xs.length then .bad else .ok (.tup (cutP xs lo hi))
 |_=> .bad:=rfl
@[simp]theorem Id(xs ys:List PV):EW (.tup xs) (.tup ys)=if xs≠[]/\xs.length+ys.length<=sizeLine then .ok (.tup (xs++ys)) else .bad:=rfl
@[simp]theorem Ko:yB d db ps=(d ps).bind fun xs=>(db ps).bind fun y=>match y with
 |.int k=>if 0<=k/\k<2 ^ 62/\xs.length*k.toNat<=sizeLine then .ok (List.replicate k.toNat xs).flatten else .bad
 |_=> .bad:=rfl
@[simp]theorem Gr(g:List PV->Rx PV):Bd g d ps=(d ps).bind fun ws=>(g ws).bind fun w=>match w with | .lst xs=> .ok xs|_=> .bad:=rfl
end
end DN
end
noncomputable section
namespace L2
open PySem PySem.Spec PyProof.Rows
noncomputable section
variable{X:Cx}{pins:List (Addr×Obj)}{σ :St}{H:Hp}{s s1:Shared}{scope:Scope}{own:List Str}{caps:List (Str×Nat)}{fp:List Addr}
def Be(own:List Str)(caps:List (Str×Nat))(wi:TI)(g:TG)(tc:TT)(te:TE)(i:Nat):TS:=fun D σ H=>wi σ H (uF own caps g tc te σ fun v H'=>D.nx (σ.set i (some v)) H')
theorem qv{elt tg iter:Expr}{ifs:List Expr}{pos spos px:Pos}{wi:TI}{g:TG}{tc:TT}{te:TE}{j:Nat}{x:Str}(hN:X.N.Nodup)(hi':X.N[j]? =some x)(hx:mW X.env.scope x)(S:dX X scope own caps)(hc:X.calm=true)(hi:PI X tg iter wi)
  (hg:∀C s₀ H₀ fp,PG .(O) tg g) (ht:∀C s₀ H₀ fp,E1 .(O) ifs tc) (he:∀C s₀ H₀ fp,PE .(O) elt te)
  (hsw:swapsWith (.ListComp elt [⟨tg,iter,ifs,0⟩] scope pos) (some (.Name x px)) spos.line X.env=pure true:=by rfl) (hs:∀x,foldedSetIterable iter X.env x=pure x:=by intro _;rfl)
  (hf:X.fn x=true\/X.env.scope.names.lookup x=some .local:=by first|exact .inl rfl|exact .inr rfl|assumption):PS X (.Assign [.Name x px] (.ListComp elt [⟨tg,iter,ifs,0⟩] scope pos) spos) (Be own caps wi g tc te j):=by
 intro pins s σ H D0 I h
 rw[exec_Assign_Name_used _ _ _ _ hsw]
 refine wpAny_bind (wpAny_standAt (wpAny_bind ?_))
 show wpAny _ X.A (do let _ <- comprehension (.ListComp elt [⟨tg,iter,ifs,0⟩] scope pos) scope X.env _ (newList []) false (eval iter X.env) (some (assign (.Name x px) X.env))) _ _ s
 have hfree:∀y∈scope.names,y.2= .free->∃c,X.env.cells.lookup y.1=some c:=fun y hy e=>I.ok.has _ (S.frees.mem y hy e)
 refine wpAny_bind (wpAny_mono (wpAny_comprehension_free (Q:=fun _ s'=>SP X pins D0 .next s') (use:=some (assign (.Name x px) X.env)) rfl hs (eS hfree) S.kind S.names (bC (hi pins s σ H _ I h) fun v s1 h1=>bC h1 fun itv s2 h2=> ?_))
  (fun _ s' hq=>wpAny_pure (wpAny_pure hq)) fun _ _ e=>e)
 obtain⟨it,fp,tn,J,H2,e,I2,T,st2,f2,hW⟩:=h2
 subst e
 -- the new list
 refine wpAny_newList ?_
 have hD:H2 s2.heap.objs.size=none:=I2.fresh
 have I3:=I2.lnew (its:=[]) (ys:=[]) (t':=s2.toks) .nil (Nat.zero_le _)
 have k3:∀b o,s2.heap.get? b=some o->(s2.heap.push { cls:= .type "list",data:= .seq ([]:List Value).toArray }).get? b=some o:=fun b o q=>Heap.get?_push_of_some _ q
 have st3:tn 0 (s2.heap.push { cls:= .type "list",data:= .seq ([]:List Value).toArray }):=T.keep _ _ _ st2 fun b _ o q=>k3 b o q
 have lt2:∀b∈fp,b<s2.heap.objs.size:=fun b hb=>let ⟨o,q,_⟩:=T.obj _ _ st2 b hb;Heap.lt_size q
 have neD:∀b∈fp,b≠s2.heap.objs.size:=fun b hb=>Nat.ne_of_lt (lt2 b hb)
 have f3:∀b∈fp,iH X pins (upd H2 s2.heap.objs.size (.lst [])) b:=fun b hb=>⟨by rw[aw (neD b hb)];exact(f2 b hb).1,(f2 b hb).2⟩
 obtain⟨W,⟨m0,w0⟩,turn⟩:=hW _ hD
 generalize eD:s2.heap.objs.size=D at *
 generalize eH:upd H2 D (.lst [])=H3 at *
 generalize eh:s2.heap.push { cls:= .type "list",data:= .seq ([]:List Value).toArray }=hp3 at *
 have I3':aA X pins σ H3 { s2 with heap:=hp3 }:=I3
 -- the block's frame
 refine wpAny_newFunctionEnv S.nocell (fun y hy=>by simp at hy) (fun h1 hns hsb=> ?_) S.kind
 have kb:∀b o,hp3.get? b=some o->h1.get? b=some o:=fun b o q=>hsb.extBut b o (Nat.ne_of_lt (Heap.lt_size q)) (Heap.get?_push_of_some _ q)
 have lt3:∀b∈fp,b<hp3.objs.size:=fun b hb=>let ⟨o,q,_⟩:=T.obj _ _ st3 b hb;Heap.lt_size q
 have IB:=aA.block (s:={ s2 with heap:=hp3 }) (h1:=h1) (tk:=s2.toks) I3' S f3 hns kb lt3
 have stB:tn 0 h1:=T.keep _ _ _ st3 fun b _ o q=>kb b o q
 have back:∀{σ':St} {H':Hp} {s':Shared} {h':Heap},aA .(H) [] σ' H' s'->Heap.SameBut hp3.objs.size s'.heap h'->aA X pins σ H' { s' with heap:=h' }:=fun {σ' H' s' h'} J hsm=>by
  have nC:∀b o,H' b=some o->b≠hp3.objs.size:=fun b o q z=>by
   have:=J.free
   rw[z]at q
   have q2:H' hp3.objs.size=none:=this
   rw[q]at q2;cases q2
  have hok:gz X.prog X.w H' h':=fun b o q=>(J.hok b o q).stay (fun c v hc z=>hsm.extBut c v (by
   rcases hc with hc|hc
   ·rw[hc];exact nC b o q
   ·exact nC c _ hc) z) (fun _ z=>z) (fun _ _ z=>z) fun _ _ _ z=>z
  have nb:∀b o,hp3.get? b=some o->b≠hp3.objs.size:=fun b o q=>Nat.ne_of_lt (Heap.lt_size q)
  have un:Un (frs X.stack) fp H3 H' hp3 h':=⟨fun b o q n hb hx=>hsm.extBut b o (nb b o q) (J.base.keep b o q n hb hx),fun b o q n hb hx=>by
    obtain⟨sl,z⟩:=J.base.slot b o q n hb hx
    exact⟨sl,hsm.extBut b _ (nb b o q) z⟩,J.base.free,fun b o q hx=>by
    obtain⟨o',z⟩:=J.base.there b o q hx
    exact⟨o',hsm.extBut b _ (nb b o q) z⟩,J.base.tups,J.base.frzs,J.base.tbls⟩
  have os:=J.os
  have bare:=J.bare
  obtain⟨hh,g,d,t,os'⟩:=s'
  obtain rfl:os'=s2.os:=os
  show aA X pins σ H' { ({ s2 with heap:=hp3 }:Shared)with heap:=h',gens:=g,drawn:=d,toks:=t }
  exact I3'.call (h':=h') (g':=g) (d':=d) (t':=t) (ch:=fp) un hok bare fun b hb=>⟨(f3 b hb).2.2.2.1,(f3 b hb).2.1,(f3 b hb).2.2.2.2.1,(f3 b hb).2.2.2.2.2⟩
 have statB:∀{H':Hp},(∀b∈fp,H' b=none)->∀b∈fp,iH .(H) [] H' b:=fun hn b hb =>
  ⟨hn b hb,Nat.ne_of_lt (lt3 b hb),fun z=>(IB.ok.exfs b hb) z,.inl hb,(IB.ok.exf b hb).2,fun p hp=>absurd (show p∈([]:List (Addr×Obj)) from hp) (by simp)⟩
 have loop:∀s₃ :Shared,s₃ ={ s2 with heap:=h1,toks:=s2.toks }->codeAny .(E) X.A (.compLoop (.ListComp elt [⟨tg,iter,ifs,0⟩] scope pos) 0 (.ref it) (.ref D) (compEnvC scope (clos X.env scope.names []) hp3.objs.size X.env))
   (compPost .(E) X.A X.xe (some (assign (.Name x px) X.env)) (fun _ s'=>SP X pins D0 .next s') (.ref D) hp3.objs.size) s₃ :=by
  rintro s₃ rfl
  refine ia (fun n s'=>∃i σ' H',aA .(H) [] σ' H' s'/\tn i s'.heap/\(∀b∈fp,H' b=none)/\W i n σ' H') ?_ m0 ⟨0,lV own caps σ,H3,IB,stB,fun b hb=>(f3 b hb).1,w0⟩
  rintro n s3 ⟨i, σ3,H4,I4,st4,fr4,w4⟩
  rcases turn i n σ3 H4 w4 with⟨stop,qn⟩|⟨go,N,hN,step⟩
  ·refine bC (T.done .(H) rfl rfl rfl hc i [] s3 σ3 H4 _ I4 (statB fr4) st4 stop) fun r s4 ⟨hr,I5⟩=> ?_
   subst hr
   obtain⟨m,hn,_⟩:=I5.loc
   have I6:aA X pins σ H4 s4:=back I5 ⟨rfl,fun _ _=>rfl⟩
   have neL:hp3.objs.size≠X.env.locals:=fun z=>by
    have:=I3'.lt
    rw[<-z]at this
    exact Nat.lt_irrefl _ this
   have neC:∀y c,X.env.cells.lookup y=some c->c≠hp3.objs.size:=fun y c e z=>by
    obtain⟨v,q⟩:=I3'.cell y c e
    have:=q.lt
    rw[z]at this
    exact Nat.lt_irrefl _ this
   have neP:∀p∈X.pn++pins,p.1≠hp3.objs.size:=fun p hp z=>by
    have:=Heap.lt_size (I3'.pin p hp).1
    rw[z]at this
    exact Nat.lt_irrefl _ this
   refine wpAny_assign_Name (kM I6 hN hi' hx (v:= .ref D) rfl (fun s7 I7 ⟨a,sb,ha⟩=> ?_) hf)
   have na:hp3.objs.size≠a:=fun z=>by
    rcases ha with ha|ha
    ·exact neL (z.trans ha)
    ·exact neC _ _ ha z.symm
   refine⟨m,hn.sameBut sb na,fun h' hsm=>⟨_,H4,?_,qn⟩⟩
   exact I7.turned (t':=s7.toks) (it:=hp3.objs.size) (fun b o hb e=>hsm.extBut b o hb e) I5.free neL (.inr I3'.sz) neC neP
  ·refine bC (T.item .(H) rfl rfl rfl hc i [] s3 σ3 H4 (fun _ _=>False) I4 (statB fr4) st4 go) fun r s4 ⟨u,hr,h4⟩=> ?_
   subst hr
   refine bC h4 fun _ s5 ⟨x,H5,I5,r5,y5,st5,fr5⟩=> ?_
   have I5':=I5.pinned (statB fr5) (T.obj _ _ st5)
   refine bC (hg hp3.objs.size { s2 with heap:=hp3 } H3 fp _ s5 σ3 H5 x u _ I5' r5 (step x H5 y5)) fun _ s6 ⟨σ6,H6,I6,q6⟩=> ?_
   refine bC (ht hp3.objs.size { s2 with heap:=hp3 } H3 fp _ s6 σ6 H6 _ I6 q6) fun ok s7 ⟨H7,I7,q7⟩=> ?_
   have again:∀{σ7:St} {H7:Hp} {s7:Shared},aA .(H) ([]++iI fp s5.heap) σ7 H7 s7->N σ7 H7->∃m,m<n/\ ∃i σ' H',aA .(H) [] σ' H' s7/\tn i s7.heap/\(∀b∈fp,H' b=none)/\W i m σ' H':=fun {σ7 H7 s7} I7 n7=>by
    obtain⟨m',hm,w7⟩:=hN σ7 H7 n7
    refine⟨m',hm,i+1, σ7,H7,I7.unpinned,T.keep _ _ _ st5 fun b hb o e=>.(Ad).1,fun b hb=> ?_,w7⟩
    obtain⟨o,e,d⟩:=T.obj _ _ st5 b hb
    exact .(Ad).2.1
   cases ok with
   |false =>
    rw[if_neg (by decide)]
    rw[if_neg (by decide)]at q7
    exact again I7 q7
   |true =>
    rw[if_pos rfl]
    rw[if_pos rfl]at q7
    refine bC (he hp3.objs.size { s2 with heap:=hp3 } H3 fp _ s7 σ6 H7 _ I7 q7) fun y s8 ⟨yv,H8,I8,r8,ys,e8,z8,n8⟩=> ?_
    refine bC (iM (X:=gC X scope hp3.objs.size (cH own caps) { s2 with heap:=hp3 } H3 fp) _ s8 σ6 H8 (.ref D) [yv] (.ref D) [y] (fun _ H'=>N σ6 H') I8 rfl (.cons r8 .nil) ⟨D,ys,yv,rfl,rfl,e8,z8,n8⟩) fun _ s9 ⟨v9,H9,I9,_,q9⟩=> ?_
    exact again I9 q9
 exact codeAny_compStart_list (loop _ rfl) (T.self _ 0 _ _ _ stB (loop _ rfl))
end
end L2
namespace DN
open PySem PySem.Spec PyProof.Rows L2
noncomputable section
variable{X:Cx}{G:Pg}{e a b o tg:Expr}{es:List Expr}{da db:DP}{d:DA}{dm:DM}{ds du:DS}{pos p apos cpos:Pos}{x m:Str}{k i:Nat}{ms:List Bool}
theorem Bf{elt iter:Expr}{ifs:List Expr}{scope:Scope}{own:List Str}{caps:List (Str×Nat)}{di:DA}{g:DG}{dt:DT}{de:DP}(hN:X.N.Nodup)(hi':X.N[i]? =some x)(hx:mW X.env.scope x)(S:dX X scope own caps)(hc:X.calm=true)(hi:Em X G tg iter di)
  (hg:∀C s₀ H₀ fp,JG .(O) G tg g) (ht:∀C s₀ H₀ fp,En .(O) G ifs dt) (he:∀C s₀ H₀ fp,JP .(O) G elt de)
  (gk:∀(w:PV) (ps ps':aX),g w ps= .ok ps'->∀(i:Nat) (x:Ow),ps'[i]? =some (Sl.own x)->ps[i]? =some (Sl.own x))
  (hsw:swapsWith (.ListComp elt [⟨tg,iter,ifs,0⟩] scope cpos) (some (.Name x p)) pos.line X.env=pure true:=by rfl) (hs:∀x,foldedSetIterable iter X.env x=pure x:=by intro _;rfl)
  (hf:X.fn x=true\/X.env.scope.names.lookup x=some .local:=by first|exact .inl rfl|exact .inr rfl|assumption):JS X G (.Assign [.Name x p] (.ListComp elt [⟨tg,iter,ifs,0⟩] scope cpos) pos) (il i (dComp own caps di g dt de)) :=
 fb (qv (wi:=El X.K G di) (g:=tG X.K G g) (tc:=rY X.K G dt) (te:=xr X.K G de) hN hi' hx S hc hi hg ht he hsw hs hf) fun D σ H ⟨c,ow,ps,R,q⟩=>by
  obtain⟨ws,e1,q⟩:=bi q
  split at q
  ·rename_i hl
   exact lZ gk ⟨c,ow,ps,ws,R,e1,fun p vs H' s hp hv r=>q _ _ _ (R.setO hl s hp ⟨vs,hv,r⟩) (Kp.take hp s qi)⟩
  ·exact q.elim
theorem Bg{elt iter:Expr}{ifs:List Expr}{scope:Scope}{own:List Str}{caps:List (Str×Nat)}{di:DA}{g:DG}{dt:DT}{de:DP}(hN:X.N.Nodup)(hi':X.N[i]? =some x)(hx:mW X.env.scope x)(S:dX X scope own caps)(hc:X.calm=true)(hi:Em X G tg iter di)
  (hg:∀C s₀ H₀ fp,JG .(O) G tg g) (ht:∀C s₀ H₀ fp,En .(O) G ifs dt) (he:∀C s₀ H₀ fp,JP .(O) G elt de)
  (gk:∀(w:PV) (ps ps':aX),g w ps= .ok ps'->∀(i:Nat) (x:Ow),ps'[i]? =some (Sl.own x)->ps[i]? =some (Sl.own x))
  (hsw:swapsWith (.ListComp elt [⟨tg,iter,ifs,0⟩] scope cpos) (some (.Name x p)) pos.line X.env=pure true:=by rfl) (hs:∀x,foldedSetIterable iter X.env x=pure x:=by intro _;rfl)
  (hf:X.fn x=true\/X.env.scope.names.lookup x=some .local:=by first|exact .inl rfl|exact .inr rfl|assumption):JS X G (.Assign [.Name x p] (.ListComp elt [⟨tg,iter,ifs,0⟩] scope cpos) pos) (aS i (aG (dComp own caps di g dt de))) :=
 fb (qv (wi:=El X.K G di) (g:=tG X.K G g) (tc:=rY X.K G dt) (te:=xr X.K G de) hN hi' hx S hc hi hg ht he hsw hs hf) fun D σ H ⟨c,ow,ps,R,q⟩=>by
  obtain⟨w,e0,q⟩:=bi q
  obtain⟨ws,e1,e2⟩:=am e0
  cases e2
  exact lZ gk ⟨c,ow,ps,ws,R,e1,fun p vs H' s hp hv r=>q _ _ _ ((R.grow s).setV ⟨p,vs,rfl,.inl ⟨hv,fun z=>R.used p z hp⟩,(Kp.weak fun a z=>Or.inl z).reps r⟩) ((Kp.of_same s).trans (Kp.weak g7))⟩
theorem eG{α :Type}{dt:DT}{de:DP}{ps0:aX}(emb: α ->PV)(q: α ->Bool)(f: α ->PV):∀(us:List α) (s:Sl),(∀u,u∈us->dt (.v (emb u)::ps0)= .ok (q u)/\(q u=true->de (.v (emb u)::ps0)= .ok (f u)))->jO (aD 0) dt de (us.map emb) (s::ps0)= .ok ((us.filter q).map f)
 |[],s,_=>rfl
 |u::us,s,h=>by
  obtain⟨h1,h2⟩:=h u List.mem_cons_self
  have ih:=eG emb q f us (.v (emb u)) fun w' hw=>h w' (List.mem_cons_of_mem _ hw)
  have e0:aD 0 (emb u) (s::ps0)= .ok (.v (emb u)::ps0):=rfl
  rw[List.map_cons,jO,e0,aq,h1,aq]
  cases hp:q u with
  |true=>rw[if_pos rfl,h2 hp,aq,ih,aq,List.filter_cons,if_pos hp];rfl
  |false=>rw[if_neg Bool.false_ne_true,ih,List.filter_cons,if_neg (by rw[hp];exact Bool.false_ne_true)]
theorem bE{α :Type}{de:DP}{ps0:aX}(emb f: α ->PV)(us:List α)(s:Sl)(h:∀u,u∈us->de (.v (emb u)::ps0)= .ok (f u)):jO (aD 0) bP de (us.map emb) (s::ps0)= .ok (us.map f):=by
 rw[eG emb (fun _=>true) f us s fun u hu=>⟨rfl,fun _=>h u hu⟩,List.filter_eq_self.mpr fun _ _=>rfl]
mutual
noncomputable def PV.data:PV->Bool
 |.obj _ _=>false
 |.dic _ _=>false
 |.clo _ _=>false
 |.tup xs=>vk xs
 |.lst xs=>vk xs
 |.dit _ _=>false
 |_=>true
noncomputable def vk:List PV->Bool
 |[]=>true
 |x::xs=>x.data && vk xs
end
end
end DN
end
noncomputable section
namespace DN
open PySem PySem.Spec PyProof.Rows L2
theorem nW{f:Str}{v:V}:∀{ns:List Str} {vs:List V},f∉ns->ns.length=vs.length->cC f v (ns.zip vs)=(ns++[f]).zip (vs++[v])
 |[],[],_,_=>rfl
 |[],_::_,_,h=>by simp at h
 |_::_,[],_,h=>by simp at h
 |n::ns,u::vs,h,l=>by
  have h1:n≠f:=fun z=>h (by rw[z];exact List.mem_cons_self)
  rw[List.zip_cons_cons]
  show(if n=f then _ else _)=_
  rw[if_neg h1,nW (fun z=>h (List.mem_cons_of_mem _ z)) (by simpa using l)]
  rfl
theorem pr{f:Str}:∀{ns:List Str} {vs:List V} {j:Nat} {v:V},ns.Nodup->ns[j]? =some f->vs[j]? =some v->(ns.zip vs).lookup f=some v
 |[],_,_,_,_,h,_=>by simp at h
 |_::_,[],_,_,_,_,h=>by simp at h
 |n::ns,u::vs,0,v,nd,h1,h2=>by
  simp at h1 h2
  subst h1;subst h2
  rw[List.zip_cons_cons,List.lookup_cons];simp
 |n::ns,u::vs,j+1,v,nd,h1,h2=>by
  have h1:ns[j]? =some f:=by simpa using h1
  have h2:vs[j]? =some v:=by simpa using h2
  have hne:f≠n:=fun z=>(List.nodup_cons.mp nd).1 (by rw[<-z];exact List.mem_of_getElem? h1)
  have hb:(f == n)=false:=by simpa using hne
  rw[List.zip_cons_cons,List.lookup_cons,hb]
  exact pr (List.nodup_cons.mp nd).2 h1 h2
noncomputable section
variable{X:Cx}{G:Pg}{e a b o tg:Expr}{es:List Expr}{da db:DP}{d:DA}{dm:DM}{ds du:DS}{pos p apos cpos:Pos}{x m:Str}{k i:Nat}{ms:List Bool}
noncomputable def nX(l:List (Nat×Nat))(k:Nat)(xs:List PV):Rx PV:=match l.lookup k with|some j=>(match xs[j]? with|some w=> .ok w|none=> .bad)|none=> .bad
noncomputable def nY(l:List (Nat×Nat))(i:Nat):DP:=fun ps=>match ps[i]? with
 |some (.ino (.obj k xs))=>nX l k xs
 |some (.own (.obj k xs))=>nX l k xs
 |some (.bor (.obj k xs))=>nX l k xs
 |some (.ini k xs)=>nX l k xs
 |some (.v (.obj k xs))=>nX l k xs
 |_=> .bad
theorem qw{l:List (Nat×Nat)}{k:Nat}{xs:List PV}{w:PV}(h:nX l k xs= .ok w):∃j,l.lookup k=some j/\xs[j]? =some w:=by
 unfold nX at h
 split at h
 ·rename_i j hj
  split at h
  ·rename_i w' hw;cases h;exact⟨j,hj,hw⟩
  ·cases h
 ·cases h
theorem vm{f:Str}{l:List (Nat×Nat)}(i:Nat)(ok:bQ X.K G f l)(hN:X.N[i]? =some x:=by rfl)(hv:lF X.env.scope x:=by first|exact Or.inl rfl|exact Or.inr (Or.inl rfl)|exact Or.inr (Or.inr rfl))(hd:(x == .(L))=false:=by decide)
  (hcd:(x == .(Z))=false:=by decide) (hb:attributeBase (.Name x p) f X.env (eval (.Name x p) X.env)=eval (.Name x p) X.env:=by rfl):JP X G (.Attribute (.Name x p) f pos) (nY l i) :=
 imp (uj (bh hN hv hd hcd) hb) fun σ H Q ⟨c,ow,ps,w,R,e,q⟩=>by
  have full:∀{k:Nat} {xs:List PV} {p:Addr} {dx:Addr} {vs:List V},nX l k xs= .ok w-> σ[i]? =some (some (.ref p))->H p=some (.ins (G.cA k) dx ((G.fN k).zip vs))->aC X.K G H (av c ow) xs vs->DC X.K (CZ i) f σ H Q:=fun {k xs p dx vs} h hσ hH rs=>by
   obtain⟨j,hj,hw⟩:=qw h
   obtain⟨c1,c2,c3,c4⟩:=ok.all k j hj
   obtain⟨v,hv,rv⟩:=rs.get hw
   exact⟨.ref p,hσ,p,_,dx,_,v,rfl,hH,c1,c2,pr c3 c4 hv,q v H (Same.refl H) rv⟩
  unfold nY at e
  split at e
  ·rename_i k xs hx
   obtain⟨o',eo,_,_,pp,e2,_,dx,vs,hH,hl,rs⟩:=R.get hx
   rw[e2]at eo
   exact full e eo hH rs
  ·rename_i k xs hx
   obtain⟨pp,e1,e2,dx,vs,hH,hl,rs⟩:=R.getO hx
   exact full e e2 hH rs
  ·rename_i k xs hx
   obtain⟨o',eo,_,v,e2,r⟩:=R.get hx
   rw[e2]at eo
   have rb:bU X.K G H (av c ow) (.obj k xs) v:=by
    rcases r with r|⟨y,pp,z1,z2,z3,_⟩
    ·exact .inl r
    ·exact .inr ⟨y,pp,z1,z2,z3⟩
   obtain⟨aa,dx,vs,rfl,hH,hl,rs⟩:=rb.obj
   exact full e eo hH rs
  ·rename_i k xs hx
   obtain⟨o',eo,_,_,pp,e2,_,dx,vs,hH,hl,rs⟩:=R.get hx
   rw[e2]at eo
   obtain⟨j,hj,hw⟩:=qw e
   obtain⟨c1,c2,c3,c4⟩:=ok.all k j hj
   obtain⟨v,hv,rv⟩:=rs.get hw
   have hlt:j<xs.length:=(List.getElem?_eq_some_iff.mp hw).1
   have c4':((G.fN k).take xs.length)[j]? =some f:=by rw[List.getElem?_take_of_lt hlt];exact c4
   exact⟨.ref pp,eo,pp,_,dx,_,v,rfl,hH,c1,c2,pr (c3.sublist (List.take_sublist _ _)) c4' hv,q v H (Same.refl H) rv⟩
  ·rename_i k xs hx
   obtain⟨v,ev,aa,dx,vs,rfl,hH,hl,na,rs⟩:=R.getV hx
   exact full e ev hH rs
  ·cases e
noncomputable def jZ(k j:Nat)(d:DP):DS:=fun ps=>match ps[(0:Nat)]? with
 |some (.ini k' xs)=>if k'=k/\xs.length=j then(d ps).st fun w=> .nx (ps.set 0 (.ini k (xs++[w]))) else .bad
 |_=> .bad
theorem je{f:Str}{j:Nat}(k:Nat)(cl:kN X.K (G.cA k))(na:bq X.K (G.cA k) f)(nd:(G.fN k).Nodup)(hf:(G.fN k)[j]? =some f)(hsm:(G.fN k).length<1000)(he:JP X G e da)(hN:X.N[0]? =some x:=by rfl)(hv:lF X.env.scope x:=by first|exact Or.inl rfl|exact Or.inr (Or.inl rfl)|exact Or.inr (Or.inr rfl))
  (hd:(x == .(L))=false:=by decide) (hcd:(x == .(Z))=false:=by decide) (hs:swapsWith e (some (.Attribute (.Name x p) f apos)) pos.line X.env=pure false:=by rfl) :
  JS X G (.Assign [.Attribute (.Name x p) f apos] e pos) (jZ k j da):=fb (dZ (bh hN hv hd hcd) he hs) fun D σ H ⟨c,ow,ps,R,q⟩=>by
 unfold jZ at q
 split at q
 ·rename_i k' xs hx
  split at q
  ·rename_i hk
   obtain⟨rfl,rfl⟩:=hk
   obtain⟨w,e1,q⟩:=bi q
   refine⟨c,ow,ps,w,R,e1,fun v H1 s1 r1=> ?_⟩
   have R1:=R.grow s1
   obtain⟨o',eo,z1,z2,pp,e2,el,dx,vs,hH,hl,rs⟩:=R1.get hx
   rw[e2]at eo
   have hlt:xs.length<(G.fN k').length:=(List.getElem?_eq_some_iff.mp hf).1
   have hlen:((G.fN k').take xs.length).length=vs.length:=by rw[List.length_take,<-rs.len];omega
   have hfe:(G.fN k')[xs.length]=f:=by
    have:=List.getElem?_eq_getElem hlt
    rw[this]at hf
    exact Option.some.inj hf
   have htk:(G.fN k').take (xs.length+1)=(G.fN k').take xs.length++[f]:=by rw[List.take_succ_eq_append_getElem hlt,hfe]
   have hnot:f∉(G.fN k').take xs.length:=fun z=>by
    have nd':=nd.sublist (List.take_sublist (xs.length+1) (G.fN k'))
    rw[htk]at nd'
    exact(List.nodup_append.mp nd').2.2 f z f (by simp) rfl
   have hput:=nW (v:=v) hnot hlen
   refine⟨.ref pp,eo,pp,_,dx,_,rfl,hH,cl,na,?_,?_⟩
   ·rw[List.length_zip,hlen,Nat.min_self,<-rs.len];omega
   ·have mD:Mt (HO.ins (G.cA k') dx (((G.fN k').take xs.length).zip vs)):=And.intro (fun _ z=>by cases z) (fun _ _ z=>by cases z)
    have k0:Kp X.K G H1 (av c ow) (upd H1 pp (.ins (G.cA k') dx (cC f v (((G.fN k').take xs.length).zip vs)))) (av c ow):=Kp.own (.inl (R1.lent pp el).1) hH mD
    have:=R1.chgL (s':= .ini k' (xs++[w])) (u:= .ins (G.cA k') dx (cC f v (((G.fN k').take xs.length).zip vs))) hx el hH mD fun v' hv'=>by
     rw[eo]at hv'
     cases hv'
     refine⟨z1,rfl,pp,rfl,el,dx,vs++[v],?_,?_,k0.reps (rs.snoc r1)⟩
     ·rw[ax,hput,List.length_append,List.length_singleton,htk]
     ·rw[List.length_append,List.length_singleton];omega
    exact q _ _ ow this.1 ((Kp.of_same s1).trans this.2)
  ·exact q.elim
 ·exact q.elim
end
noncomputable def Ie(k:Nat)(ms:List Bool)(n:Nat)(ws:List PV):aX:= .ini k []::nT ms (n-1) ws
noncomputable def jp(k nf:Nat)(ms:List Bool)(n:Nat)(d:DS)(ws:List PV):Rx PV:=if ws.length=ms.length then(match d (Ie k ms n ws) with
 |.nx ps=>(match ps[(0:Nat)]? with|some (.ini k' fs)=>if k'=k/\fs.length=nf then .ok (.obj k fs) else .bad|_=> .bad)
 |.exc c=> .exc c
 |_=> .bad) else .bad
def vn(K:Fg)(G:Pg)(k:Nat)(ms:List Bool)(g:List PV->Rx PV):Sp:=fun vs H Q _=>∃(A:Av) (H1:Hp) (ws:List PV) (x dx:Addr) (us:List V) (fs:List PV),vs= .ref x::us/\H x=some (.ins (G.cA k) dx [])/\H1 x=none/\Same H1 H/\jm H1 A/\dP K G H1 A ms ws us/\g ws= .ok (.obj k fs) /\
 ∀H' dx' vs',Same H1 H'->H' x=some (.ins (G.cA k) dx' ((G.fN k).zip vs'))->(G.fN k).length=vs'.length->aC K G H' (fun a=>A a\/a=x) fs vs'->Q .non H'
theorem gO.keep{K:Fg}{G:Pg}{H H':Hp}{A A' B:Av}{ps:aX}{σ :L2.St}(R:gO K G B H A ps σ)(k:Kp K G H A H' A')(e:∀p,B p->H' p=H p):gO K G B H' A' ps σ :=by
 refine⟨R.len,fun i s o h1 h2=> ?_⟩
 have q:=R.slot i s o h1 h2
 cases s with
 |no=>exact True.intro
 |v w=>obtain⟨v,e,r⟩:=q;exact⟨v,e,k.rep r⟩
 |own x=>exact q.elim
 |ino x=>exact q.elim
 |ini k xs=>exact q.elim
 |dol ks xss=>exact q.elim
 |als d j=>exact q.elim
 |bor w =>
  obtain⟨v,e1,r⟩:=q
  refine⟨v,e1,?_⟩
  rcases r with r|⟨x,p,e1,e2,r,n⟩
  ·exact .inl (k.rep r)
  ·exact .inr ⟨x,p,e1,e2,r.keep k (e p n),n⟩
theorem gO.cons{K:Fg}{G:Pg}{H:Hp}{A B:Av}{ps:aX}{σ :L2.St}{s:Sl}{v:V}{x:Addr}(R:gO K G B H A ps σ)(u:jm H A)(ub:∀a,B a->H a≠none/\a≠x)(hx:A x)(hs:nB K G ⟨H,A,B,some x⟩ (ps.length+1) H (av ⟨H,A,B,some x⟩ mT) mT 0 s (some v)):bf K G ⟨H,A,B,some x⟩ H mT (s::ps) (some v::σ):=by
 refine⟨by simp[R.len],jL.of (Same.refl H),(fun p e=> ?_),u,(fun a z=>⟨(ub a z).1,fun e=>(ub a z).2 (Option.some.inj e).symm⟩),(fun i p e=>(nomatch e)),(fun i j p e=>(nomatch e)),(fun _ _ e=>(nomatch e)),fun i s' o e1 e2=> ?_⟩
 ·cases e;exact⟨hx,u x hx⟩
 ·cases i with
  |zero=>simp at e1 e2;subst e1;subst e2;exact hs
  |succ i =>
   have q:=R.slot i s' o (by simpa using e1) (by simpa using e2)
   have k:Kp K G H A H (av ⟨H,A,B,some x⟩ mT):=Kp.weak fun a z=>Ge a z
   cases s' with
   |no=>rfl
   |v w=>obtain⟨v,e,r⟩:=q;exact⟨rfl,v,e,k.rep r⟩
   |own x=>exact q.elim
   |ino x=>exact q.elim
   |ini k xs=>exact q.elim
   |dol ks xss=>exact q.elim
   |als d j=>exact q.elim
   |bor w =>
    obtain⟨v,e,r⟩:=q
    refine⟨rfl,v,e,?_⟩
    rcases r with r|⟨x,p,e1,e2,r,n⟩
    ·exact .inl (k.rep r)
    ·exact .inr ⟨x,p,e1,e2,r.keep k rfl,n⟩
theorem pw{N:List Str}{v:V}{us:List V}(h:0<N.length):L2.start N (v::us)=some v::L2.start N.tail us:=by
 unfold L2.start
 cases N with
 |nil=>simp at h
 |cons n N=>simp
theorem mi{P:Program}{w:World}{K:Fg}{mg:Str->Option Value}{base:Bs}{G:Pg}{x qual:Str}{st:Stmt}{f:Addr}{fd:FuncData}{N ps:List Str}{k c nf:Nat}{ms:List Bool}{d:DS}(F:fC K x qual st f fd)(S:ap N ps (al st))(hm:ms.length+1=ps.length)(hn:0<N.length)(hnf:(G.fN c).length=nf)
  (hb:∀(cdv:Value) (A:Around) (outer:List Env) (s:Shared) (H:Hp) (E:XK),bv k (A.deeper (envOfC qual (al st) s.heap.objs.size f cdv))->mU (iK fX P w K mg base N qual (al st) f cdv A outer s H E).nox G (bF st) d) :
  cY P w K mg base fX (k+1) f fd ps (vn K G c ms (jp c nf ms N.length d)):=by
 refine F.ok S (fun vs H Q E h=> ?_) (fun cdv A outer s H vs Q E hr h=> ?_)
 ·obtain⟨A,H1,ws,xa,dx,us,fs,rfl,_,_,_,_,r,_⟩:=h
  rw[List.length_cons,r.len.2,hm]
 ·obtain⟨A',H1,ws,xa,dx,us,fs,rfl,hx,hx1,sm,u,r,e,q⟩:=h
  refine⟨_,hb cdv A outer s H E hr,?_⟩
  have hlen:N.tail.length=N.length-1:=List.length_tail
  have F0:=m6 (N:=N.tail) r
  rw[hlen]at F0
  have nx:∀a,H1 a≠none->a≠xa:=fun a z y=>z (by rw[y];exact hx1)
  have kp:Kp K G H1 A' H (fun a=>A' a\/a=xa):=Kp.take hx1 sm fun a z=>z.symm
  have F1:gO K G (fun p=>H1 p≠none) H (fun a=>A' a\/a=xa) (nT ms (N.length-1) ws) (L2.start N.tail us):=F0.keep kp fun p hp=>by
   cases e1:H1 p with
   |none=>exact absurd e1 hp
   |some o=>exact sm _ _ e1
  have us':jm H (fun a=>A' a\/a=xa):=fun a z=>by
   rcases z with z|z
   ·cases e1:H1 a with
    |none=>exact absurd e1 (u a z)
    |some o=>rw[sm _ _ e1];simp
   ·rw[z,hx];simp
  have S0:=F1.cons (s:= .ini c []) (v:= .ref xa) (x:=xa) us' (fun a z=>⟨by
   cases e1:H1 a with
   |none=>exact absurd e1 z
   |some o=>rw[sm _ _ e1];simp,nx a z⟩) (.inr rfl) ⟨rfl,rfl,xa,rfl,rfl,dx,[],by rw[hx];rfl,Nat.zero_le _,rfl⟩
  rw[pw hn]
  refine⟨_,mT,Ie c ms N.length ws,S0,?_⟩
  unfold jp at e
  rw[if_pos r.len.1]at e
  cases ed:d (Ie c ms N.length ws) with
  |nx ps' =>
   rw[ed]at e
   have e:(match ps'[(0:Nat)]? with|some (.ini k' fs)=>if k'=c/\fs.length=nf then Rx.ok (PV.obj c fs) else .bad|_=> .bad)= .ok (.obj c fs):=e
   split at e
   ·rename_i k' fs' hp0
    split at e
    ·rename_i hk
     cases e
     obtain⟨rfl,hfl⟩:=hk
     intro σ' H' ow' R' _
     obtain⟨o',eo,z1,z2,pp,e2,el,dx',vs',hH,hl,rs⟩:=R'.get hp0
     cases el
     refine q H' dx' vs' (fun a o h=> ?_) ?_ ?_ ((Kp.weak fun a z=>Or.inl z).reps rs)
     ·exact R'.same a o (sm _ _ h) (fun z=>nx a (by rw[h];simp) (Option.some.inj z).symm)
     ·rw[hH,List.take_of_length_le (by rw[hfl,hnf];exact Nat.le_refl _)]
     ·rw[hnf,<-hfl,rs.len]
    ·cases e
   ·cases e
  |ret w2=>rw[ed]at e;cases e
  |retn xs=>rw[ed]at e;cases e
  |reti w x=>rw[ed]at e;cases e
  |brk _=>rw[ed]at e;cases e
  |cnt _=>rw[ed]at e;cases e
  |bad=>rw[ed]at e;cases e
  |exc _=>rw[ed]at e;cases e
structure sk(P:Program)(w:World)(K:Fg)(mg:Str->Option Value)(base:Bs)(G:Pg)(k:Nat)(x:Str)(c:Nat)(ms:List Bool)(g:List PV->Rx PV):Prop where
 glob:mg x=some (.ref (G.cA c))
 cl:kN K (G.cA c)
 ex:∃(f:Addr) (fd:FuncData) (ps:List Str),Mk K (G.cA c) f/\cY P w K mg base fX k f fd ps (vn K G c ms g)/\bw K fd ps []
noncomputable section
variable{X:Cx}{G:Pg}{e a b o tg:Expr}{es:List Expr}{da db:DP}{d:DA}{pos p:Pos}{x:Str}{k i c:Nat}{ms:List Bool}{g:List PV->Rx PV}
theorem yC{t:TA}(h:sk X.prog X.w X.K X.mg X.base G k x c ms g)(hr:bv (k+1) X.A)(hg:Gl X x)(ha:PA X (e::es) t)(hdb:(x == .(L))=false:=by decide)
  (he:starEach (e::es) X.env=.(S)::starEach es X.env:=by rfl) (hpl:.(V).any (·.1)=false:=by rfl):PE X .(Am) (zl (G.cA c) (vn X.K G c ms g) [] E0 t):=by
 obtain⟨f,fd,ps,M,F,hb⟩:=h.ex
 exact xN M F hr hg h.glob hb .nil kW ha hdb he hpl
theorem yD{H:Hp}{Q:VK}{cf:Fr}{ow:gD}{ps:aX}{σ :L2.St}{ws:List PV}{vs:List V}{fs:List PV}(R:bf X.K G cf H ow ps σ)(r:dP X.K G H (av cf ow) ms ws vs)(e:g ws= .ok (.obj c fs))
  (q:∀x dx us H',Same H H'->H x=none->H' x=some (.ins (G.cA c) dx ((G.fN c).zip us))->(G.fN c).length=us.length->aC X.K G H' (fun a=>av cf ow a\/a=x) fs us->Q (.ref x) H') :
  ∀x dx,H x=none->H dx=none->dx≠x->vn X.K G c ms g (.ref x::(vs++[])) (upd (upd H dx (.own x)) x (.ins (G.cA c) dx [])) (fun v H2=>v= .non/\Q (.ref x) H2) E0:=by
 intro x dx n1 n2 ne
 have sn:Same H (upd (upd H dx (.own x)) x (.ins (G.cA c) dx [])):=fun b o h=>by rw[aw (aL h n1),aw (aL h n2)];exact h
 exact⟨av cf ow,H,ws,x,dx,vs,fs,by rw[List.append_nil],ax,n1,sn,R.used,r,e,fun H' dx' vs' s h1 h2 h3=>⟨rfl,q x dx' vs' H' s n1 h1 h2 h3⟩⟩
theorem dS(h:sk X.prog X.w X.K X.mg X.base G k x c ms g)(hr:bv (k+1) X.A)(hg:Gl X x)(ha:JA X G ms (e::es) d)(hobj:∀ws w,g ws= .ok w->∃fs,w= .obj c fs)(hdb:(x == .(L))=false:=by decide)
  (he:starEach (e::es) X.env=.(S)::starEach es X.env:=by rfl) (hpl:.(V).any (·.1)=false:=by rfl):JP X G .(Am) (aj g d) :=
 imp (yC h hr hg ha hdb he hpl) fun σ H Q ⟨cf,ow,ps,w,R,e,q⟩=>by
  obtain⟨ws,e1,e2⟩:=am e
  obtain⟨fs,rfl⟩:=hobj ws w e2
  refine⟨cf,ow,ps,ws,R,e1,fun vs H' s r=> ?_⟩
  refine yD (R.grow s) r e2 fun xx dx us H2 s2 n1 h1 h2 h3=> ?_
  exact q _ H2 (s.trans s2) ⟨xx,dx,us,rfl,h1,h2,fun z=>(R.grow s).used xx z n1,(Kp.weak fun a z=>Or.inl z).reps h3⟩
theorem iq{k nf n:Nat}{ms:List Bool}{d:DS}{ws:List PV}{w:PV}(h:jp k nf ms n d ws= .ok w):∃fs,w= .obj k fs:=by
 unfold jp at h
 split at h
 ·split at h
  ·split at h
   ·split at h
    ·cases h;exact⟨_,rfl⟩
    ·cases h
   ·cases h
  ·cases h
  ·cases h
 ·cases h
theorem gr{P:Program}{w:World}{K:Fg}{mg:Str->Option Value}{base:Bs}{n:Nat}{f:Addr}{fd:FuncData}{ps:List Str}{g:List PV->Rx PV}(h:∀ws,g ws= .bad):cY P w K mg base fX n f fd ps (vn K G c ms g) :=
 qc fun vs H Q E ⟨A,H1,ws,x,dx,us,fs,_,_,_,_,_,_,e,_⟩=>by rw[h]at e;cases e
variable(ps:aX)
@[simp]theorem Kq(k j:Nat):jZ k j da ps=match ps[(0:Nat)]? with
 |some (.ini k' xs)=>if k'=k/\xs.length=j then(da ps).st fun w=> .nx (ps.set 0 (.ini k (xs++[w]))) else .bad
 |_=> .bad:=rfl
@[simp]theorem Ig(l:List (Nat×Nat))(i:Nat):nY l i ps=match ps[i]? with
 |some (.ino (.obj k xs))=>ba l (.obj k xs)
 |some (.own (.obj k xs))=>ba l (.obj k xs)
 |some (.bor (.obj k xs))=>ba l (.obj k xs)
 |some (.ini k xs)=>ba l (.obj k xs)
 |some (.v (.obj k xs))=>ba l (.obj k xs)
 |_=> .bad:=rfl
end
end DN
end
noncomputable section
namespace DN
open PySem PySem.Spec PyProof.Rows L2
noncomputable section
variable{K:Fg}{G:Pg}{H H':Hp}{A A':Av}{c:Fr}{ow:gD}{ps:aX}{σ :L2.St}
end
noncomputable section
variable{X:Cx}{G:Pg}{e a b o tg:Expr}{es:List Expr}{da db:DP}{d:DA}{dm:DM}{dma:p7}{ds du:DS}{dt:DT}{pos p apos cpos:Pos}{x m:Str}{k i:Nat}{ms:List Bool}
end
end DN
end
noncomputable section
namespace DN
open PySem PySem.Spec PyProof.Rows L2
noncomputable section
variable{X:Cx}{G:Pg}{e a b o tg:Expr}{es:List Expr}{da db:DP}{d:DA}{dm:DM}{dma:p7}{ds du:DS}{dt:DT}{pos p apos cpos:Pos}{x m:Str}{k i:Nat}{ms:List Bool}
abbrev py:=aX->Rx (Bool×aX)
def KY(K:Fg)(G:Pg)(d:py):TT:=fun σ H Q=>∃(c:Fr) (ow:gD) (ps:aX) (b:Bool) (ps':aX),bf K G c H ow ps σ /\d ps= .ok (b,ps')/\ ∀H' ow',bf K G c H' ow' ps' σ ->Kp K G H (av c ow) H' (av c ow')->Q b H'
abbrev Kr(X:Cx)(G:Pg)(e:Expr)(d:py):Prop:=PT X e (KY X.K G d)
noncomputable def KZ(d:DM):py:=fun ps=>(d ps).bind fun r=>match r.1 with | .bl b=> .ok (b,r.2)|_=> .bad
noncomputable def fW(d:DT):py:=fun ps=>(d ps).bind fun b=> .ok (b,ps)
theorem qx(h:JT X G e dt):Kr X G e (fW dt):=rZ h fun σ H Q ⟨c,ow,ps,b,ps',R,e,q⟩=>by
 obtain⟨b',e1,e2⟩:=am e
 cases e2
 exact⟨c,ow,ps,b,R,e1,fun H' s=>q H' ow (R.grow s) (Kp.of_same s)⟩
noncomputable def Ih(d:py):py:=fun ps=>(d ps).bind fun r=> .ok (!r.1,r.2)
noncomputable def L0(t u:py):py:=fun ps=>(t ps).bind fun r=>if r.1=true then .ok (true,r.2) else u r.2
noncomputable def Ii(t u:py):py:=fun ps=>(t ps).bind fun r=>if r.1=true then u r.2 else .ok (false,r.2)
noncomputable def Ij(t:py)(a b:DS):DS:=fun ps=>(t ps).st fun r=>if r.1=true then a r.2 else b r.2
noncomputable def cu(t:py)(body:DS):Nat->aX->Option Rs
 |0,_=>none
 |n+1,ps=>match t ps with
  |.ok (true,ps1)=>(match body ps1 with
   |.nx ps2=>cu t body n ps2
   |.cnt ps2=>cu t body n ps2
   |.brk ps2=>some (.nx ps2)
   |r=>some r)
  |.ok (false,ps1)=>some (.nx ps1)
  |.bad=>some .bad
  |.exc c=>some (.exc c)
def fL(t:py)(body:DS):DS:=fun ps=>(cu t body 100000 ps).getD .bad
theorem ir{ce:Expr}{body:List Stmt}{d1:py}(hp:PassesOwn .(E) X.A X.env X.xe)(hc:Kr X G ce d1)(hb:mU X G body ds):JS X G (.While ce body [] pos) (fL d1 ds):=fb (u6 hp hc hb) fun D σ H ⟨c,ow,ps,R,q⟩=>by
 unfold fL at q
 generalize (100000:Nat)=n at q
 cases h:cu d1 ds n ps with
 |none=>rw[h]at q;exact q.elim
 |some r =>
  rw[h]at q
  have q:dn X.K G c H (av c ow) D r:=q
  refine⟨fun m σ' H'=>∃ow' ps',bf X.K G c H' ow' ps' σ'/\cu d1 ds m ps'=some r/\dn X.K G c H' (av c ow') D r,⟨n,ow,ps,R,h,q⟩,?_⟩
  rintro m σ' H' ⟨ow',ps',R',h',q'⟩
  cases m with
  |zero=>cases h'
  |succ m =>
   rw[cu]at h'
   cases e:d1 ps' with
   |bad=>rw[e]at h';cases h';exact q'.elim
   |exc c=>rw[e]at h';cases h';exact q'.elim
   |ok r1 =>
    obtain⟨b,p1⟩:=r1
    rw[e]at h'
    refine⟨c,ow',ps',b,p1,R',e,fun H2 ow2 R2 k2=> ?_⟩
    cases b with
    |false =>
     cases h'
     exact lP (q' σ' H2 ow2 R2 k2)
    |true =>
     refine iteT ⟨_,fun _ _ h=>h,c,ow2,p1,R2,?_⟩
     have q2:=q'.mono k2
     cases eb:ds p1 with
     |nx ps2 =>
      have h':cu d1 ds m ps2=some r:=by simpa only[eb]using h'
      exact fun σ4 H4 ow4 R4 k4=>⟨m,Nat.lt_succ_self m,ow4,ps2,R4,h',q2.mono k4⟩
     |cnt ps2 =>
      have h':cu d1 ds m ps2=some r:=by simpa only[eb]using h'
      exact fun σ4 H4 ow4 R4 k4=>⟨m,Nat.lt_succ_self m,ow4,ps2,R4,h',q2.mono k4⟩
     |brk ps2=>simp only[eb]at h';cases h';exact q2
     |ret w=>simp only[eb]at h';cases h';exact q2
     |retn xs=>simp only[eb]at h';cases h';exact q2
     |reti w x=>simp only[eb]at h';cases h';exact q2
     |bad=>simp only[eb]at h';cases h';exact q2
     |exc c=>simp only[eb]at h';cases h';exact q2
noncomputable def Ik(c n:Nat)(d:p7):DM:=fun ps=>(d ps).bind fun r=>if r.1.length=n then .ok (.obj c r.1,r.2) else .bad
end
end DN
end
noncomputable section
namespace DN
open PySem PySem.Spec PyProof.Rows L2
noncomputable section
open PySem.StrLaws PySem.Builtin PySem.Builtin.Str
end
noncomputable section
variable{X:Cx}{G:Pg}{e a b o tg:Expr}{es:List Expr}{da db:DP}{d:DA}{pos p apos cpos:Pos}{x m:Str}{k i:Nat}{ms:List Bool}
end
noncomputable section
variable{P:Program}{w:World}{K:Fg}{mg:Str->Option Value}{base:Bs}{G:Pg}{n:Nat}{m:Str}{ms:List Bool}
end
end DN
end
noncomputable section
namespace DN
open PySem PySem.Spec PyProof.Rows L2
@[simp]theorem Il(xs:List PV):(Ow.lst xs).pv= .lst xs:=rfl
@[simp]theorem Gs(k:Nat)(xs:List PV):(Ow.obj k xs).pv= .obj k xs:=rfl
@[simp]theorem Im(ks:List Key)(xs:List PV):(Ow.dic ks xs).pv= .dic ks xs:=rfl
end DN
end
noncomputable section
namespace DN
open PySem PySem.Spec PyProof.Rows L2
def EY(K:Fg)(G:Pg)(np:Nat)(g:List PV->Rx PV):CJ:=fun vs cv H Q _=>∃A ws cw w,jm H A/\dP K G H A (List.replicate np false) ws vs/\aC K G H A cw cv/\g (ws++cw)= .ok w/\ ∀v H',Same H H'->dB K G H' A w v->Q v H'
noncomputable section
variable{P:Program}{w:World}{K:Fg}{mg:Str->Option Value}{base:Bs}{G:Pg}{H:Hp}{A:Av}
theorem dP.more{cw:List PV}{cv:List V}:∀{n:Nat} {ws:List PV} {vs:List V},dP K G H A (List.replicate n false) ws vs->aC K G H A cw cv->dP K G H A (List.replicate (n+cw.length) false) (ws++cw) (vs++cv)
 |0,ws,vs,h,r=>by
  obtain⟨rfl,rfl⟩:=h
  rw[Nat.zero_add]
  exact go r
 |n+1,ws,vs,h,r=>by
  obtain⟨w,wr,v,vr,rfl,rfl,r1,rr⟩:=h
  rw[Nat.add_right_comm]
  exact⟨w,wr++cw,v,vr++cv,rfl,rfl,r1,dP.more rr r⟩
where go:∀{cw:List PV} {cv:List V},aC K G H A cw cv->dP K G H A (List.replicate cw.length false) cw cv
 |[],cv,h=>⟨rfl,h⟩
 |w::cw,cv,h=>by
  obtain⟨v,r,rfl,r1,r2⟩:=h
  exact⟨w,cw,v,r,rfl,rfl,by rw[if_neg Bool.false_ne_true];exact r1,go r2⟩
theorem Bh{n:ju}{body:List Stmt}{N ps:List Str}{k np:Nat}{d:DS}(hb:n.body= .stmts body)(S:lY N ps n.free n.scope)(hm:np=ps.length)
  (hbind:∀(nm qual:Str) (cl:List (Str×Addr)) (doc pm cdv ct:Value) (us:List Value),us.length=ps.length->bindArgs (E3 n nm qual cl doc pm cdv ct) ⟨us,[]⟩=pure (ps.zip us))
  (hj:∀(qual:Str) (cd:Value) (cl:List (Str×Addr)) (f:Addr) (A:Around) (outer:List Env) (s:Shared) (H:Hp) (E:XK),bv k (A.deeper (PySem.W.envX qual n.scope s.heap.objs.size f cd cl))->mU (E4 fX P w K mg base N qual n.scope f cd cl A outer s H E).nox G body d) :
  p5 P w K mg base fX (k+1) n (EY K G np (aH (List.replicate (np+n.free.length) false) N.length d)):=by
 refine AS hb S (fun vs cv H Q E ⟨A,ws,cw,w,u,r,_⟩=>by rw[r.len.2,List.length_replicate,hm]) hbind (fun qual cd cl f A outer s H vs cv Q E hr hce h=> ?_)
 obtain⟨A',ws,cw,w',u,r,rc,e,q⟩:=h
 refine⟨_,(hj qual cd cl f A outer s H E hr).nox,?_⟩
 have hl:n.free.length=cw.length:=by rw[hce.len];exact rc.len.symm
 have r2:=r.more rc
 have F0:=m6 (N:=N) r2
 have S0:=F0.toS u fun a z=>z
 refine⟨_,mT,nT (List.replicate (np+cw.length) false) N.length (ws++cw),S0,?_⟩
 unfold aH at e
 rw[hl,if_pos r2.len.1]at e
 cases ed:d (nT (List.replicate (np+cw.length) false) N.length (ws++cw)) with
 |nx ps'=>rw[ed]at e;cases e;exact fun σ' H' ow' R' _=>q .non H' (R'.same.same rfl) rfl
 |ret w2=>rw[ed]at e;cases e;exact fun v H' s r=>q v H' (s.same rfl) r
 |reti w x=>rw[ed]at e;cases e
 |retn xs=>rw[ed]at e;cases e;exact fun p vs H' s hp hv r=>q (.ref p) H' (s.same rfl) ⟨p,vs,rfl,.inl ⟨hv,fun z=>u p z hp⟩,(Kp.weak fun a z=>Or.inl z).reps r⟩
 |brk _=>rw[ed]at e;cases e
 |cnt _=>rw[ed]at e;cases e
 |bad=>rw[ed]at e;cases e
 |exc _=>rw[ed]at e;cases e
theorem vo{n:ju}{k np:Nat}{g:List PV->Rx PV}(h:∀ws,g ws= .bad):p5 P w K mg base fX k n (EY K G np g) :=
 ⟨fun A outer s H q cl us vs cv Q E _ _ _ _ _ ⟨_,ws,cw,w,_,_,_,e,_⟩=>by rw[h]at e;cases e⟩
structure lc(P:Program)(w:World)(K:Fg)(mg:Str->Option Value)(base:Bs)(G:Pg)(k:Nat)(tab:List (Nat×Nat))(g:Nat->List PV->Rx PV):Prop where
 all:∀f np,tab.lookup f=some np->p5 P w K mg base fX k (G.nF f) (EY K G np (g f))
theorem vp{k:Nat}{g:Nat->List PV->Rx PV}:lc P w K mg base G k [] g:=⟨fun f np h=>by simp at h⟩
theorem qy{k f np:Nat}{tab:List (Nat×Nat)}{g:Nat->List PV->Rx PV}(h:p5 P w K mg base fX k (G.nF f) (EY K G np (g f)))(r:lc P w K mg base G k tab g):lc P w K mg base G k ((f,np)::tab) g :=
 ⟨fun f' np' e=>by
  rcases cE e with⟨rfl,rfl⟩|e
  ·exact h
  ·exact r.all f' np' e⟩
end
noncomputable section
variable{X:Cx}{G:Pg}{e a b o:Expr}{es:List Expr}{da db:DP}{d:DA}{ds:DS}{pos p apos:Pos}{x m:Str}{k i:Nat}{ms:List Bool}{tab:List (Nat×Nat)}{g:Nat->List PV->Rx PV}
noncomputable def mj(tab:List (Nat×Nat))(g:Nat->List PV->Rx PV)(x:PV)(m:Rx (List PV)):Rx PV:=match x with
 |.clo f cw=>(match tab.lookup f with|some np=>m.bind fun ws=>if ws.length=np then g f (ws++cw) else .bad|none=> .bad)
 |_=> .bad
theorem yE{x:PV}{m:Rx (List PV)}{w:PV}(h:mj tab g x m= .ok w):∃f cw np ws,x= .clo f cw/\tab.lookup f=some np/\m= .ok ws/\ws.length=np/\g f (ws++cw)= .ok w:=by
 unfold mj at h
 split at h
 ·rename_i f cw
  split at h
  ·rename_i np hnp
   obtain⟨ws,e1,h⟩:=am h
   split at h
   ·rename_i hl;exact⟨f,cw,np,ws,rfl,hnp,e1,hl,h⟩
   ·cases h
  ·cases h
 ·cases h
theorem lf{K:Fg}{H:Hp}{A:Av}:∀{ms:List Bool} {ws:List PV} {vs:List V},ms.all (! ·)=true->dP K G H A ms ws vs->dP K G H A (List.replicate ws.length false) ws vs
 |[],ws,vs,_,h=>by obtain⟨rfl,rfl⟩:=h;exact⟨rfl,rfl⟩
 |m::ms,ws,vs,hm,h=>by
  obtain⟨w,wr,v,vr,rfl,rfl,r,rr⟩:=h
  rw[List.all_cons,Bool.and_eq_true]at hm
  cases m with
  |true=>simp at hm
  |false=>exact⟨w,wr,v,vr,rfl,rfl,r,lf hm.2 rr⟩
theorem vq(h:lc X.prog X.w X.K X.mg X.base G k tab g)(hms:ms.all (! ·)=true){c:Fr}{ow:gD}{ps:aX}{σ :L2.St}{H H1:Hp}{Q:VK}{y w:PV}{u:V}(R:bf X.K G c H ow ps σ)(s1:Same H H1)(ry:dB X.K G H1 (av c ow) y u)
  (e:mj tab g y (d ps)= .ok w) (q:∀v H',Same H H'->dB X.K G H' (av c ow) w v->Q v H') :
  uJ (ι :={ q:Nat×Nat // tab.lookup q.1=some q.2 }) (fun i=>G.nF i.1.1) (fun i=>EY X.K G i.1.2 (g i.1.1)) E0 (Gb X.K G ms d) σ H1 u Q:=by
 obtain⟨f,cw,np,ws,rfl,ht,e1,hl,e2⟩:=yE e
 obtain⟨qa,cl,cv,rfl,hc,hce,rc⟩:=ry
 refine⟨⟨(f,np),ht⟩,qa,cl,cv,rfl,hc,c,ow,ps,ws,R.grow s1,e1,fun vs H2 s2 r=>⟨hc.keep fun a o u z=>s2 _ _ z,hce.keep fun a o u z=>s2 _ _ z,_,ws,cw,w,(R.grow (s1.trans s2)).used,?_,rc.same s2,e2,fun v H' s r2=>q v H' ((s1.trans s2).trans s) r2⟩⟩
 have:=lf hms r
 rw[hl]at this
 exact this
noncomputable def Bi(tab:List (Nat×Nat))(g:Nat->List PV->Rx PV)(a:DP)(d:DA):DP:=fun ps=>(a ps).bind fun y=>mj tab g y (d ps)
noncomputable def iU(tab:List (Nat×Nat))(g:Nat->List PV->Rx PV)(l:List (Nat×Nat))(a:DP)(d:DA):DP:=fun ps=>(a ps).bind fun x=>(ba l x).bind fun y=>mj tab g y (d ps)
theorem qz{l:List (Nat×Nat)}{pl:Sem Bool}(ok:bQ X.K G m l)(ho:JP X G o da)(h:lc X.prog X.w X.K X.mg X.base G k tab g)(hr:bv k X.A)(ha:JA X G ms (e::es) d)(hms:ms.all (! ·)=true:=by rfl)
  (hst:starEach (e::es) X.env=.(S)::starEach es X.env:=by rfl) (hpl:.(V).any (·.1)=false:=by rfl)
  (ht:eval (.Call (.Attribute o m apos) (e::es) [] pos) X.env=(do
   let ov <- eval o X.env
   standAt apos.atName
   let (f,first) <- holding [ov] (getMethod ov m pl)
   callWith pos f first (backTo pos (starEach (e::es) X.env)) (backToKw pos (keywordEach [] X.env))):=by rfl) :
  JP X G (.Call (.Attribute o m apos) (e::es) [] pos) (iU tab g l da d) :=
 imp (uK (ι :={ q:Nat×Nat // tab.lookup q.1=some q.2 }) (E:=E0) (pl:=pl) ho (fun i=>h.all i.1.1 i.1.2 i.2) hr kW ha hst hpl ht) fun σ H Q ⟨c,ow,ps,w,R,e,q⟩=>by
  obtain⟨y,e1,e2⟩:=am e
  obtain⟨z,e2,e3⟩:=am e2
  refine⟨c,ow,ps,y,R,e1,fun u H1 s1 ry=> ?_⟩
  unfold ba at e2
  split at e2
  ·rename_i kk xs _
   split at e2
   ·rename_i j hj
    split at e2
    ·rename_i w' hw
     cases e2
     obtain⟨a,dx,vs,rfl,hH,hl,na,rs⟩:=ry
     obtain⟨c1,c2,c3,c4⟩:=ok.all kk j hj
     obtain⟨v,hv,rv⟩:=rs.get hw
     exact⟨a,_,dx,_,v,rfl,hH,c1,c2,gN c3 c4 hv,vq h hms R s1 rv e3 q⟩
    ·cases e2
   ·cases e2
  ·cases e2
noncomputable def jq(js:List Nat)(ps:aX):Rx (List PV):=match js with
 |[]=> .ok []
 |j::js=>match ps[j]? with
  |some (.v w)=>(jq js ps).bind fun ws=> .ok (w::ws)
  |_=> .bad
theorem qA{K:Fg}{c:Fr}{H:Hp}{ow:gD}{ps:aX}{σ :L2.St}(R:bf K G c H ow ps σ):∀{js:List Nat} {ws:List PV},jq js ps= .ok ws->∃cv,AT σ js cv/\aC K G H (av c ow) ws cv
 |[],ws,h=>by cases h;exact⟨[],⟨rfl,fun i j v e=>by simp at e⟩,rfl⟩
 |j::js,ws,h=>by
  unfold jq at h
  split at h
  ·rename_i w hw
   obtain⟨us,e1,e2⟩:=am h
   cases e2
   obtain⟨v,e3,r⟩:=R.getV hw
   obtain⟨cv,⟨l,hh⟩,rs⟩:=qA R e1
   refine⟨v::cv,⟨by simp[l],fun i j' v' a1 a2=> ?_⟩,v,cv,rfl,r,rs⟩
   cases i with
   |zero=>simp at a1 a2;subst a1 a2;exact e3
   |succ i=>exact hh i j' v' (by simpa using a1) (by simpa using a2)
  ·cases h
theorem EZ{f:Nat}{js:List Nat}{ps:aX}{c:Fr}{ow:gD}{σ :L2.St}{H:Hp}{Q:VK}{ws:List PV}(R:bf X.K G c H ow ps σ)(e:jq js ps= .ok ws)(q:∀v H',Same H H'->dB X.K G H' (av c ow) (.clo f ws) v->Q v H'):JU (G.nF f) js σ H Q:=by
 obtain⟨cv,hh,rs⟩:=qA R e
 exact⟨cv,hh,fun qa cl H' s hn hc hce=>q _ H' s ⟨qa,cl,cv,rfl,hc,hce,rs.same s⟩⟩
def Io(f:Nat)(js:List Nat):DP:=fun ps=>(jq js ps).bind fun ws=> .ok (.clo f ws)
noncomputable def Bj(i f:Nat)(js:List Nat):DS:=fun ps=>(jq js ps).st fun ws=> .nx (ps.set i (.v (.clo f ws)))
theorem F2{c P:Addr}{name:Str}{params:Arguments}{body:List Stmt}{scope:Scope}{fr:List Str}{js:List Nat}(f:Nat)(hn:G.nF f=⟨params,.stmts body,scope,fr⟩)(mk:E5 X c P)(T:kZ X ⟨params,.stmts body,scope,fr⟩ js)(hN:X.N.Nodup)(hi:X.N[i]? =some name)(hx:mW X.env.scope name)
  (hd0:params.defaults=[]:=by rfl) (hk0:params.kw_defaults=[]:=by rfl) (ha:annTrees params none X.env=[]:=by rfl) (hf:X.fn name=true\/X.env.scope.names.lookup name=some .local:=by first|exact .inl rfl|exact .inr rfl|assumption) :
  JS X G (.FunctionDef name params body [] none [] scope none name pos) (Bj i f js):=fb (AV mk T hN hi hx hd0 hk0 ha hf) fun D σ H ⟨c,ow,ps,R,q⟩=>by
 obtain⟨ws,e1,q⟩:=bi q
 rw[<-hn]
 exact EZ R e1 fun v H' s r=>q _ _ _ ((R.grow s).setV r) ((Kp.of_same s).trans (Kp.weak g7))
def qB(d:DS):DS:=fun ps=>match d ps with | .ret w=> .ret w | .exc c=> .exc c|_=> .bad
abbrev zF(X:Cx)(S:List Str):Cx:={ X with fn:=fun x=>X.fn x && !S.contains x }
theorem yF{ss:List Stmt}(S:List Str)(h:mU (zF X S) G ss ds):mU X G ss (qB ds):=fun pins s σ H D I ⟨c,ow,ps,R,q⟩=>by
 have I':aA (zF X S) pins σ H s:=⟨⟨I.ok.mod,I.ok.kind,I.ok.glob,I.ok.blt,I.ok.above,I.ok.inj,I.ok.has,I.ok.cab,I.ok.hd,I.ok.frames,I.ok.stk,I.ok.exf,I.ok.bs,I.ok.bsz,I.ok.noex,I.ok.exfs,I.ok.funs,I.ok.frf,I.ok.tab,fun x z=>I.ok.fc x (by
  have z:(X.fn x && !S.contains x)=true:=z
  rw[Bool.and_eq_true]at z;exact z.1)⟩,I.os,I.bare,I.base,I.loc,I.cell,I.free,fun x c e=>(I.freeC x c e).imp id fun⟨z,r⟩=>⟨by show(X.fn x && !S.contains x)=false;rw[z];rfl,r⟩,I.pin,I.hok,I.len⟩
 have key:=h pins s σ H { nx:=fun _ _=>False,rt:=D.rt,bk:=fun _ _=>False,ct:=fun _ _=>False } I' ⟨c,ow,ps,R,by
  unfold qB at q
  cases e:ds ps with
  |ret w=>rw[e]at q;exact q
  |nx _=>rw[e]at q;exact q.elim
  |retn _=>rw[e]at q;exact q.elim
  |reti _ _=>rw[e]at q;exact q.elim
  |brk _=>rw[e]at q;exact q.elim
  |cnt _=>rw[e]at q;exact q.elim
  |bad=>rw[e]at q;exact q.elim
  |exc _=>rw[e]at q;exact q⟩
 refine wpAny_mono key (fun f s1 hf=> ?_) fun e s1 z=>z
 cases f with
 |next=>obtain⟨_,_,_,z⟩:=hf;exact z.elim
 |brk=>obtain⟨_,_,_,z⟩:=hf;exact z.elim
 |cont=>obtain⟨_,_,_,z⟩:=hf;exact z.elim
 |ret u=>obtain⟨v,H',J,r,z⟩:=hf;exact⟨v,H',⟨J.os,J.bare,J.base,J.hok⟩,r,z⟩
theorem vt{n:ju}{js:List Nat}(hl:n.free.length=js.length)(h:((n.free.zip js).all fun q=>(match X.N[q.2]? with|some y=>y == q.1|none=>false) && (match X.env.kindOf q.1 with|some k=>k == .cell|none=>false) && !X.fn q.1 && X.cw q.1 && n.scope.names.contains (q.1,NameKind.free))=true)
  (ha:(n.scope.names.all fun y=>y.2 != .free || n.free.contains y.1)=true):kZ X n js:=by
 refine⟨hl,fun i x j e1 e2=> ?_,fun y hy hk=> ?_⟩
 ·have hm:(x,j)∈n.free.zip js:=List.mem_of_getElem? (i:=i) (by rw[List.getElem?_zip_eq_some];exact⟨e1,e2⟩)
  have:=List.all_eq_true.mp h _ hm
  simp only[Bool.and_eq_true]at this
  obtain⟨⟨⟨⟨a1,a2⟩,a3⟩,a4⟩,a5⟩:=this
  refine⟨?_,?_,by simpa using a3,a4,by simpa using a5⟩
  ·split at a1
   ·rename_i y hy
    have:y=x:=by simpa using a1
    rw[hy,this]
   ·cases a1
  ·split at a2
   ·rename_i k hk
    have:k= .cell:=by simpa using a2
    rw[hk,this]
   ·cases a2
 ·have:=List.all_eq_true.mp ha y hy
  rw[hk]at this
  simpa using this
end
structure Bk(K:Fg)(fd:FuncData)(c P:Addr)(ts:List Addr):Prop where
 code:fd.code= .ref c
 hd:PySem.W.codeHdIn K c P=true
 tab:P∈ts
noncomputable section
variable{P:Program}{w:World}{K:Fg}{mg:Str->Option Value}{base:Bs}{G:Pg}
theorem Bl{x qual:Str}{st:Stmt}{f:Addr}{fd:FuncData}{N ps:List Str}{k:Nat}{ms:List Bool}{d:DS}{c Pt:Addr}(F:fC K x qual st f fd)(FT:Bk K fd c Pt base.tabs)(S:ap N ps (al st))(hm:ms.length=ps.length)
  (hb:∀(A:Around) (outer:List Env) (s:Shared) (H:Hp) (E:XK),bv k (A.deeper (envOfC qual (al st) s.heap.objs.size f (.ref c)))->E5 (iK fX P w K mg base N qual (al st) f (.ref c) A outer s H E).nox c Pt->mU (iK fX P w K mg base N qual (al st) f (.ref c) A outer s H E).nox G (bF st) d) :
  cY P w K mg base fX (k+1) f fd ps (tU K G ms (aH ms N.length d)):=by
 obtain⟨oc,od,kV,doc,pm,an,cdv,ct,osl,rfl,lk,hcd⟩:=F.ex
 obtain rfl:cdv=Value.ref c:=FT.code
 have F':fC K x qual st f (PySem.W.fnOf x qual (eL st) (bF st) (al st) .none kV doc pm an (.ref c) ct):=F
 refine zm lk hcd S (fun vs H Q E h=> ?_) (fun A outer s H vs Q E hr h=> ?_)
 ·obtain⟨A,ws,w,u,r,_⟩:=h
  rw[r.len.2,hm]
 ·obtain⟨A',ws,w',u,r,e,q⟩:=h
  refine⟨_,(hb A outer s H E hr ⟨rfl,FT.hd,FT.tab⟩).nox,?_⟩
  have F0:=m6 (N:=N) r
  have S0:=F0.toS u fun a z=>z
  refine⟨_,mT,nT ms N.length ws,S0,?_⟩
  unfold aH at e
  rw[if_pos r.len.1]at e
  cases ed:d (nT ms N.length ws) with
  |nx ps'=>rw[ed]at e;cases e;exact fun σ' H' ow' R' _=>q .non H' (R'.same.same rfl) rfl
  |ret w2=>rw[ed]at e;cases e;exact fun v H' s r=>q v H' (s.same rfl) r
  |reti w x=>rw[ed]at e;cases e
  |retn xs=>rw[ed]at e;cases e;exact fun p vs H' s hp hv r=>q (.ref p) H' (s.same rfl) ⟨p,vs,rfl,.inl ⟨hv,fun z=>u p z hp⟩,(Kp.weak fun a z=>Or.inl z).reps r⟩
  |brk _=>rw[ed]at e;cases e
  |cnt _=>rw[ed]at e;cases e
  |bad=>rw[ed]at e;cases e
  |exc _=>rw[ed]at e;cases e
end
noncomputable section
variable(ps:aX)(a:DP)(d:DA)(tab l:List (Nat×Nat))(g:Nat->List PV->Rx PV)
@[simp]theorem Gu:Bi tab g a d ps=(a ps).bind fun y=>mj tab g y (d ps):=rfl
@[simp]theorem Gv:iU tab g l a d ps=(a ps).bind fun x=>(ba l x).bind fun y=>mj tab g y (d ps):=rfl
@[simp]theorem Ks(f:Nat)(js:List Nat):Io f js ps=(jq js ps).bind fun ws=> .ok (.clo f ws):=rfl
@[simp]theorem Kt(i f:Nat)(js:List Nat):Bj i f js ps=(jq js ps).st fun ws=> .nx (ps.set i (.v (.clo f ws))):=rfl
@[simp]theorem Ip(s:DS):qB s ps=match s ps with | .ret w=> .ret w | .exc c=> .exc c|_=> .bad:=rfl
@[simp]theorem F3:jq [] ps= .ok []:=rfl
@[simp]theorem CO(j:Nat)(js:List Nat):jq (j::js) ps=match ps[j]? with|some (.v w)=>(jq js ps).bind fun ws=> .ok (w::ws)|_=> .bad:=rfl
end
instance:Inhabited ju:=⟨⟨{ posonlyargs:=[],args:=[],vararg:=none,kwonlyargs:=[],kw_defaults:=[],kwarg:=none,defaults:=[] },.stmts [],{ kind:= .function,names:=[],isGenerator:=false,isCoroutine:=false },[]⟩⟩
noncomputable def F4(fr:List Str)(s:Stmt):ju:=match s with
 |.FunctionDef _ a b _ _ _ sc _ _ _=>⟨a,.stmts b,sc,fr⟩
 |_=>default
def L1:Stmt:= .Pass ⟨0,0,0,0⟩
def Bm(j:Nat)(s:Stmt):Stmt:=(bF s).getD j L1
def Iq(n:ju):List Stmt:=match n.body with | .stmts b=>b|_=>[]
def Ku(K:Fg)(f:Addr)(x qual:Str)(st:Stmt)(ts:List Addr):Prop:=∃fd c P,fC K x qual st f fd/\Bk K fd c P ts
theorem Ir{K:Fg}{x qual:Str}{st:Stmt}{f c P:Addr}{oc o1:Value}{od an d1:Option Addr}{osl s1:Array (Option Value)}{kV doc pm ct:Value}{vs:Array Value}{ts:List Addr}
  (l:K.lookup f=some ⟨oc,od,.func (PySem.W.fnOf x qual (eL st) (bF st) (al st) .none kV doc pm an (.ref c) ct),osl⟩) (i:PySem.W.codeIn K (.ref c) qual=true) (k:PySem.W.keepIn K (.ref f)=true)
  (cl:K.lookup c=some ⟨o1,d1,.fields vs,s1⟩) (cp:vs[11]? =some (.ref P)) (ch:PySem.W.codeHdIn K c P=true) (ct:P∈ts):Ku K f x qual st ts:=⟨_,c,P,ux l i k,rfl,ch,ct⟩
def Bn(K:Fg)(ts:List Addr):Bool:=ts.all fun P=>(K.lookup P).isNone && K.any fun q=>PySem.W.codeHdIn K q.1 P
theorem Kv{K:Params->Fg}{as:List Addr}{e:∀P,as=(K P).map (·.1)}{ts:List Addr}{w:World}{h:Heap}(Y:(PySem.W.kmHook K as e ts).says w h)(hc:Bn (K w.params) ts=true) :
  ∀P∈ts,h.get? P=some (PySem.W.tabObj #[])/\isCodeTable h P/\(K w.params).lookup P=none:=fun P hP=>by
 have h1:=PySem.W.km_tabs_of Y P hP
 have h2:=List.all_eq_true.mp hc P hP
 rw[Bool.and_eq_true]at h2
 obtain⟨h3,h4⟩:=h2
 obtain⟨q,_,h5⟩:=List.any_eq_true.mp h4
 exact⟨h1,((PySem.W.codeHd_of_K (PySem.W.km_in_of Y) h5).tab h1).isCodeTable,by simpa using h3⟩
end DN
end
noncomputable section
namespace L2
open PySem PySem.Spec PyProof.Rows
end L2
namespace DN
open PySem PySem.Spec PyProof.Rows L2
noncomputable section
variable{X:Cx}{G:Pg}{e a b o tg:Expr}{es:List Expr}{body:List Stmt}{da db:DP}{d:DA}{ds:DS}{pos p apos cpos:Pos}{x m:Str}{k i:Nat}{ms:List Bool}
noncomputable def gg:List PV->Option (List Str)
 |[]=>some []
 |.str x::r=>(gg r).map (x :: ·)
 |_=>none
theorem lg{K:Fg}{H:Hp}{A:Av}:∀{ws:List PV} {vs:List V} {ts:List Str},gg ws=some ts->aC K G H A ws vs->vs=ts.map V.str
 |[],vs,ts,h,r=>by cases h;exact r
 |.str x::ws,vs,ts,h,r=>by
  obtain⟨v,vr,rfl,r1,r2⟩:=r
  cases e:gg ws with
  |none=>simp[gg,e]at h
  |some us =>
   simp[gg,e]at h
   subst h
   obtain rfl:v=V.str x:=r1
   rw[lg e r2];rfl
 |.non::_,_,_,h,_=>by cases h
 |.bl _::_,_,_,h,_=>by cases h
 |.int _::_,_,_,h,_=>by cases h
 |.tup _::_,_,_,h,_=>by cases h
 |.lst _::_,_,_,h,_=>by cases h
 |.obj _ _::_,_,_,h,_=>by cases h
 |.dic _ _::_,_,_,h,_=>by cases h
 |.clo _ _::_,_,_,h,_=>by cases h
theorem li:∀{ts:List Str} {its:List Value},aM (ts.map V.str) its->∃l:List (Str×Tok),its=strValues l/\l.map (·.1)=ts
 |[],its,h=>by cases h;exact⟨[],rfl,rfl⟩
 |t::ts,its,h=>by
  cases h with
  |cons r rest =>
   obtain⟨tk,rfl⟩:=r
   obtain⟨l,rfl,e⟩:=li rest
   exact⟨(t,tk)::l,rfl,by simp[e]⟩
theorem yG:G8 X "str.join" (fun x xs H Q=>∃z a ts,x= .str z/\xs=[.ref a]/\eI X.K H a (ts.map V.str)/\JoinOk z ts=true/\Q (.str (Txt.join z ts)) H):=by
 intro pins s σ H x xs v us Q I rx rs h
 obtain⟨z,a,ts,rfl,rfl,hq,hj,q⟩:=h
 obtain⟨t,rfl⟩:=rx
 obtain⟨u',rfl,ru⟩:=n0 rs
 obtain rfl:u'=Value.ref a:=ru
 obtain⟨its,r,p,hz⟩:=I.list hq
 obtain⟨l,rfl,e⟩:=li r
 exact SC.join p.isList e hj fun t' k=>⟨.str _,H,I.tok k,⟨t',rfl⟩,q⟩
noncomputable def nZ:PV->PV->Rx PV
 |.str z,.lst ws=>(match gg ws with|some ts=>if JoinOk z ts=true then .ok (.str (Txt.join z ts)) else .bad|none=> .bad)
 |_,_=> .bad
theorem Bo(ho:JP X G o da)(he:JB X G e db)
  (hbase:attributeBase o "join" X.env (eval o X.env)=eval o X.env:=by rfl)
  (hfew:.(C)=true:=by rfl)
  (hline:(apos.endLine == cpos.line)=true:=by rfl) (hst:starEach [e] X.env=.(S)::starEach [] X.env:=by rfl) (hpl:(backTo cpos (starEach ([]:List Expr) X.env)).any (·.1)=false:=by rfl) :
  JP X G (.Call (.Attribute o "join" apos) [e] [] cpos) (d2 nZ da db) :=
 imp (nj PySem.F.plainAttrs_str PySem.F.slot_str_join PySem.F.type_str_join yG ho (dg he fB hst) hbase hfew hline hst hpl) fun σ H Q ⟨c,ow,ps,w,R,e,q⟩=>by
  obtain⟨w1,e1,e⟩:=am e
  obtain⟨w2,e2,e⟩:=am e
  unfold nZ at e
  split at e
  ·rename_i x y _
   split at e
   ·rename_i ts hts
    split at e
    ·rename_i hj
     cases e
     refine⟨c,ow,ps,_,R,e1,fun v H1 s1 r1=> ?_⟩
     obtain rfl:v=V.str x:=r1
     refine⟨rfl,c,ow,ps,_,R.grow s1,e2,fun u H2 s2 r2=> ?_⟩
     obtain⟨a,vs,rfl,sq,rs⟩:=r2.lst
     obtain rfl:=lg hts rs
     exact⟨x,a,ts,rfl,rfl,sq,hj,q _ H2 (s1.trans s2) rfl⟩
    ·cases e
   ·cases e
  ·cases e
end
noncomputable section
variable(ps:aX)(a:DP)(d:DA)(dma:p7)(dm:DM)(t u:py)(dt:DT)(s r:DS)
@[simp]theorem Is(c n:Nat):Ik c n dma ps=(dma ps).bind fun r=>if r.1.length=n then .ok (.obj c r.1,r.2) else .bad:=rfl
@[simp]theorem Kw:KZ dm ps=(dm ps).bind fun r=>match r.1 with | .bl b=> .ok (b,r.2)|_=> .bad:=rfl
@[simp]theorem Iu:fW dt ps=(dt ps).bind fun b=> .ok (b,ps):=rfl
@[simp]theorem Iv:Ih t ps=(t ps).bind fun r=> .ok (!r.1,r.2):=rfl
@[simp]theorem Kx:L0 t u ps=(t ps).bind fun r=>if r.1=true then .ok (true,r.2) else u r.2:=rfl
@[simp]theorem Iw:Ii t u ps=(t ps).bind fun r=>if r.1=true then u r.2 else .ok (false,r.2):=rfl
@[simp]theorem Ky:Ij t s r ps=(t ps).st fun x=>if x.1=true then s x.2 else r x.2:=rfl
@[simp]theorem iu:fL t s ps=(cu t s 100000 ps).getD .bad:=rfl
end
end DN
end
noncomputable section
namespace L2
open PySem PySem.Spec PyProof.Rows PySem.Builtin PySem.Builtin.Str
end L2
namespace DN
open PySem PySem.Spec PyProof.Rows L2
noncomputable section
variable{X:Cx}{G:Pg}{e:Expr}{da:DP}{pos:Pos}
noncomputable def F6(d:DP)(dl dh:aX->Rx (Option Int)):DP:=fun ps=>(d ps).bind fun x=>(dl ps).bind fun lo=>(dh ps).bind fun hi=>match x with
 |.str z=>if (PySem.StrLaws.sliceText z lo hi).length<=sizeLine then .ok (.str (PySem.StrLaws.sliceText z lo hi)) else .bad
 |_=> .bad
@[simp]theorem Ix(ps:aX)(dl dh:aX->Rx (Option Int)):F6 da dl dh ps=(da ps).bind fun x=>(dl ps).bind fun lo=>(dh ps).bind fun hi=>match x with
 |.str z=>if (PySem.StrLaws.sliceText z lo hi).length<=sizeLine then .ok (.str (PySem.StrLaws.sliceText z lo hi)) else .bad
 |_=> .bad:=rfl
end
end DN
end
noncomputable section
namespace L2
open PySem PySem.Spec PyProof.Rows PySem.Builtin PySem.Builtin.Str
noncomputable section
variable{X:Cx}
theorem Bp:Dl X .BitAnd (G6 fun i j=>Builtin.bitAnd i j):=by
 intro pins s σ H x y v u Q I r1 r2 h
 obtain⟨i,j,e1,e2,q⟩:=h
 subst e1;subst e2
 obtain⟨t,rfl⟩:=r1
 obtain⟨t',rfl⟩:=r2
 exact iand_int ⟨.int _,H,I.tok _,⟨_,rfl⟩,q⟩
end
end L2
namespace DN
open PySem PySem.Spec PyProof.Rows L2
noncomputable section
variable{X:Cx}{G:Pg}{o e a b c:Expr}{da db dc:DP}{pos apos cpos:Pos}
def yH(d:DP):DP:=fun ps=>(d ps).bind fun x=>match x with | .int i=> .ok (.int (Builtin.bitNot i))|_=> .bad
theorem F7(ha:JP X G a da):JP X G (.UnaryOp .Invert a pos) (yH da):=imp (zk Ax ha) fun σ H Q ⟨c,ow,ps,w,R,e,q⟩=>by
 obtain⟨x,e1,e2⟩:=am e
 refine⟨c,ow,ps,x,R,e1,fun v H' s r=> ?_⟩
 split at e2
 ·cases e2;exact⟨_,r,q _ H' s rfl⟩
 ·cases e2
noncomputable def iV(f g:PV->PV->Rx PV)(a b c:DP):DP:=fun ps=>(a ps).bind fun x=>(b ps).bind fun y=>(f x y).bind fun z=>match z with | .bl true=>(c ps).bind fun w=>g y w | .bl false=> .ok (.bl false)|_=> .bad
theorem vv{K:Fg}{f g:PV->PV->Rx PV}{r r':R2}(hf:nE K G f r)(hg:nE K G g r'){σ :L2.St}{H:Hp}{Q:VK}(h:xr K G (iV f g da db dc) σ H Q):uf r r' (CK K G da) (CK K G db) (CK K G dc) σ H Q:=by
 obtain⟨c,ow,ps,w,R,e,q⟩:=h
 obtain⟨x,e1,e⟩:=am e
 obtain⟨y,e2,e⟩:=am e
 obtain⟨z,e3,e⟩:=am e
 refine⟨c,ow,ps,x,R,e1,fun v H1 s1 r1=>⟨c,ow,ps,y,R.grow s1,e2,fun u H2 s2 r2=>hf H2 _ x y z v u _ ((R.grow s1).grow s2).used e3 (r1.same s2) r2 fun t H3 s3 r3=> ?_⟩⟩
 split at e
 ·obtain⟨w3,e4,e⟩:=am e
  refine⟨true,r3,iteT ⟨c,ow,ps,w3,((R.grow s1).grow s2).grow s3,e4,fun u4 H4 s4 r4=>hg H4 _ y w3 w u u4 Q ((((R.grow s1).grow s2).grow s3).grow s4).used e (r2.same (s3.trans s4)) r4 fun t5 H5 s5 r5=>q t5 H5 ((((s1.trans s2).trans s3).trans s4).trans s5) r5⟩⟩
 ·cases e
  exact⟨false,r3,lP (q _ H3 ((s1.trans s2).trans s3) rfl)⟩
 ·cases e
theorem p_chain{op op':CmpOp}{r r':R2}{f g:PV->PV->Rx PV}(ho:fY X (compareOp op) r)(ho':fY X (compareOp op') r')(hf:nE X.K G f r)(hg:nE X.K G g r')(ha:JB X G a da)(hb:JB X G b db)(hc:JB X G c dc)
  (hm:lastMarks [op,op'] [b,c]=false:=by with_unfolding_all rfl):JP X G (.Compare a [op,op'] [b,c] pos) (iV f g da db dc):=imp (ug ho ho' ha hb hc hm) fun _ _ _=>vv hf hg
abbrev oi_le:=fun(K:Fg) (G:Pg)=>(nG (K:=K) (G:=G) (g:=fun i j=> .bl (decide (i<=j))) (g':=fun i j=> .bl (decide (i<=j))) fun _ _ _ _=>rfl:nE K G AX _)
end
noncomputable section
variable(ps:aX)(a b c:DP)(f g:PV->PV->Rx PV)
@[simp]theorem Gw:iV f g a b c ps=(a ps).bind fun x=>(b ps).bind fun y=>(f x y).bind fun z=>match z with | .bl true=>(c ps).bind fun w=>g y w | .bl false=> .ok (.bl false)|_=> .bad:=rfl
@[simp]theorem F8:yH a ps=(a ps).bind fun x=>match x with | .int i=> .ok (.int (Builtin.bitNot i))|_=> .bad:=rfl
end
end DN
end
noncomputable section
namespace L2
open PySem PySem.Spec PyProof.Rows
noncomputable section
variable{X:Cx}
end
end L2
namespace DN
open PySem PySem.Spec PyProof.Rows L2
noncomputable section
variable{X:Cx}{G:Pg}{o e a b c:Expr}{da db dc:DP}{pos apos cpos:Pos}
noncomputable def Iy:PV->PV->Rx PV
 |.bl b,.bl c=> .ok (.bl (b == c))
 |_,_=> .bad
noncomputable def F9:PV->PV->Rx PV
 |.bl b,.bl c=> .ok (.bl (!(b == c)))
 |_,_=> .bad
noncomputable def Fa(i:Nat)(d:DS):DS:=fun ps=>match ps[i]? with|some (.own y)=>d (ps.set i (.v y.pv))|_=>d ps
end
noncomputable section
variable(ps:aX)(i:Nat)(d:DS)
@[simp]theorem Gx:Fa i d ps=match ps[i]? with|some (.own y)=>d (ps.set i (.v y.pv))|_=>d ps:=rfl
@[simp]theorem Kz(b c:Bool):Iy (.bl b) (.bl c)= .ok (.bl (b == c)):=rfl
@[simp]theorem Iz(b c:Bool):F9 (.bl b) (.bl c)= .ok (.bl (!(b == c))):=rfl
end
end DN
end
noncomputable section
namespace DN
open PySem PySem.Spec PyProof.Rows L2
noncomputable section
variable{K:Fg}{G:Pg}{H H':Hp}{A A':Av}{c:Fr}{ow:gD}{ps:aX}{σ :L2.St}
def qC:Sl->Bool
 |.als _ _=>true
 |_=>false
def zG:Sl->Sl
 |.als _ _=> .no
 |s=>s
end
noncomputable section
variable{X:Cx}{G:Pg}{e ke value:Expr}{da db dk dv:DP}{d:DA}{ds:DS}{pos pos' p tpos:Pos}{x y:Str}{i j:Nat}
noncomputable def Bq(i:Nat)(dk:DP)(d:DA):DS:=fun ps=>(d ps).st fun ws=>(dk ps).st fun y=>match ps[i]?,gd y with
 |some (.own (.dic [] [])),some k=>if ps.any qC=false then .nx (ps.set i (.dol [k] [ws])) else .bad
 |some (.dol ks xss),some k=>if ps.any qC=false/\ks.length=xss.length/\ks.length<999/\inK ks k=false then .nx (ps.set i (.dol (ks++[k]) (xss++[ws]))) else .bad
 |_,_=> .bad
noncomputable def IA:List Key->Key->Nat->Option Nat
 |[],_,_=>none
 |k'::ks,k,n=>if k'=k then some n else IA ks k (n+1)
noncomputable def IC(i j:Nat)(dk:DP):DS:=fun ps=>(dk ps).st fun y=>match ps[j]?,gd y with
 |some (.dol ks xss),some k=>(match IA ks k 0 with|some m=> .nx (ps.set i (.als j m))|none=> .bad)
 |_,_=> .bad
noncomputable def ID(i:Nat):DP:=fun ps=>match ps[i]? with
 |some (.als d j)=>(match ps[d]? with
  |some (.dol _ xss)=>(match xss[j]? with|some xs=> .ok (.lst xs)|none=> .bad)
  |_=> .bad)
 |_=> .bad
noncomputable def Fb(i:Nat)(dk dv:DP):DS:=fun ps=>(dv ps).st fun w=>(dk ps).st fun y=>match ps[i]?,y with
 |some (.als d j),.int n=>(match ps[d]? with
  |some (.dol ks xss)=>(match xss[j]? with
   |some xs=>(match oT xs.length n with|some m=> .nx (ps.set d (.dol ks (xss.set j (xs.set m w))))|none=> .bad)
   |none=> .bad)
  |_=> .bad)
 |_,_=> .bad
noncomputable def Fc(i:Nat)(d:DS):DS:=fun ps=>match ps[i]? with
 |some (.dol ks xss)=>d ((ps.map zG).set i (.v (.dic ks (xss.map PV.lst))))
 |_=>d ps
end
noncomputable section
variable(ps:aX)(i j:Nat)(dk dv:DP)(d:DA)(ds:DS)
@[simp]theorem Fd:yi i ps=match ps[i]? with|some (.bor (.lst xs))=> .ok xs|_=> .bad:=rfl
@[simp]theorem Gy:Bq i dk d ps=(d ps).st fun ws=>(dk ps).st fun y=>match ps[i]?,gd y with
 |some (.own (.dic [] [])),some k=>if ps.any qC=false then .nx (ps.set i (.dol [k] [ws])) else .bad
 |some (.dol ks xss),some k=>if ps.any qC=false/\ks.length=xss.length/\ks.length<999/\inK ks k=false then .nx (ps.set i (.dol (ks++[k]) (xss++[ws]))) else .bad
 |_,_=> .bad:=rfl
@[simp]theorem IE:IC i j dk ps=(dk ps).st fun y=>match ps[j]?,gd y with
 |some (.dol ks xss),some k=>(match IA ks k 0 with|some m=> .nx (ps.set i (.als j m))|none=> .bad)
 |_,_=> .bad:=rfl
@[simp]theorem IF:ID i ps=match ps[i]? with
 |some (.als d j)=>(match ps[d]? with
  |some (.dol _ xss)=>(match xss[j]? with|some xs=> .ok (.lst xs)|none=> .bad)
  |_=> .bad)
 |_=> .bad:=rfl
@[simp]theorem IG:Fb i dk dv ps=(dv ps).st fun w=>(dk ps).st fun y=>match ps[i]?,y with
 |some (.als d j),.int n=>(match ps[d]? with
  |some (.dol ks xss)=>(match xss[j]? with
   |some xs=>(match oT xs.length n with|some m=> .nx (ps.set d (.dol ks (xss.set j (xs.set m w))))|none=> .bad)
   |none=> .bad)
  |_=> .bad)
 |_,_=> .bad:=rfl
@[simp]theorem IH:Fc i ds ps=match ps[i]? with
 |some (.dol ks xss)=>ds ((ps.map zG).set i (.v (.dic ks (xss.map PV.lst))))
 |_=>ds ps:=rfl
end
end DN
end
noncomputable section
namespace DN
open PySem PySem.Spec PyProof.Rows L2
noncomputable def so:List PV->Option (List Key)
 |[]=>some []
 |y::ys=>match gd y,so ys with|some k,some ks=>some (k::ks)|_,_=>none
noncomputable def vw{α :Type}:List (List Key)->List α ->List Key->Option α
 |k'::ks,x::xs,k=>if k'=k then some x else vw ks xs k
 |_,_,_=>none
def Gz(ks:List (List Key))(k:List Key):Bool:=ks.any fun k'=>decide (k'=k)
noncomputable section
variable{K:Fg}{G:Pg}{H:Hp}{A:Av}
end
noncomputable section
variable{X:Cx}{G:Pg}{o value:Expr}{es:List Expr}{da dv:DP}{dk:DA}{ds:DS}{pos pos' p tp tpos:Pos}{x:Str}{i:Nat}{ms:List Bool}
noncomputable def Br(i:Nat):DS:=fun ps=>if i<ps.length then .nx (ps.set i (.own (.dit [] []))) else .bad
noncomputable def Bt(i:Nat)(dk:DA)(dv:DP):DS:=fun ps=>(dv ps).st fun w=>(dk ps).st fun ys=>match ps[i]?,so ys with
 |some (.own (.dit ks xs)),some k=>if ks.length<10000/\Gz ks k=false then .nx (ps.set i (.own (.dit (ks++[k]) (xs++[w])))) else .bad
 |_,_=> .bad
noncomputable def Bu(da:DP)(dk:DA):DP:=fun ps=>(da ps).bind fun z=>(dk ps).bind fun ys=>match z,so ys with
 |.dit ks xs,some k=>(match vw ks xs k with|some w=> .ok w|none=> .bad)
 |_,_=> .bad
end
noncomputable section
variable(ps:aX)(i:Nat)(da dv:DP)(dk:DA)
@[simp]theorem GA:Br i ps=if i<ps.length then .nx (ps.set i (.own (.dit [] []))) else .bad:=rfl
@[simp]theorem GB:Bt i dk dv ps=(dv ps).st fun w=>(dk ps).st fun ys=>match ps[i]?,so ys with
 |some (.own (.dit ks xs)),some k=>if ks.length<10000/\Gz ks k=false then .nx (ps.set i (.own (.dit (ks++[k]) (xs++[w])))) else .bad
 |_,_=> .bad:=rfl
@[simp]theorem GC:Bu da dk ps=(da ps).bind fun z=>(dk ps).bind fun ys=>match z,so ys with
 |.dit ks xs,some k=>(match vw ks xs k with|some w=> .ok w|none=> .bad)
 |_,_=> .bad:=rfl
end
end DN
end
noncomputable section
namespace L2
open PySem PySem.Spec PyProof.Rows
noncomputable section
variable{P:Program}{w:World}{K:Fg}{mg:Str->Option Value}{base:Bs}{N:List Str}{qual:Str}{scope:Scope}{f:Addr}{cd:Value}{A:Around}{outer:List Env}{s0:Shared}{H0:Hp}{E E':XK}
end
noncomputable section
variable{X:Cx}
end
noncomputable section
variable{X:Cx}{pins:List (Addr×Obj)}{σ :St}{H:Hp}{s:Shared}{e:Value}
end
end L2
end
noncomputable section
namespace DN
open PySem PySem.Spec PyProof.Rows L2
def Rx.at{α :Type}(r:Rx α)(Q: α ->Prop)(E:Nat->Prop):Prop:=match r with | .ok a=>Q a | .exc k=>E k | .bad=>False
def eA(G:Pg)(k:Nat):Value:= .ref (G.cA (1000+k))
def pz:Rs->Rs
 |.exc _=> .bad
 |r=>r
@[simp]theorem GD(ps:aX):pz (.nx ps)= .nx ps:=rfl
@[simp]theorem Fe(w:PV):pz (.ret w)= .ret w:=rfl
@[simp]theorem CP(w:List PV):pz (.retn w)= .retn w:=rfl
@[simp]theorem CQ(w:PV)(x:Ow):pz (.reti w x)= .reti w x:=rfl
@[simp]theorem Ff(ps:aX):pz (.brk ps)= .brk ps:=rfl
@[simp]theorem Fh(ps:aX):pz (.cnt ps)= .cnt ps:=rfl
@[simp]theorem Fi:pz .bad= .bad:=rfl
def Fj{α :Type}:Rx α ->Rx α
 |.exc _=> .bad
 |r=>r
@[simp]theorem GE{α :Type}(a: α):Fj (.ok a)= .ok a:=rfl
@[simp]theorem Fk{α :Type}:Fj (.bad:Rx α)= .bad:=rfl
noncomputable section
variable{X:Cx}{G:Pg}{E:XK}{e a b o tg:Expr}{es:List Expr}{d:DA}{ds du:DS}{dt:DT}{st:Stmt}{rest:List Stmt}{pos p:Pos}{x m:Str}{k i:Nat}{ms:List Bool}
end
end DN
end
noncomputable section
namespace DN
open PySem PySem.Spec PyProof.Rows L2
def zH(ks:List (List Key))(k:List Key):List (List Key):=if Gz ks k=true then ks else ks++[k]
noncomputable def zI{α :Type}(ks:List (List Key))(xs:List α)(k:List Key)(w: α):List α :=if Gz ks k=true then List.zipWith (fun k' x=>if k'=k then w else x) ks xs else xs++[w]
def qD:PV->Option (List Key)
 |.tup ys=>so ys
 |_=>none
noncomputable section
variable{X:Cx}{G:Pg}{a b e f o ke value:Expr}{es:List Expr}{da db dk dv dd:DP}{ds:DS}{pos pos' p tp tpos apos cpos:Pos}{x:Str}{i:Nat}{ms:List Bool}
noncomputable def Bv(i:Nat)(dk dv:DP):DS:=fun ps=>(dv ps).st fun w=>(dk ps).st fun y=>match ps[i]?,qD y with
 |some (.own (.dit ks xs)),some k=>if ks.length<10000 then .nx (ps.set i (.own (.dit (zH ks k) (zI ks xs k w)))) else .bad
 |_,_=> .bad
noncomputable def Bw(da db dd:DP):DP:=fun ps=>(da ps).bind fun x=>(db ps).bind fun y=>(dd ps).bind fun z=>match x,qD y with
 |.dit ks xs,some k=>if ks.length=xs.length then .ok ((vw ks xs k).getD z) else .bad
 |_,_=> .bad
theorem yI{K:Fg}{H H':Hp}{A A':Av}{w:PV}{v:V}(h:uX w=true)(r:dB K G H A w v):dB K G H' A' w v:=by
 cases w <;> first|exact r|cases h
noncomputable def ml(i:Nat)(dk dv:DP):DS:=fun ps=>(dk ps).st fun y=>(dv ps).st fun w=>match gd y with
 |some k=>if i<ps.length/\uX w=true then .nx (ps.set i (.own (.dic [k] [w]))) else .bad
 |none=> .bad
theorem yJ(hN:X.N.Nodup)(hi:X.N[i]? =some x)(hx:mW X.env.scope x)(hk:JP X G ke dk)(hv:JP X G value dv)(hs:swapsWith (.Dict [some ke] [value] pos') (some (.Name x p)) pos.line X.env=pure false:=by rfl)(hf:X.fn x=true\/X.env.scope.names.lookup x=some .local:=by first|exact .inl rfl|exact .inr rfl|assumption) :
  JS X G (.Assign [.Name x p] (.Dict [some ke] [value] pos') pos) (ml i dk dv):=fb (jC hN hi hx (y2 (uB hk hv y1) rfl rfl (by simp) (by show 1<=15;decide)) hs hf) fun D σ H ⟨c,ow,ps,R,q⟩=>by
 obtain⟨y,e1,q⟩:=bi q
 obtain⟨w,e2,q⟩:=bi q
 split at q
 ·rename_i k hk
  split at q
  ·rename_i hl
   intro p hp
   have s0:=bx hp (HO.dK [] 0)
   refine⟨c,ow,ps,y,R.grow s0,e1,fun u H1 s1 r1=>⟨c,ow,ps,w,(R.grow s0).grow s1,e2,fun v H2 s2 r2=> ?_⟩⟩
   have s12:=s1.trans s2
   have hH:H2 p=some (.dK [] 0):=s12 _ _ ax
   refine⟨hH,[(k,v)],by rw[qq r1 hk];rfl,(by show 1<=15;decide),fun ep=> ?_⟩
   have sx:Same H (upd H2 p (.dK [(k,v)] ep)):=fun b o h=>by
    rw[aw (aL h hp)]
    exact(s0.trans s12) _ _ h
   exact q _ _ _ (R.setO hl.1 sx hp ⟨[v],ep,ax,rfl,v,[],rfl,yI hl.2 r2,rfl⟩) (Kp.take hp sx qi)
  ·exact q.elim
 ·exact q.elim
end
noncomputable section
variable(ps:aX)(i:Nat)(da db dk dv dd:DP)
@[simp]theorem GF:Bv i dk dv ps=(dv ps).st fun w=>(dk ps).st fun y=>match ps[i]?,qD y with
 |some (.own (.dit ks xs)),some k=>if ks.length<10000 then .nx (ps.set i (.own (.dit (zH ks k) (zI ks xs k w)))) else .bad
 |_,_=> .bad:=rfl
@[simp]theorem GG:Bw da db dd ps=(da ps).bind fun x=>(db ps).bind fun y=>(dd ps).bind fun z=>match x,qD y with
 |.dit ks xs,some k=>if ks.length=xs.length then .ok ((vw ks xs k).getD z) else .bad
 |_,_=> .bad:=rfl
@[simp]theorem GH:ml i dk dv ps=(dk ps).st fun y=>(dv ps).st fun w=>match gd y with
 |some k=>if i<ps.length/\uX w=true then .nx (ps.set i (.own (.dic [k] [w]))) else .bad
 |none=> .bad:=rfl
end
end DN
end
noncomputable section
namespace L2
open PySem PySem.Spec PyProof.Rows
end L2
namespace DN
open PySem PySem.Spec PyProof.Rows L2
noncomputable section
variable{X:Cx}{G:Pg}{da:DP}{ds:DS}{pos p cpos:Pos}
noncomputable def pA(d:DP):DA:=fun ps=>(d ps).bind fun x=>match x with | .str y=> .ok (gf 0 (Gq y))|_=> .bad
def Bx(d:DP)(g:DG)(body:DS):DS:=sFor (pA d) g body
end
@[simp]theorem GI(da:DP)(ds:DS)(ps:aX)(g:DG):Bx da g ds ps=(pA da ps).st fun ws=>bS g ds ws ps:=rfl
@[simp]theorem GJ(da:DP)(ps:aX):pA da ps=(da ps).bind fun x=>match x with | .str y=> .ok (gf 0 (Gq y))|_=> .bad:=rfl
end DN
namespace L2
open PySem PySem.Spec PyProof.Rows
noncomputable section
variable{P:Program}{w:World}{K:Fg}{mg:Str->Option Value}{base:Bs}{C f:Addr}{fd:FuncData}{qual:Str}{st:Stmt}
theorem vy{a b c d:Str}{p1 p2 p3 p4 q1 q2 q3 q4 r1 r2 r3 r4 s1 s2 s3 s4:Pos}(F:fC K "__init__" qual st f fd)(hb:bF st=[.Assign [.Attribute (.Name "self" p1) a p2] (.Name a p3) p4,.Assign [.Attribute (.Name "self" q1) b q2] (.Name b q3) q4,.Assign [.Attribute (.Name "self" r1) c r2] (.Name c r3) r4,.Assign [.Attribute (.Name "self" s1) d s2] (.Name d s3) s4])
  (S:ap ["self",a,b,c,d] ["self",a,b,c,d] (al st)) (cl:kN K C) (na:bq K C a) (nb:bq K C b) (nc:bq K C c) (nd:bq K C d) (hd:(a == .(L))=false) (hcd:(a == .(Z))=false)
  (hd':(b == .(L))=false) (hcd':(b == .(Z))=false) (hd'':(c == .(L))=false) (hcd'':(c == .(Z))=false) (hd3:(d == .(L))=false) (hcd3:(d == .(Z))=false) (ab:¬a=b) (ac:¬a=c) (ad:¬a=d) (bc:¬b=c) (bd:¬b=d) (cd:¬c=d):cY P w K mg base fX 1 f fd ["self",a,b,c,d] (ny C [a,b,c,d]):=by
 refine F.ok S (fun vs H Q E h=> ?_) (fun cdv A outer s H vs Q E hr h=> ?_)
 ·obtain⟨p,dx,r,rfl,hl,_⟩:=h
  match r,hl with|[_,_,_,_],_=>rfl
 ·obtain⟨p,dx,r,rfl,hl,hp,q⟩:=h
  match r,hl with
  |[v,u,z,y],_ =>
   have vis:∀x∈(["self",a,b,c,d]:List Str),lF (al st) x:=fun x hx=>(S.par x hx).elim (fun z=> .inl z) fun z=> .inr (.inl z)
   have e:cC b u (cC a v [])=[(a,v),(b,u)]:=by
    show(if a=b then _ else(a,v)::cC b u [])=_
    rw[if_neg ab]
    rfl
   have e':cC c z [(a,v),(b,u)]=[(a,v),(b,u),(c,z)]:=by
    show(if a=c then _ else(a,v)::(if b=c then _ else(b,u)::cC c z []))=_
    rw[if_neg ac,if_neg bc]
    rfl
   rw[hb]
   refine⟨_,dY (dZ (bh (i:=0) rfl (vis "self" (by simp))) (bh (i:=1) rfl (vis a (by simp)) hd hcd) rfl) (dY (dZ (bh (i:=0) rfl (vis "self" (by simp))) (bh (i:=2) rfl (vis b (by simp)) hd' hcd') rfl) (dY (dZ (bh (i:=0) rfl (vis "self" (by simp))) (bh (i:=3) rfl (vis c (by simp)) hd'' hcd'') rfl) (gX (dZ (bh (i:=0) rfl (vis "self" (by simp))) (bh (i:=4) rfl (vis d (by simp)) hd3 hcd3) rfl)))),?_⟩
   refine⟨v,rfl,_,rfl,p,C,dx,[],rfl,hp,cl,na,(by show 0<1000;decide),u,rfl,_,rfl,p,C,dx,_,rfl,ax,cl,nb,(by show 1<1000;decide),z,rfl,_,rfl,p,C,dx,_,rfl,ax,cl,nc,?_,y,rfl,_,rfl,p,C,dx,_,rfl,ax,cl,nd,?_,?_⟩
   ·rw[e];show 2<1000;decide
   ·rw[e,e'];show 3<1000;decide
   ·have e2:cC d y [(a,v),(b,u),(c,z)]=[(a,v),(b,u),(c,z),(d,y)]:=by
     show(if a=d then _ else(a,v)::(if b=d then _ else(b,u)::(if c=d then _ else(c,z)::cC d y [])))=_
     rw[if_neg ad,if_neg bd,if_neg cd]
     rfl
    rw[fA,fA,fA,e,e',e2]
    exact q
end
end L2
namespace DN
open PySem PySem.Spec PyProof.Rows L2
def mn(K:Fg)(X:Value):List Value->List (Nat×Bool)->Prop
 |v::vs,(_,b)::ps=>PySem.W.kitOne K v X=some b/\mn K X vs ps
 |_,_=>True
theorem eP{K:Fg}{G:Pg}{cv:Value}{N:Nat}(hC:∀c,c<N->nM K (G.cA c)):∀{l:List (Nat×Bool)} {vs:List Value},mn K cv vs l->vs=l.map (fun p=>pb G p.1)->(∀p∈l,p.1<9\/(10<=p.1/\p.1<N+10))->en K G cv l
 |[],_,_,_,_=>B7
 | (q,b)::l,vs,h,e,d=>by
  subst e
  have r:=eP hC (l:=l) h.2 rfl fun p hp=>d p (List.mem_cons_of_mem _ hp)
  rcases d (q,b) List.mem_cons_self with h9|⟨h10,hn⟩
  ·exact yo h.1 h9 r
  ·obtain⟨c,rfl⟩:∃c,q=c+10:=⟨q-10,by simp at h10;omega⟩
   exact v4 h.1 (hC c (by simp at hn;omega)) r
end DN
end
noncomputable section
namespace L2
open PySem PySem.Spec PyProof.Rows
abbrev mo(h:Heap)(e it:Addr)(i:Int)(f0:Value)(f1:Bool)(f5:Value):Prop :=
 h.get? e=some { cls:= .type "enumerate",dict:=none,data:= .fields #[f0,.bool f1,.ref it,rawInt i,.none,f5],slots:= #[] }
def o6(h:Heap)(e it:Addr)(i:Int):Prop:=∃(f0:Value) (f1:Bool) (f5:Value),(f0= .none\/ ∃a oa,f0=rawInt (a:Nat)/\h.get? a=some oa/\a≠e/\a≠it)/\mo h e it i f0 f1 f5
noncomputable section
variable{prog:Program}{w:World}{A:Around}{E:Value->Shared->Prop}{s:Shared}
theorem k5{e it:Addr}{fp:List Addr}{n i:Nat}{P:Nat->Value->Prop}{St:Nat->Heap->Prop}{Q:Value->Shared->Prop}
  (D:Draws prog w A it fp n P St) (he:o6 s.heap e it i) (hst:St i s.heap) (hlt:i<n) (hne:e≠it) (hef:e∉fp)
  (hQ:∀x h' tk,P i x->o6 h' e it ((i:Int)+1)->St (i+1) h' ->
   h'.get? s.heap.objs.size=some { cls:= .type "tuple",data:= .seq #[.int i tk,x] }->h'.objs.size=s.heap.objs.size+1 ->
   (∀b o,b≠e->b≠it->s.heap.get? b=some o->h'.get? b=some o)->Q (.ref s.heap.objs.size) { s with heap:=h',toks:=tk+1 }) :
  wpAny .(An) A (Builtin.«enumerate.__next__» ⟨[.ref e],[]⟩) (fun fin s'=>∃v,fin= .done (.ret v)/\Q v s') E s:=by
 obtain⟨f0,f1,f5,hf0,he⟩:=he
 obtain⟨hp,g,d,tk₀,os⟩:=s
 show wpAny _ _ (field (.ref e) 2 >>= _) _ _ _
 refine wpAny_bind (wpAny_field he rfl (x:= .ref it) rfl ?_)
 refine wpAny_bind (D.item i _ _ _ hlt hst fun x h₁ tk hPx hit₁ hs₁=> ?_)
 replace hs₁:Heap.SameBut it hp h₁:=hs₁
 have he₁:mo h₁ e it i f0 f1 f5:=(hs₁.2 e hne).trans he
 show wpAny _ _ (field (.ref e) 3 >>= _) _ _ ⟨h₁,g,d,tk,os⟩
 refine wpAny_bind (wpAny_field he₁ rfl (x:=rawInt i) rfl ?_)
 show wpAny _ _ (field (.ref e) 4 >>= _) _ _ ⟨h₁,g,d,tk,os⟩
 refine wpAny_bind (wpAny_field he₁ rfl (x:= .none) rfl ?_)
 show wpAny _ _ (mkInt i >>= _) _ _ ⟨h₁,g,d,tk,os⟩
 refine wpAny_bind (wpAny_mkInt ?_)
 show wpAny _ _ (setField (.ref e) 3 (rawInt ((i:Int)+1)) >>= _) _ _ ⟨h₁,g,d,tk+1,os⟩
 refine wpAny_bind (wpAny_setField_rec he₁ (by simp) fun h₂ he₂ hs₂=> ?_)
 replace hs₂:Heap.SameBut e h₁ h₂:=hs₂
 replace he₂:mo h₂ e it ((i:Int)+1) f0 f1 f5:=he₂
 show wpAny _ _ (setField (.ref e) 4 .none >>= _) _ _ ⟨h₂,g,d,tk+1,os⟩
 refine wpAny_bind (wpAny_setField_rec he₂ (by simp) fun h₃ he₃ hs₃ => ?_)
 replace hs₃ :Heap.SameBut e h₂ h₃ :=hs₃
 replace he₃ :mo h₃ e it ((i:Int)+1) f0 f1 f5:=he₃
 show wpAny _ _ (newTuple [.int i tk,x] >>= _) _ _ ⟨h₃,g,d,tk+1,os⟩
 refine wpAny_bind (wpAny_newTuple ?_)
 have he₄ :mo (h₃.push { cls:= .type "tuple",data:= .seq #[.int i tk,x] }) e it ((i:Int)+1) f0 f1 f5:=Heap.get?_push_of_some _ he₃
 generalize hh₄ :h₃.push { cls:= .type "tuple",data:= .seq #[.int i tk,x] }=h₄ at he₄
 have hsz:h₃.objs.size=hp.objs.size:=by rw[hs₃.1,hs₂.1,hs₁.1]
 have hel:e<hp.objs.size:=Heap.lt_size he
 have hil:it<hp.objs.size:=by obtain⟨_,y⟩:=D.live _ _ hst;exact Heap.lt_size y
 have ht₄ :h₄.get? hp.objs.size=some { cls:= .type "tuple",data:= .seq #[.int i tk,x] }:=by rw[<-hh₄,<-hsz];exact Heap.get?_push_size _ rfl
 have hz₄ :h₄.objs.size=hp.objs.size+1:=by rw[<-hh₄,Heap.size_push,hsz]
 have hk₄ :∀b o,b≠e->b≠it->hp.get? b=some o->h₄.get? b=some o:=fun b o hbe hbi hb=>by
  rw[<-hh₄];exact Heap.get?_push_of_some _ (hs₃.extBut b o hbe (hs₂.extBut b o hbe (hs₁.extBut b o hbi hb)))
 have hit₄ :St (i+1) h₄ :=D.frame _ _ _ hit₁ fun b hb o y=>by
  have hbe:b≠e:=fun q=>hef (q ▸ hb)
  rw[<-hh₄];exact Heap.get?_push_of_some _ (hs₃.extBut b o hbe (hs₂.extBut b o hbe y))
 have fin:∀h₅ :Heap,o6 h₅ e it ((i:Int)+1)->Heap.SameBut e h₄ h₅ ->Q (.ref hp.objs.size) ⟨h₅,g,d,tk+1,os⟩:=fun h₅ he₅ hs₅ =>
  hQ x h₅ tk hPx he₅ (D.frame _ _ _ hit₄ fun b hb o y=>hs₅.extBut b o (fun q=>hef (q ▸ hb)) y) (hs₅.extBut _ _ (Nat.ne_of_gt hel) ht₄) (by show h₅.objs.size=_;rw[hs₅.1,hz₄]) fun b o hbe hbi hb=>hs₅.extBut b o hbe (hk₄ b o hbe hbi hb)
 show wpAny _ _ (Builtin.SmallTypes.ownedTupleIsFree (.ref e) >>= _) _ _ ⟨h₄,g,d,tk+1,os⟩
 rw[hsz]
 clear hh₄ he₃ hs₃ he₂ hs₂ he₁ hs₁ hit₁ hsz h₃ h₂ h₁
 refine wpAny_bind ?_
 unfold Builtin.SmallTypes.ownedTupleIsFree
 refine wpAny_bind (wpAny_field he₄ rfl (x:=f0) rfl ?_)
 rcases hf0 with rfl|⟨a,oa,rfl,ha,hae,hai⟩
 ·refine wpAny_pure ?_
  simp only[if_true]
  refine wpAny_bind (wpAny_rule ?_)
  refine wpAny_bind (wpAny_field he₄ rfl (x:=f5) rfl ?_)
  refine wpAny_bind (wpAny_setField_rec he₄ (by simp) fun h₅ he₅ hs₅ => ?_)
  replace hs₅ :Heap.SameBut e h₄ h₅ :=hs₅
  replace he₅ :mo h₅ e it ((i:Int)+1) .none f1 x:=he₅
  show wpAny _ _ (Builtin.SmallTypes.ownedTupleHandOut (.ref e) (.ref hp.objs.size) >>= _) _ _ ⟨h₅,g,d,tk+1,os⟩
  refine wpAny_bind ?_
  unfold Builtin.SmallTypes.ownedTupleHandOut
  refine wpAny_bind (wpAny_setField_rec he₅ (by simp) fun h₆ he₆ hs₆ => ?_)
  replace hs₆ :Heap.SameBut e h₅ h₆ :=hs₆
  replace he₆ :mo h₆ e it ((i:Int)+1) (rawInt hp.objs.size) f1 x:=he₆
  refine wpAny_setField_rec he₆ (by simp) fun h₇ he₇ hs₇ => ?_
  replace hs₇ :Heap.SameBut e h₆ h₇ :=hs₇
  replace he₇ :mo h₇ e it ((i:Int)+1) (rawInt hp.objs.size) false x:=he₇
  have hs:Heap.SameBut e h₄ h₇ :=(hs₅.trans hs₆).trans hs₇
  refine wpAny_bind (wpAny_letGo (wpAny_pure ⟨_,rfl,fin h₇ ⟨_,_,_,.inr ⟨hp.objs.size,_,rfl,hs.extBut _ _ (Nat.ne_of_gt hel) ht₄,Nat.ne_of_gt hel,Nat.ne_of_gt hil⟩,he₇⟩ hs⟩))
 ·have ha₄ :h₄.get? a=some oa:=hk₄ a oa hae hai ha
  show wpAny _ _ (loadIfAlive ((a:Int).toNat) >>= _) _ _ _
  rw[Int.toNat_natCast]
  refine wpAny_bind (PySem.W.kdx_alive ha₄ ?_)
  simp only[Option.isNone_some,Bool.false_eq_true,if_false]
  refine wpAny_bind (wpAny_field he₄ rfl (x:= .bool f1) rfl ?_)
  cases f1 with
  |true =>
   rw[if_neg (show ¬((Value.bool true != Value.bool true)=true) from Bool.false_ne_true)]
   refine wpAny_pure ?_
   simp only[Bool.false_eq_true,if_false]
   exact wpAny_pure ⟨_,rfl,fin h₄ ⟨_,_,_,.inr ⟨a,oa,rfl,ha₄,hae,hai⟩,he₄⟩ (Heap.SameBut.refl _ _)⟩
  |false =>
   rw[if_pos (show(Value.bool false != Value.bool true)=true from rfl)]
   refine wpAny_bind (wpAny_setField_rec he₄ (by simp) fun h₅ he₅ hs₅ => ?_)
   replace hs₅ :Heap.SameBut e h₄ h₅ :=hs₅
   replace he₅ :mo h₅ e it ((i:Int)+1) (rawInt a) true f5:=he₅
   refine wpAny_pure ?_
   simp only[Bool.false_eq_true,if_false]
   exact wpAny_pure ⟨_,rfl,fin h₅ ⟨_,_,_,.inr ⟨a,oa,rfl,hs₅.extBut a oa hae ha₄,hae,hai⟩,he₅⟩ hs₅⟩
theorem sr{e it:Addr}{fp:List Addr}{n i:Nat}{P:Nat->Value->Prop}{St:Nat->Heap->Prop}{Q:Option Value->Shared->Prop}
  (D:Draws prog w A.in1 it fp n P St) (he:o6 s.heap e it i) (hst:St i s.heap) (hlt:i<n) (hne:e≠it) (hef:e∉fp)
  (hQ:∀x h' tk,P i x->o6 h' e it ((i:Int)+1)->St (i+1) h' ->
   h'.get? s.heap.objs.size=some { cls:= .type "tuple",data:= .seq #[.int i tk,x] }->h'.objs.size=s.heap.objs.size+1 ->
   (∀b o,b≠e->b≠it->s.heap.get? b=some o->h'.get? b=some o)->Q (some (.ref s.heap.objs.size)) { s with heap:=h',toks:=tk+1 }) :
  wpAny .(An) A (pyNext (.ref e)) Q E s:=by
 have hT:s.TypeIs (.ref e) "enumerate":=let ⟨_,_,_,_,h⟩:=he;⟨_,h,rfl⟩
 unfold pyNext
 exact wpAny_bind (wpAny_attempt (wpAny_callSpecial?_slot (name:=Str.ofString "__next__") hT PySem.F.slot_enumerate_next
  (wpAny_call_entry PySem.F.slot_enumerate_next hT PySem.F.entry_enumerate_next
   (k5 D he hst hlt hne hef fun x h' tk a b c d k q=>wpAny_pure (hQ x h' tk a b c d k q)) (PySem.F.args_enumerate_next_1 _))))
theorem su{e it:Addr}{fp:List Addr}{n:Nat}{P:Nat->Value->Prop}{St:Nat->Heap->Prop}{i:Int}{Q:Option Value->Shared->Prop}
  (D:Draws prog w A.in1 it fp n P St) (he:o6 s.heap e it i) (hst:St n s.heap)
  (hQ:∀h',Heap.ExtBut it s.heap h'->Q none { s with heap:=h' }):wpAny .(An) A (pyNext (.ref e)) Q E s:=by
 obtain⟨f0,f1,f5,hf0,he⟩:=he
 have hT:s.TypeIs (.ref e) "enumerate":=⟨_,he,rfl⟩
 unfold pyNext
 refine wpAny_bind (wpAny_attempt (wpAny_callSpecial?_slot (name:=Str.ofString "__next__") hT PySem.F.slot_enumerate_next
  (wpAny_call_entry PySem.F.slot_enumerate_next hT PySem.F.entry_enumerate_next ?_ (PySem.F.args_enumerate_next_1 _))))
 show wpAny _ _ (field (.ref e) 2 >>= _) _ _ _
 refine wpAny_bind (wpAny_field he rfl (x:= .ref it) rfl ?_)
 refine wpAny_bind (D.done _ _ _ hst fun h' x he' hx'=> ?_)
 obtain⟨o,ho,hc⟩:=hx'
 refine wpAny_bind (wpAny_isInstance (T:="StopIteration") (b:=true) ⟨o,ho,hc⟩ isSubtype_stop ?_)
 exact wpAny_pure (hQ _ he')
end
theorem dw:entryFor table "dict.update.loop"=some Builtin.«dict.update.loop» :=entryFor_of_tree (by kernel_rfl)
theorem bH:plainId "dict.update.loop"=true:=by decide +kernel
noncomputable def oe{K:Type}(key:Nat->K):Nat->List Value->List (K×Value)
 |_,[]=>[]
 |j,v::vs=>(key j,v)::oe key (j+1) vs
theorem og{K:Type}(key:Nat->K)(v:Value):∀(vs:List Value) (j:Nat),oe key j (vs++[v])=oe key j vs++[(key (j+vs.length),v)]
 |[],j=>rfl
 |u::vs,j=>by
  show(key j,u)::oe key (j+1) (vs++[v])=_
  rw[og key v vs (j+1),List.length_cons,show j+1+vs.length=j+(vs.length+1)by omega]
  rfl
theorem qE{K:Type}(key:Nat->K):∀(vs:List Value) (j:Nat),(oe key j vs).length=vs.length
 |[],j=>rfl
 |u::vs,j=>by show(oe key (j+1) vs).length+1=_;rw[qE key vs (j+1)];rfl
theorem qF{K:Type}[DecidableEq K]{key:Nat->K}(inj:∀i j,key i=key j->i=j){m:Nat}:∀(vs:List Value) (j:Nat),j+vs.length<=m->(oe key j vs).any (fun kv=>decide (kv.1=key m))=false
 |[],j,h=>rfl
 |u::vs,j,h=>by
  rw[List.length_cons]at h
  show(decide (key j=key m) || (oe key (j+1) vs).any _)=false
  rw[qF inj vs (j+1) (by omega),Bool.or_false,decide_eq_false_iff_not]
  intro z
  have:=inj _ _ z
  omega
noncomputable section
variable{prog:Program}{w:World}{A:Around}{s:Shared}{K:Type}[DecidableEq K]{knd:KeyKind prog w K}{key:Nat->K}
theorem sv{d e it l:Addr}{items:Array Value}(hkey:∀i t,knd.is (key i) (.int (i:Nat) t)=true)(inj:∀i j,key i=key j->i=j)(hh:A.handled=none)(hne:e≠it)(hli:l≠it)(hle:l≠e)(hde:d≠e)(hdi:d≠it)(hdl:d≠l)(hz:items.size<=sizeLine)(res:Value){R:Result->Shared->Prop} :
  ∀(k i:Nat) (s:Shared),items.size-i=k->i<=items.size->o6 s.heap e it i->s.heap.IsListIter it l i->s.heap.IsList l items->s.heap.DictOf knd d (oe key 0 (items.toList.take i)) ->
   (∀h' tk,(∀b o,b≠d->b≠e->b≠it->s.heap.get? b=some o->h'.get? b=some o)->h'.DictOf knd d (oe key 0 items.toList)->R (.ok (.ret res)) { s with heap:=h',toks:=tk }) ->
   codeAny .(An) A (.builtin "dict.update.loop" ⟨[.ref d,.ref e,rawInt i,res],[]⟩) R s:=by
 have hef:e∉[it,l]:=by simp[hne,Ne.symm hle]
 intro k
 induction k with
 |zero =>
  intro i s hk hi he hit hl hm hR
  have hin:i=items.size:=by omega
  subst hin
  refine codeAny_builtin dw ?_
  rw[Around.under_plainId bH _]
  show wpAny _ A.in1 (pyNext (.ref e) >>= _) _ _ s
  refine wpAny_bind (su (Draws.list (by simp[hh]) it l hli items) he ⟨hit,hl⟩ fun h' eb=> ?_)
  show wpAny _ A.in1 (Builtin.Dict.addKeywords d [] >>= _) _ _ _
  refine wpAny_bind (wpAny_pure ?_)
  refine wpAny_pure (hR h' s.toks (fun b o _ _ hb q=>eb b o hb q) ?_)
  have hm2:=hm.extBut eb hdi
  rwa [List.take_of_length_le (by simp)]at hm2
 |succ k ih =>
  intro i s hk hi he hit hl hm hR
  have hlt:i<items.size:=by omega
  refine codeAny_builtin dw ?_
  rw[Around.under_plainId bH _]
  show wpAny _ A.in1 (pyNext (.ref e) >>= _) _ _ s
  refine wpAny_bind (sr (Draws.list (by simp[hh]) it l hli items) he ⟨hit,hl⟩ hlt hne hef fun x h' tk hP he' st' hT hsz kk=> ?_)
  have hm':h'.DictOf knd d (oe key 0 (items.toList.take i)):=by
   obtain⟨o,es,ep,ho,r⟩:=hm
   exact⟨o,es,ep,kk d o hde hdi ho,r⟩
  show wpAny _ A.in1 (holding [Value.ref s.heap.objs.size] _ >>= _) _ _ _
  refine wpAny_bind (wpAny_holding ?_)
  refine wpAny_bind (wpAny_tryCatch ?_)
  unfold Builtin.Dict.pairItems
  refine wpAny_bind (wpAny_typeOf (T:="tuple") ⟨_,hT,rfl⟩ ?_)
  rw[if_pos (by decide)]
  refine wpAny_bind (wpAny_seqItems hT rfl ?_)
  refine wpAny_pure ?_
  show wpAny _ _ (holding [Value.int i tk,x] (dictSet d (.int i tk) x)) _ _ _
  have hlen:(oe key 0 (items.toList.take i)).length=i:=by rw[qE];simp;omega
  refine wpAny_holding (wpAny_dictSet_pairs (s:={ s with heap:=h',toks:=tk+1 }) (knd:=knd) (k:=key i) (hkey i tk) hm' (fun h2 dd hs=> ?_) (by rw[hlen];omega))
  have hi2:items.toList.take (i+1)=items.toList.take i++[x]:=by
   have e1:items.toList[i]? =some x:=by rw[Array.getElem?_toList];exact hP
   rw[List.take_add_one,e1];rfl
  have hst:stored (oe key 0 (items.toList.take i)) (key i) x=oe key 0 (items.toList.take (i+1)):=by
   unfold stored
   rw[if_neg (by rw[qF inj _ _ (by simp;omega)];simp),hi2,og]
   have:0+(items.toList.take i).length=i:=by simp;omega
   rw[this]
  rw[hst]at dd
  have hdsz:d<s.heap.objs.size:=by obtain⟨o,es,ep,ho,r⟩:=hm;exact Heap.lt_size ho
  have hel:e<s.heap.objs.size:=let ⟨_,_,_,_,q⟩:=he;Heap.lt_size q
  have e2:o6 h2 e it ((i+1:Nat):Int):=by
   obtain⟨f0,f1,f5,hf0,hE⟩:=he'
   refine⟨f0,f1,f5,?_,?_⟩
   ·rcases hf0 with rfl|⟨a,oa,rfl,ha,hae,hai⟩
    ·exact .inl rfl
    ·by_cases had:a=d
     ·subst had
      obtain⟨o2,_,_,ho2,_⟩:=dd
      exact .inr ⟨a,o2,rfl,ho2,hae,hai⟩
     ·exact .inr ⟨a,oa,rfl,(hs.2 a had).trans ha,hae,hai⟩
   ·have:((i+1:Nat):Int)=(i:Int)+1:=by omega
    rw[this]
    exact(hs.2 e (Ne.symm hde)).trans hE
  show wpAny _ A.in1 (again (.builtin "dict.update.loop" ⟨[.ref d,.ref e,rawInt ((i:Int)+1),res],[]⟩)) _ _ _
  have ei:rawInt ((i:Int)+1)=rawInt ((i+1:Nat):Int):=by rw[show((i+1:Nat):Int)=(i:Int)+1 by omega]
  rw[ei]
  refine wpAny_pure ⟨plainId_quiet bH _,ih (i+1) _ (by omega) hlt e2 (st'.1.at fun o q=>(hs.2 it (Ne.symm hdi)).trans q) (st'.2.at fun o q=>(hs.2 l (Ne.symm hdl)).trans q) dd fun h3 tk3 k3 dd3=> ?_⟩
  exact hR h3 tk3 (fun b o hb1 hb2 hb3 q=>k3 b o hb1 hb2 hb3 ((hs.2 b hb1).trans (kk b o hb2 hb3 q))) dd3
end
end L2
namespace PySem
open Sem (wp)
theorem kF:entryFor table "enumerate.__getattribute__"=some Builtin.«object.__getattribute__» :=
 entryFor_alias (id':="object.__getattribute__") (by kernel_rfl) (by first|rfl|decide +kernel) (by decide +kernel) (by kernel_rfl)
theorem mq:typeLookup (.type "enumerate") "keys"=pure none:=by rw[typeLookup_type,builtinLookup_eq_fast];kernel_rfl
theorem jr:typeLookup (.type "enumerate") "__getattr__"=pure none:=by rw[typeLookup_type,builtinLookup_eq_fast];kernel_rfl
noncomputable section
variable{prog:Program}{w:World}{A:Around}{E:Value->Shared->Prop}{h:Heap}{g:Array GenState}{d:Drawn}{t:Nat}{os:OsState}{a:Addr}{vs:Array Value}
theorem kG{tk:Tok}{Q:Fin->Shared->Prop}(hx:h.get? a=some { cls:= .type "enumerate",dict:=none,data:= .fields vs,slots:= #[] })(hA:A.handled=none)(hE:∀h' tk' e,Heap.NewAttrErr h h' e (.ref a) "keys"->E (.ref e) ⟨h',g,d,tk',os⟩) :
  wpAny .(An) A (Builtin.«object.__getattribute__» ⟨[.ref a,.str "keys" tk],[]⟩) Q E ⟨h,g,d,t,os⟩:=by
 have hT:(⟨h,g,d,t,os⟩:Shared).TypeIs (.ref a) "enumerate":=⟨_,hx,rfl⟩
 have f4:=mq
 unfold Builtin.«object.__getattribute__»
 repeat (any_goals (first|assumption|wp_step))
 exact wpAny_raiseAttrError hA hE (attrMsg_fits .(Y) (by size_fits))
theorem mr{tk:Tok}{R:Result->Shared->Prop}(hx:h.get? a=some { cls:= .type "enumerate",dict:=none,data:= .fields vs,slots:= #[] })(hA:A.handled=none)(hE:∀h' tk' e,Heap.NewAttrErr h h' e (.ref a) "keys"->R (.error (.ref e)) ⟨h',g,d,tk',os⟩) :
  codeAny .(An) A (.call (.builtin "enumerate.__getattribute__") ⟨[.ref a,.str "keys" tk],[]⟩) R ⟨h,g,d,t,os⟩ :=
 codeAny_call_builtin F.slot_enumerate_getattribute.plain kF (F.slot_enumerate_getattribute.check _ _ _ _ _ _ _ _ (show(⟨h,g,d,t,os⟩:Shared).TypeIs (.ref a) "enumerate" from⟨_,hx,rfl⟩) (F.args_enumerate_getattribute_2 _ _) (kG hx (by simp[hA]) hE))
theorem sw{Q:Option Value->Shared->Prop}(hx:h.get? a=some { cls:= .type "enumerate",dict:=none,data:= .fields vs,slots:= #[] })(hA:A.handled=none)(hQ:∀h' tk',(∀b ob,h.get? b=some ob->h'.get? b=some ob)->Q none ⟨h',g,d,tk',os⟩) :
  wpAny .(An) A (getAttr? (.ref a) "keys") Q E ⟨h,g,d,t,os⟩:=by
 have hT:(⟨h,g,d,t,os⟩:Shared).TypeIs (.ref a) "enumerate":=⟨_,hx,rfl⟩
 have hT2:(⟨h,g,d,t+1,os⟩:Shared).TypeIs (.ref a) "enumerate":=⟨_,hx,rfl⟩
 have f1:=sub_AttributeError
 have f2:=F.slot_enumerate_getattribute.lookup
 have f3:=F.slot_enumerate_getattribute.bind (.ref a)
 have f5:=jr
 unfold getAttr? getAttrBy? getAttrBy
 repeat (any_goals (first|assumption|wp_step))
 refine mr hx (by simp[hA]) fun h' tk' e hx'=> ?_
 obtain⟨t',u',he⟩:=hx'.there
 repeat (any_goals (first|assumption|wp_step))
 exact hQ _ _ hx'.keeps
end
end PySem
namespace L2
open PySem PySem.Spec PyProof.Rows
noncomputable section
variable{prog:Program}{w:World}{A:Around}{E:Value->Shared->Prop}{s:Shared}{K:Type}[DecidableEq K]{knd:KeyKind prog w K}{key:Nat->K}
theorem k6{e it l:Addr}{items:Array Value}{old:Value}{Q:Value->Shared->Prop}(hkey:∀i t,knd.is (key i) (.int (i:Nat) t)=true)(inj:∀i j,key i=key j->i=j)(hh:A.handled=none)
  (he:IsEnum s.heap e it 0 old) (hit:s.heap.IsListIter it l 0) (hl:s.heap.IsList l items) (hne:e≠it) (hli:l≠it) (hle:l≠e) (hz:items.size<=sizeLine)
  (h:∀h' tk,h'.DictOf knd s.heap.objs.size (oe key 0 items.toList)->(∀b o,b≠e->b≠it->s.heap.get? b=some o->h'.get? b=some o)->Q (.ref s.heap.objs.size) { s with heap:=h',toks:=tk }) :
  wpAny .(An) A (call (.type "dict") [.ref e]) Q E s:=by
 refine callType_codes (Q₁:=fun obj s₁=>obj= .ref s.heap.objs.size/\s₁={ s with heap:=s.heap.push { cls:= .type "dict",data:= .dict #[] } }) PySem.F.kt_called_dict (PySem.F.kt_typeCall_dict_1 _) PySem.F.entry_dict_init (kt_code_dict_new _ ⟨rfl,rfl⟩) ?_
 rintro obj s₁ ⟨rfl,rfl⟩
 have hnew:(s.heap.push { cls:= .type "dict",data:= .dict #[] }).DictOf knd s.heap.objs.size []:=Heap.DictOf.new s.heap
 have hT:Shared.TypeIs { s with heap:=s.heap.push { cls:= .type "dict",data:= .dict #[] } } (.ref e) "enumerate":=⟨_,Heap.get?_push_of_some _ he,rfl⟩
 refine⟨hnew.typeIs,PySem.F.args_dict_init_2 _ _,?_⟩
 unfold Builtin.«dict.__init__»
 refine wpAny_bind ?_
 unfold Builtin.Dict.selfAndRest
 refine wpAny_bind (wpAny_notOrdered_dict hnew.typeIs ?_)
 show wpAny _ _ (pure (s.heap.objs.size,[Value.ref e])) _ _ _
 refine wpAny_pure ?_
 show wpAny _ _ (Builtin.Dict.updateFrom "dict.__init__" s.heap.objs.size (.ref e) [] .none) _ _ _
 unfold Builtin.Dict.updateFrom
 refine wpAny_bind (wpAny_typeOf hT ?_)
 rw[if_pos (by decide)]
 obtain⟨hp,g,dr,tk,os⟩:=s
 refine wpAny_bind (sw (Heap.get?_push_of_some _ he) (by simp[hh]) fun h1 tk1 k1=> ?_)
 simp only[Option.isNone_none,if_true]
 refine wpAny_bind (wpAny_rule ?_)
 have k0:∀b ob,hp.get? b=some ob->h1.get? b=some ob:=fun b ob q=>k1 b ob (Heap.get?_push_of_some _ q)
 have he1:IsEnum h1 e it 0 old:=k0 _ _ he
 refine wpAny_bind (wpAny_pyIter_enum (s:=⟨h1,g,dr,tk1,os⟩) he1 ?_)
 refine wpAny_pure ⟨plainId_quiet bH _,?_⟩
 have hel:e<hp.objs.size:=Heap.lt_size he
 have hil:it<hp.objs.size:=let ⟨o,ho,_⟩:=hit;Heap.lt_size ho
 have hll:l<hp.objs.size:=let ⟨o,ho,_⟩:=hl;Heap.lt_size ho
 have hd1:h1.DictOf knd hp.objs.size (oe key 0 (items.toList.take 0)):=by
  obtain⟨o,es,ep,ho,r⟩:=hnew
  exact⟨o,es,ep,k1 _ _ ho,r⟩
 refine sv hkey inj (by simp[hh]) hne hli hle (Nat.ne_of_gt hel) (Nat.ne_of_gt hil) (Nat.ne_of_gt hll) hz .none items.size 0 ⟨h1,g,dr,tk1,os⟩ (Nat.sub_zero _) (Nat.zero_le _) ⟨.none,false,old,.inl rfl,he1⟩ (hit.at fun o q=>k0 _ _ q) (hl.at fun o q=>k0 _ _ q) hd1 fun h' tk' k' dd=> ?_
 exact⟨rfl,h h' tk' dd fun b o hb1 hb2 q=>k' b o (Nat.ne_of_lt (Heap.lt_size q)) hb1 hb2 (k0 b o q)⟩
end
end L2
end
noncomputable section
namespace L2
open PySem PySem.Spec PyProof.Rows
structure M0(X:Cx)(o:Expr)(m:Str)(apos cpos:Pos):Prop where
 base:attributeBase o m X.env (eval o X.env)=eval o X.env
 line:(apos.endLine == cpos.line)=true
theorem Fl{P:Program}{w:World}{k:Key}{u:Value}(h:(bu P w).is k u=true):aR (kV k) u:=by
 rcases bI h with⟨i,t,rfl,rfl⟩|⟨x,t,rfl,rfl⟩
 ·exact⟨t,rfl⟩
 ·exact⟨t,rfl⟩
def KA(a:Addr)(kvs:List (Key×V))(ep:Nat):It:=⟨fun i H=>i<kvs.length/\H a=some (.dK kvs ep),fun i H v H'=>∃p k x,H p=none/\v= .ref p/\kvs[i]? =some (k,x)/\H'=upd H p (.tup [kV k,x]),fun i H=>i=kvs.length/\H a=some (.dK kvs ep)⟩
theorem Paired.get{α β :Type}{F: α -> β ->Prop}:∀{l:List α} {m:List β},Paired F l m->∀{i:Nat} {x: α},l[i]? =some x->∃y,m[i]? =some y/\F x y
 |_,_,.nil,i,x,h=>by simp at h
 |_,_,.cons r t,0,x,h=>by simp at h;subst h;exact⟨_,rfl,r⟩
 |_,_,.cons r t,i+1,x,h=>by simp at h;obtain⟨y,e,f⟩:=Paired.get t h;exact⟨y,by simpa using e,f⟩
theorem pB{P:Program}{w:World}{K:Fg}{elts:List Expr}{x1}{tpos:Pos}{kvs:List (Key×V)}{ep:Nat}(a it:Addr) :
  u7 P w K (.Tuple elts x1 tpos) (KA a kvs ep) [it] it (fun i h=>∃ok ov,IsItemIter h it a i kvs.length ep ok ov) where
 mem:=by simp
 obj:=fun i h ⟨ok,ov,st⟩ b hb=>by
  cases List.mem_singleton.mp hb
  exact⟨_,st,fun v z=>by
   have z':Data.fields _=Data.cell v:=z
   cases z'⟩
 keep:=fun i h h' ⟨ok,ov,st⟩ k=>⟨ok,ov,k it (by simp) _ st⟩
 item:=by
  intro X hP hw hK hc i pins s σ H E I hf st hg
  subst hP hw hK
  obtain⟨ok,ov,hit⟩:=st
  have fi:=hf it (by simp)
  obtain⟨hi,hH⟩:=hg
  obtain⟨_,_,vs,rel,hm⟩:=(show bJ X.prog X.w H s.heap a (.dK kvs ep) from I.hok a _ hH)
  obtain⟨⟨k,x⟩,hx⟩:∃p,kvs[i]? =some p:=⟨kvs[i],by simp[hi]⟩
  obtain⟨⟨k',xv⟩,hy,hk,rx⟩:=Paired.get rel hx
  cases (show k=k' from hk)
  have hlen:kvs.length=vs.length:=rel.length
  have hit':IsItemIter s.heap it a i vs.length ep ok ov:=by rw[<-hlen];exact hit
  refine wpAny_pyNext_items_item hit' hm hy fun key h' hkey ho hT hsz hk2=> ?_
  refine⟨_,rfl,wpAny_letOwnedTupleGo_items (s:={ s with heap:=h' }) ho fun h2 hit2 hs2=> ?_⟩
  have hil:it<s.heap.objs.size:=Heap.lt_size hit
  have hfr:H s.heap.objs.size=none:=I.hok.fresh .(Ao)
  have k2:∀b o,b≠it->b≠it->s.heap.get? b=some o->h2.get? b=some o:=fun b o hbi _ q=>(hs2.2 b hbi).trans (hk2 b o hbi q)
  have hT2:h2.get? s.heap.objs.size=some { cls:= .type "tuple",data:= .seq #[key,xv] }:=(hs2.2 _ (Nat.ne_of_gt hil)).trans hT
  have I2:aA X pins σ (upd H s.heap.objs.size (.tup [kV k,x])) { s with heap:=h2 } :=
   I.turned2 (t':=s.toks) k2 fi fi .(Ao) ⟨by show 2<=sizeLine;decide,[key,xv],.cons (Fl hkey) (.cons rx .nil),⟨_,hT2,rfl,_,rfl⟩⟩
  refine⟨.ref s.heap.objs.size,upd H s.heap.objs.size (.tup [kV k,x]),I2,rfl,⟨_,k,x,hfr,rfl,hx,rfl⟩,⟨_,_,by rw[hlen];exact hit2⟩,fun b hb=> ?_⟩
  cases List.mem_singleton.mp hb
  rw[aw (Nat.ne_of_lt hil)];exact fi.1
 done:=by
  intro X hP hw hK hc i pins s σ H E I hf st hg
  subst hP hw hK
  obtain⟨ok,ov,hit⟩:=st
  obtain⟨hi,hH⟩:=hg
  obtain⟨_,_,vs,rel,hm⟩:=(show bJ X.prog X.w H s.heap a (.dK kvs ep) from I.hok a _ hH)
  have hlen:kvs.length=vs.length:=rel.length
  obtain⟨f0,f1,f2,f3,f4,f5⟩:=hf it (by simp)
  refine wpAny_pyNext_items_end (I.ok.hd hc) (by rw[<-hlen];exact hit) hm (by rw[hi,hlen];simp) fun h' eb=>⟨rfl,I.turned (t':=s.toks) (fun b o hb e=>eb b o hb e) f0 f1 f3 f4 f5⟩
 self:=fun _ _ _ _ _ ⟨ok,ov,hit⟩ h=>PySem.W.kcp_self hit h
def By(td:TE):TI:=fun σ H R=>td σ H fun x H1=>∃a kvs ep,x= .ref a/\H1 a=some (.dK kvs ep)/\R (KA a kvs ep) H1
theorem vz{X:Cx}{elts:List Expr}{x1}{tpos apos cpos:Pos}{o:Expr}{td:TE}(ho:PE X o td)(m:M0 X o "items" apos cpos) :
  PI X (.Tuple elts x1 tpos) (.Call (.Attribute o "items" apos) [] [] cpos) (By td):=by
 intro pins s σ H R I h
 refine wpAny_Call_method0_late m.base m.line (bC (ho pins s σ H _ I h) fun u s1 ⟨x,H1,I1,rx,a,kvs,ep,ex,hH,q1⟩=> ?_)
 subst ex
 obtain rfl:u=Value.ref a:=rx
 obtain⟨z,hd,vs,rel,hm⟩:=(show bJ X.prog X.w H1 s1.heap a (.dK kvs ep) from I1.hok a _ hH)
 obtain⟨t1,t2,_⟩:=uC I1 (.inl ⟨kvs,ep,.inl hH⟩)
 refine⟨"dict","dict.items",PySem.F.plainAttrs_dict,PySem.F.slot_dict_items,PySem.F.type_dict_items,t1,t2,Calls.callWith_builtin rfl (PySem.evalArgs_none ?_)⟩
 refine call_meetsIn PySem.F.slot_dict_items t1 PySem.F.entry_dict_items (PySem.F.args_dict_items_1 _) (meets_dict_items (bu X.prog X.w) a hd) ⟨⟨vs,hm.dictOf⟩,?_⟩
 have hlen:kvs.length=vs.length:=rel.length
 refine wpAny_pyIter_items (s:={ s1 with heap:=s1.heap.push { cls:= .type "dict_items",data:= .fields #[.ref a] } }) (d:=a) ⟨_,Heap.get?_push_size _ rfl,rfl,rfl⟩ (hm.push _) ?_
 rw[<-hlen]
 have hz:(s1.heap.push { cls:= .type "dict_items",data:= .fields #[.ref a] }).objs.size=s1.heap.objs.size+1:=Heap.size_push ..
 show GX X pins σ _ R _ _
 rw[hz]
 refine⟨s1.heap.objs.size+1,[s1.heap.objs.size+1],_,_,H1,rfl,I1.kept (t':=s1.toks) (fun b u q=>Heap.get?_push_of_some _ (Heap.get?_push_of_some _ q)),pB a _,⟨.none,.none,by rw[<-hz];exact Heap.get?_push_size _ rfl⟩,fun b hb=> ?_,q1⟩
 cases List.mem_singleton.mp hb
 exact I1.fpOk (Nat.le_succ _) (I1.hok.fresh (Nat.le_succ _))
end L2
namespace DN
open PySem PySem.Spec PyProof.Rows L2
noncomputable def nK:Nat->Nat->List Key
 |_,0=>[]
 |j,n+1=> .inl (j:Int)::nK (j+1) n
theorem mv:∀(n j:Nat),(nK j n).length=n
 |0,j=>rfl
 |n+1,j=>by show(nK (j+1) n).length+1=_;rw[mv n (j+1)]
end DN
namespace L2
open PySem PySem.Spec PyProof.Rows DN
theorem qG:∀{xs:List V} {its:List Value} (j:Nat),aM xs its->KV ((nK j xs.length).zip xs) (oe (fun i=>(Sum.inl (i:Int):Key)) j its)
 |_,_,j,.nil=> .nil
 |_,_,j,.cons r t=> .cons ⟨rfl,r⟩ (qG (j+1) t)
def L3(K:Fg)(ta:TA):TE:=fun σ H Q=>ta σ H fun vs H1=>∃l xs,vs=[.ref l]/\eI K H1 l xs/\ ∀d ep,H1 d=none->Q (.ref d) (upd H1 d (.dK ((nK 0 xs.length).zip xs) ep))
theorem oh{X:Cx}{a:Expr}{ta:TA}{p p2 pos pos2:Pos}(hc:X.calm=true)(hgd:Gl X "dict")(hmd:X.mg "dict"=none)(hg:Gl X "enumerate")(hm:X.mg "enumerate"=none)(ha:PA X [a] ta)(hs:starEach [a] X.env=[(false,eval a X.env)]:=by rfl)
  (hs2:starEach [.Call (.Name "enumerate" p2) [a] [] pos2] X.env=[(false,eval (.Call (.Name "enumerate" p2) [a] [] pos2) X.env)]:=by rfl) :
  PE X (.Call (.Name "dict" p) [.Call (.Name "enumerate" p2) [a] [] pos2] [] pos) (L3 X.K ta):=by
 intro pins s σ H Q I h
 refine Call_ (iG I hgd hmd boot_dict (PyProof.Rows.callWith_type1 ?_ hs2 rfl))
 rw[hs2]
 refine Calls.spliced_cons (Call_ (iG I hg hm boot_enumerate (PyProof.Rows.callWith_type1 (bC (ha pos2 pins s σ H _ I h) fun us s1 ⟨vs,H1,I1,r1,q1⟩=> ?_) hs rfl)))
 obtain⟨l,xs,e,hq,q⟩:=q1
 subst e
 obtain⟨u,rfl,ru⟩:=r1.one
 obtain rfl:u=Value.ref l:=ru
 obtain⟨its,rv,pl,hz⟩:=I1.list hq
 refine call_enumerate_list pl.isList fun h' he st hsz kk=>Calls.spliced_nil ?_
 have hll:l<s1.heap.objs.size:=let ⟨o,ho,_⟩:=pl.isList;Heap.lt_size ho
 have hlen:xs.length=its.length:=rv.length
 refine k6 (s:={ s1 with heap:=h' }) (knd:=bu X.prog X.w) (key:=fun i=>(Sum.inl (i:Int):Key)) (fun i t=>j4 _ _ _ _) (fun i j z=>by injection z with z;omega) (I1.ok.hd hc) he st (pl.isList.at fun o q=>kk _ _ q) (Nat.succ_ne_self _) (Nat.ne_of_lt hll) (Nat.ne_of_lt (Nat.lt_succ_of_lt hll)) (by simpa[<-hlen]using hz) fun h2 tk dd k2=> ?_
 have kall:∀b o,s1.heap.get? b=some o->h2.get? b=some o:=fun b o z=>k2 b o (Nat.ne_of_lt (Nat.lt_succ_of_lt (Heap.lt_size z))) (Nat.ne_of_lt (Heap.lt_size z)) (kk b o z)
 obtain⟨ep,d2⟩:=dd.dictAt
 have hfr:H1 h'.objs.size=none:=I1.hok.fresh (by rw[hsz];omega)
 refine⟨.ref h'.objs.size,_,I1.laid (a:=h'.objs.size) (o:= .dK ((nK 0 xs.length).zip xs) ep) (t':=tk) kall (by rw[hsz];omega) ⟨by rw[List.length_zip,mv,Nat.min_self];exact hz,beq_eq_false_iff_ne.mpr (Nat.ne_of_gt (Nat.lt_of_lt_of_le I1.big (by rw[hsz];omega))),_,qG 0 rv,by simpa using d2⟩,rfl,q _ ep hfr⟩
end L2
namespace DN
open PySem PySem.Spec PyProof.Rows L2
noncomputable def GK(d:DP):DP:=fun ps=>(d ps).bind fun x=>match x with | .lst xs=> .ok (.dic (nK 0 xs.length) xs)|_=> .bad
noncomputable section
variable{X:Cx}{G:Pg}{da:DP}{ds:DS}{pos p pos2 p2 cpos apos:Pos}
theorem pC{a:Expr}(hc:X.calm=true)(hgd:Gl X "dict")(hmd:X.mg "dict"=none)(hg:Gl X "enumerate")(hm:X.mg "enumerate"=none)(ha:JP X G a da)(hs:starEach [a] X.env=[(false,eval a X.env)]:=by rfl)
  (hs2:starEach [.Call (.Name "enumerate" p2) [a] [] pos2] X.env=[(false,eval (.Call (.Name "enumerate" p2) [a] [] pos2) X.env)]:=by rfl) :
  JP X G (.Call (.Name "dict" p) [.Call (.Name "enumerate" p2) [a] [] pos2] [] pos) (GK da):=imp (oh hc hgd hmd hg hm (dg ha fB hs) hs hs2) fun σ H Q ⟨c,ow,ps,w,R,e,q⟩=>by
 obtain⟨x,e1,e⟩:=am e
 refine⟨c,ow,ps,x,R,e1,fun v H1 s1 r1=> ?_⟩
 cases x
 case lst xs =>
  cases e
  obtain⟨l,vs,rfl,rd,rs⟩:=r1
  refine⟨l,vs,rfl,rd.sq,fun d ep hd=> ?_⟩
  have s2:=bx hd (HO.dK ((nK 0 vs.length).zip vs) ep)
  have hl:=rs.len
  refine q _ _ (s1.trans s2) ⟨d,vs,ep,rfl,by rw[hl];exact ax,by rw[mv];exact hl,fun z=>(R.grow s1).used d z hd,rs.same s2⟩
 all_goals cases e
def Bz:Key->PV
 |.inl i=> .int i
 |.inr x=> .str x
noncomputable def pD:List Key->List PV->List PV
 |k::ks,x::xs=> .tup [Bz k,x]::pD ks xs
 |_,_=>[]
theorem mw:∀{ks:List Key} {xs:List PV},ks.length=xs.length->(pD ks xs).length=ks.length
 |[],[],_=>rfl
 |k::ks,x::xs,h=>by show(pD ks xs).length+1=_;rw[mw (by simpa using h)];rfl
 |[],_::_,h=>by simp at h
 |_::_,[],h=>by simp at h
theorem vA:∀{ks:List Key} {xs:List PV} {i:Nat} {k:Key} {x:PV},ks[i]? =some k->xs[i]? =some x->(pD ks xs)[i]? =some (.tup [Bz k,x])
 |[],_,i,k,x,h,_=>by simp at h
 |_::_,[],i,k,x,_,h=>by simp at h
 |k::ks,x::xs,0,_,_,h1,h2=>by simp at h1 h2;subst h1 h2;rfl
 |k::ks,x::xs,i+1,_,_,h1,h2=>by
  rw[List.getElem?_cons_succ]at h1 h2
  show(pD ks xs)[i]? =_
  exact vA (ks:=ks) (xs:=xs) h1 h2
theorem yK{K:Fg}{H:Hp}{A:Av}(k:Key):dB K G H A (Bz k) (kV k):=by cases k <;> exact rfl
noncomputable def yL(d:DP):DA:=fun ps=>(d ps).bind fun x=>match x with | .dic ks xs=>if ks.length=xs.length then .ok (pD ks xs) else .bad|_=> .bad
def sForIt(d:DP)(g:DG)(body:DS):DS:=sFor (yL d) g body
theorem yM{elts:List Expr}{x1}{tpos:Pos}{o:Expr}{body:List Stmt}{g:DG}(hp:PassesOwn .(E) X.A X.env X.xe)(hc:X.calm=true)(ha:JP X G o da)(m:M0 X o "items" apos cpos)(hg:JG X G (.Tuple elts x1 tpos) g)(hb:mU X G body ds)
  (hs:∀x,foldedSetIterable (.Call (.Attribute o "items" apos) [] [] cpos) X.env x=pure x:=by intro _;rfl):JS X G (.For (.Tuple elts x1 tpos) (.Call (.Attribute o "items" apos) [] [] cpos) body [] pos) (sForIt da g ds) :=
 fb (ua hp hc (vz ha m) hg hb hs) fun D σ H ⟨c,ow,ps,R,q⟩=>by
 obtain⟨es,e1,q⟩:=bi q
 obtain⟨w,e2,e1⟩:=am e1
 refine⟨c,ow,ps,w,R,e2,fun v H1 s1 r1=> ?_⟩
 cases w
 case dic ks xs =>
  have e1:(if ks.length=xs.length then Rx.ok (pD ks xs) else .bad)= .ok es:=e1
  split at e1
  ·rename_i hkx
   cases e1
   obtain⟨a,vs,ep,rfl,hH,hkv,hn,rs⟩:=r1
   have hlz:((ks.zip vs).length)=ks.length:=by rw[List.length_zip,<-hkv,Nat.min_self]
   refine⟨a,ks.zip vs,ep,rfl,hH,?_⟩
   refine⟨fun i m σ' H'=>∃ow' ps',m=ks.length-i/\i<=ks.length/\bf X.K G c H' ow' ps' σ'/\Kp X.K G H1 (av c ow) H' (av c ow')/\dn X.K G c H' (av c ow') D (bS g ds ((pD ks xs).drop i) ps'),
    ⟨_,ow,ps,rfl,Nat.zero_le _,R.grow s1,Kp.of_same (Same.refl _),q.mono (Kp.of_same s1)⟩,?_⟩
   rintro i m σ' H' ⟨ow',ps',rfl,hi',R',k',q'⟩
   have hH':H' a=some (.dK (ks.zip vs) ep):=k'.rd _ _ hH hn
   rcases Nat.lt_or_ge i ks.length with hlt|hge
   ·right
    have hlt':i<(pD ks xs).length:=by rw[mw hkx];exact hlt
    have hix:i<xs.length:=by omega
    have he:(pD ks xs)[i]= .tup [Bz ks[i],xs[i]]:=by
     have:=vA (List.getElem?_eq_getElem hlt) (List.getElem?_eq_getElem hix)
     rw[List.getElem?_eq_getElem hlt']at this
     exact Option.some.inj this
    rw[List.drop_eq_getElem_cons hlt',he]at q'
    refine⟨⟨by rw[hlz];exact hlt,hH'⟩,_,fun _ _ h=>h,fun yy H2 hyl=> ?_⟩
    obtain⟨pp,k,x,hpp,rfl,hch,rfl⟩:=hyl
    obtain⟨hk1,hx1⟩:ks[i]? =some k/\vs[i]? =some x:=by
     rw[List.getElem?_zip_eq_some]at hch
     exact hch
    have hk2:ks[i]=k:=by rw[List.getElem?_eq_getElem hlt]at hk1;exact Option.some.inj hk1
    have rx:dB X.K G H' (av c ow') xs[i] x:=by
     obtain⟨v',hv',rv'⟩:=rs.get (List.getElem?_eq_getElem hix)
     rw[hx1]at hv'
     cases hv'
     exact k'.rep rv'
    rw[hk2]at q'
    have sp:=bx hpp (.tup [kV k,x])
    obtain⟨ps1,c1,q'⟩:=bi q'
    have rT:dB X.K G (upd H' pp (.tup [kV k,x])) (av c ow') (.tup [Bz k,xs[i]]) (.ref pp) :=
     ⟨pp,_,rfl,ax,⟨_,_,rfl,yK k,_,_,rfl,(Kp.of_same sp).rep rx,rfl⟩⟩
    refine⟨c,ow',ps',_,ps1,R'.grow sp,rT,c1,fun σ3 ow3 R3 wk3=> ?_⟩
    have k3:Kp X.K G H1 (av c ow) (upd H' pp (.tup [kV k,x])) (av c ow3):=(k'.trans (Kp.of_same sp)).trans (Kp.weak wk3)
    have q3:=(q'.mono (Kp.of_same (K:=X.K) (G:=G) sp)).mono (Kp.weak (K:=X.K) (G:=G) wk3)
    refine⟨c,ow3,ps1,R3,?_⟩
    cases er:ds ps1 with
    |nx ps2 =>
     rw[er]at q3
     exact fun σ4 H4 ow4 R4 k4=>⟨ks.length-(i+1),by omega,ow4,ps2,rfl,hlt,R4,k3.trans k4,dn.mono q3 k4⟩
    |cnt ps2 =>
     rw[er]at q3
     exact fun σ4 H4 ow4 R4 k4=>⟨ks.length-(i+1),by omega,ow4,ps2,rfl,hlt,R4,k3.trans k4,dn.mono q3 k4⟩
    |brk ps2=>rw[er]at q3;exact q3
    |ret w=>rw[er]at q3;exact q3
    |retn xs=>rw[er]at q3;exact q3
    |reti w x=>rw[er]at q3;exact q3
    |bad=>rw[er]at q3;exact q3
    |exc c=>rw[er]at q3;exact q3
   ·left
    have hl:i=ks.length:=Nat.le_antisymm hi' hge
    rw[List.drop_eq_nil_of_le (by rw[mw hkx];omega)]at q'
    exact⟨⟨by rw[hlz];exact hl,hH'⟩,q' σ' H' ow' R' (Kp.of_same (Same.refl _))⟩
  ·cases e1
 all_goals cases e1
end
@[simp]theorem yN(da:DP)(ds:DS)(ps:aX)(g:DG):sForIt da g ds ps=(yL da ps).st fun ws=>bS g ds ws ps:=rfl
@[simp]theorem KB(da:DP)(ps:aX):yL da ps=(da ps).bind fun x=>match x with | .dic ks xs=>if ks.length=xs.length then .ok (pD ks xs) else .bad|_=> .bad:=rfl
@[simp]theorem pE(da:DP)(ps:aX):GK da ps=(da ps).bind fun x=>match x with | .lst xs=> .ok (.dic (nK 0 xs.length) xs)|_=> .bad:=rfl
end DN
namespace DN
open PySem PySem.Spec PyProof.Rows L2
noncomputable section
variable{X:Cx}{G:Pg}{e:Expr}{db:DP}{pos apos cpos:Pos}{x:Str}
def iW(i:Nat)(d:DP):DM:=fun ps=>match ps[i]? with
 |some (.own (.lst xs))=>(d ps).bind fun y=>(match y with
  |.int n=>if xs.length<=1000000 then(match oT xs.length n with|some k=>(match xs[k]? with|some w=> .ok (w,ps.set i (.own (.lst (xs.eraseIdx k))))|none=> .bad)|none=> .bad) else .bad
  |_=> .bad)
 |_=> .bad
theorem aC.erase{K:Fg}{H:Hp}{A:Av}:∀{ws:List PV} {vs:List V} (k:Nat),aC K G H A ws vs->aC K G H A (ws.eraseIdx k) (vs.eraseIdx k)
 |[],vs,k,h=>by cases (show vs=[] from h);rfl
 |w::ws,vs,0,h=>by obtain⟨v,r,rfl,h1,h2⟩:=h;exact h2
 |w::ws,vs,k+1,h=>by obtain⟨v,r,rfl,h1,h2⟩:=h;exact⟨v,_,rfl,h1,aC.erase k h2⟩
theorem yO(i:Nat)(he:JP X G e db)(hline:(apos.endLine == cpos.line)=true:=by rfl)(hN:X.N[i]? =some x:=by rfl)(hv:lF X.env.scope x:=by first|exact Or.inl rfl|exact Or.inr (Or.inl rfl)|exact Or.inr (Or.inr rfl))(hd:(x == .(L))=false:=by decide)
  (hcd:(x == .(Z))=false:=by decide) (hst:starEach [e] X.env=.(S)::starEach [] X.env:=by rfl) (hbase:attributeBase (.Name x pos) "pop" X.env (eval (.Name x pos) X.env)=eval (.Name x pos) X.env:=by rfl)
  (hpl:(backTo cpos (starEach ([]:List Expr) X.env)).any (·.1)=false:=by rfl)
  (hfew:.(C)=true:=by rfl) :
  JM X G (.Call (.Attribute (.Name x pos) "pop" apos) [e] [] cpos) (iW i db) :=
 imp (nj PySem.F.plainAttrs_list PySem.F.slot_list_pop PySem.F.type_list_pop ur (bh hN hv hd hcd) (dg he fB hst) hbase hfew hline hst hpl) fun σ H Q ⟨c,ow,ps,w,ps',R,e,q⟩=>by
  unfold iW at e
  split at e
  ·rename_i xs hx
   obtain⟨y,e1,e⟩:=am e
   split at e
   ·rename_i n
    split at e
    ·rename_i hn
     split at e
     ·rename_i k hk
      split at e
      ·rename_i w' hw
       cases e
       obtain⟨p0,e2,e3,vs0,hH0,rs0⟩:=R.getO hx
       refine⟨.ref p0,e3,.inl ⟨rfl,_,eI.of hH0⟩,c,ow,ps,_,R,e1,fun v H1 s1 r1=> ?_⟩
       have hH:H1 p0=some (.lst vs0):=s1 _ _ hH0
       have rs:=rs0.same s1
       have R1:=R.grow s1
       obtain⟨v1,hv1,rv⟩:=rs.get hw
       have mD:Mt (HO.lst vs0):=And.intro (fun _ z=>by cases z) (fun _ _ z=>by cases z)
       have k0:Kp X.K G H1 (av c ow) (upd H1 p0 (.lst (vs0.eraseIdx k))) (av c ow):=Kp.own (.inr ⟨i,e2⟩) hH mD
       have:=R1.chg (y:= .lst (xs.eraseIdx k)) (u:= .lst (vs0.eraseIdx k)) hx e2 ⟨_,ax,k0.reps (rs.erase k)⟩
       obtain⟨hq1,hq2,hq3,hq4⟩:=lI hk
       refine⟨p0,vs0,n,k,v1,rfl,by rw[show v=V.int n from r1],hH,(by omega),(by omega),by rw[<-rs.len];exact hq1,hv1,q v1 _ ow this.1 ((Kp.of_same s1).trans this.2) (k0.rep rv)⟩
      ·cases e
     ·cases e
    ·cases e
   ·cases e
  ·cases e
end
end DN
end
noncomputable section
namespace M62
open PySem L2 DN
open PyProof.Rows (boot_isinstance boot_bool boot_int boot_str boot_tuple boot_list boot_dict boot_sum boot_all boot_any boot_abs boot_enumerate boot_min boot_max)
noncomputable def top(i:Nat):Stmt:=PySem.Challenge.pw_anymeaning_k62_whole_forged_marks.main.body.getD i (.Pass ⟨0,0,0,0⟩)
noncomputable def fN:Nat->List Str
 |0=>[]
 |1=>[]
 |2=>[]
 |3=>["name"]
 |4=>["inner"]
 |5=>["left","right"]
 |6=>["left","right"]
 |7=>[]
 |8=>[]
 |9=>[]
 |10=>["name"]
 |11=>["head","tail"]
 |12=>["test","yes","no"]
 |13=>["test","body"]
 |14=>["unbarred","let_by","lasting"]
 |15=>["bonds","begin","starts","door"]
 |16=>["step","doors"]
 |17=>[]
 |18=>["marks"]
 |19=>["settings","deeds"]
 |20=>[]
 |21=>["test"]
 |22=>["before","deed","after"]
 |23=>["test","deed"]
 |_=>[]
abbrev vB:Stmt:=top 5
abbrev vC:Stmt:=top 6
abbrev vD:Stmt:=top 29
abbrev vE:Stmt:=top 30
abbrev vF:Stmt:=top 31
abbrev vG:Stmt:=top 32
abbrev vH:Stmt:=top 36
abbrev vI:Stmt:=top 37
abbrev vJ:Stmt:=top 40
abbrev vK:Stmt:=top 41
abbrev vL:Stmt:=top 42
abbrev vM:Stmt:=top 43
abbrev vN:Stmt:=top 44
abbrev vO:Stmt:=top 45
abbrev vP:Stmt:=top 46
abbrev vQ:Stmt:=top 51
abbrev oi:Stmt:=top 52
abbrev vR:Stmt:=top 59
abbrev vS:Stmt:=top 60
abbrev vT:Stmt:=top 61
abbrev vU:Stmt:=top 62
abbrev vV:Stmt:=top 63
abbrev vW:Stmt:=top 64
abbrev vX:Stmt:=top 65
abbrev vY:Stmt:=top 66
abbrev vZ:Stmt:=top 67
abbrev w8:Stmt:=top 68
abbrev w9:Stmt:=top 69
abbrev wa:Stmt:=top 70
abbrev wb:Stmt:=top 71
abbrev wc:Stmt:=top 72
abbrev wd:Stmt:=top 73
abbrev oj:Stmt:=top 74
abbrev we:Stmt:=aN (top 7) 1
abbrev wf:Stmt:=aN (top 8) 0
abbrev wj:Stmt:=aN (top 9) 0
abbrev wl:Stmt:=aN (top 10) 1
abbrev wm:Stmt:=aN (top 11) 1
abbrev wn:Stmt:=aN (top 12) 1
abbrev wo:Stmt:=aN (top 13) 1
abbrev wq:Stmt:=aN (top 28) 1
abbrev wt:Stmt:=aN (top 28) 2
abbrev wu:Stmt:=aN (top 35) 1
abbrev wv:Stmt:=aN (top 35) 2
abbrev ww:Stmt:=aN (top 35) 3
abbrev wx:Stmt:=aN (top 48) 0
abbrev wz:Stmt:=aN (top 49) 1
abbrev wA:Stmt:=aN (top 54) 0
abbrev wB:Stmt:=aN (top 54) 2
abbrev wC:Stmt:=aN (top 55) 1
abbrev wD:Stmt:=aN (top 56) 1
abbrev wE:Stmt:=aN (top 57) 1
abbrev wF:Stmt:=aN (top 28) 0
abbrev wG:Stmt:=aN (top 39) 0
abbrev wH:Stmt:=aN (top 49) 0
abbrev wI:Stmt:=aN (top 50) 0
abbrev sy:ju:=F4 ["rooms","fit"] (Bm 1 oi)
noncomputable def nF:Nat->ju
 |56=>sy
 |_=>default
abbrev tC:List (Nat×Nat):=[(56,2)]
noncomputable def pg(cA:Nat->Addr):Pg:=⟨cA,fN,nF⟩
abbrev jv:List (Nat×Nat):=[(22,2)]
abbrev iw:List (Nat×Nat):=[(22,0)]
abbrev dJ:List (Nat×Nat):=[(15,1)]
abbrev mx:List (Nat×Nat):=[(13,1)]
abbrev cR:List (Nat×Nat):=[(15,0)]
abbrev gQ:List (Nat×Nat):=[(22,1),(23,1)]
abbrev gh:List (Nat×Nat):=[(15,3)]
abbrev bK:List (Nat×Nat):=[(16,1)]
abbrev my:List (Nat×Nat):=[(11,0)]
abbrev mB:List (Nat×Nat):=[(4,0)]
abbrev ff:List (Nat×Nat):=[(14,2)]
abbrev k7:List (Nat×Nat):=[(5,0),(6,0)]
abbrev fg:List (Nat×Nat):=[(14,1)]
abbrev cS:List (Nat×Nat):=[(18,0)]
abbrev k8:List (Nat×Nat):=[(3,0),(10,0)]
abbrev yP:List (Nat×Nat):=[(12,2)]
abbrev ix:List (Nat×Nat):=[(5,1),(6,1)]
abbrev cx:List (Nat×Nat):=[(15,2)]
abbrev mC:List (Nat×Nat):=[(11,1)]
abbrev cI:List (Nat×Nat):=[(12,0),(13,0),(21,0),(23,0)]
abbrev fM:List (Nat×Nat):=[(14,0)]
abbrev qH:List (Nat×Nat):=[(12,1)]
abbrev iX:List (Nat×Nat):=[(20,47),(21,49),(22,47),(23,47)]
abbrev cF:List (Nat×Nat):=[(15,44)]
abbrev gR:List (Nat×Nat):=[(14,40)]
abbrev aK:List (Nat×Nat):=[(1,34),(2,35),(3,36),(4,37),(5,38),(6,39)]
abbrev dM:List (Nat×Nat):=[(15,43)]
abbrev cb:List (Nat×Nat):=[(20,48),(21,48),(22,50),(23,51)]
abbrev gS:List (Nat×Nat):=[(0,33),(1,33),(2,33),(3,33),(4,33),(5,33),(6,33)]
abbrev fh:List (Nat×Nat):=[(15,42)]
abbrev cQ:List (Nat×Nat):=[(17,45),(18,46)]
abbrev cV:List (Nat×Nat):=[(14,41)]
abbrev i_z07:List (Nat×Bool):=[(0,false),(1,false),(2,false),(3,false),(4,false),(5,false),(6,false),(0+10,false),(1+10,false),(2+10,false),(3+10,false),(4+10,false),(5+10,false),(6+10,false),(7+10,false),(8+10,false),(9+10,false),(10+10,false),(11+10,false),(12+10,true),(13+10,false),(14+10,false),(15+10,false),(16+10,false),(17+10,false),(18+10,false),(19+10,false),(20+10,false),(21+10,false),(22+10,false),(23+10,false)]
abbrev i_z05:List (Nat×Bool):=[(0,false),(1,false),(2,false),(3,false),(4,false),(5,false),(6,false),(0+10,false),(1+10,false),(2+10,false),(3+10,false),(4+10,false),(5+10,false),(6+10,false),(7+10,false),(8+10,false),(9+10,false),(10+10,true),(11+10,false),(12+10,false),(13+10,false),(14+10,false),(15+10,false),(16+10,false),(17+10,false),(18+10,false),(19+10,false),(20+10,false),(21+10,false),(22+10,false),(23+10,false)]
abbrev i_z0d:List (Nat×Bool):=[(0,false),(1,false),(2,false),(3,false),(4,false),(5,false),(6,false),(0+10,false),(1+10,false),(2+10,false),(3+10,false),(4+10,false),(5+10,false),(6+10,false),(7+10,false),(8+10,false),(9+10,false),(10+10,false),(11+10,false),(12+10,false),(13+10,false),(14+10,false),(15+10,false),(16+10,false),(17+10,false),(18+10,true),(19+10,false),(20+10,false),(21+10,false),(22+10,false),(23+10,false)]
abbrev i_z06:List (Nat×Bool):=[(0,false),(1,false),(2,false),(3,false),(4,false),(5,false),(6,false),(0+10,false),(1+10,false),(2+10,false),(3+10,false),(4+10,false),(5+10,false),(6+10,false),(7+10,false),(8+10,false),(9+10,false),(10+10,false),(11+10,true),(12+10,false),(13+10,false),(14+10,false),(15+10,false),(16+10,false),(17+10,false),(18+10,false),(19+10,false),(20+10,false),(21+10,false),(22+10,false),(23+10,false)]
abbrev i_z03:List (Nat×Bool):=[(0,false),(1,false),(2,false),(3,false),(4,false),(5,false),(6,false),(0+10,false),(1+10,false),(2+10,false),(3+10,false),(4+10,false),(5+10,false),(6+10,false),(7+10,false),(8+10,true),(9+10,false),(10+10,false),(11+10,false),(12+10,false),(13+10,false),(14+10,false),(15+10,false),(16+10,false),(17+10,false),(18+10,false),(19+10,false),(20+10,false),(21+10,false),(22+10,false),(23+10,false)]
abbrev i_z04:List (Nat×Bool):=[(0,false),(1,false),(2,false),(3,false),(4,false),(5,false),(6,false),(0+10,false),(1+10,false),(2+10,false),(3+10,false),(4+10,false),(5+10,false),(6+10,false),(7+10,false),(8+10,false),(9+10,true),(10+10,false),(11+10,false),(12+10,false),(13+10,false),(14+10,false),(15+10,false),(16+10,false),(17+10,false),(18+10,false),(19+10,false),(20+10,false),(21+10,false),(22+10,false),(23+10,false)]
abbrev i_bool:List (Nat×Bool):=[(0,false),(1,true),(2,false),(3,false),(4,false),(5,false),(6,false),(0+10,false),(1+10,false),(2+10,false),(3+10,false),(4+10,false),(5+10,false),(6+10,false),(7+10,false),(8+10,false),(9+10,false),(10+10,false),(11+10,false),(12+10,false),(13+10,false),(14+10,false),(15+10,false),(16+10,false),(17+10,false),(18+10,false),(19+10,false),(20+10,false),(21+10,false),(22+10,false),(23+10,false)]
@[simp]theorem zJ(x0 x1 x2:PV):ba jv (.obj 22 [x0,x1,x2])= .ok x2:=rfl
@[simp]theorem yQ(x0 x1 x2:PV):ba iw (.obj 22 [x0,x1,x2])= .ok x0:=rfl
@[simp]theorem zK(x0 x1 x2 x3:PV):ba dJ (.obj 15 [x0,x1,x2,x3])= .ok x1:=rfl
@[simp]theorem BA(x0 x1:PV):ba mx (.obj 13 [x0,x1])= .ok x1:=rfl
@[simp]theorem zL(x0 x1 x2 x3:PV):ba cR (.obj 15 [x0,x1,x2,x3])= .ok x0:=rfl
@[simp]theorem BB(x0 x1 x2:PV):ba gQ (.obj 22 [x0,x1,x2])= .ok x1:=rfl
@[simp]theorem BC(x0 x1:PV):ba gQ (.obj 23 [x0,x1])= .ok x1:=rfl
@[simp]theorem BD(x0 x1 x2 x3:PV):ba gh (.obj 15 [x0,x1,x2,x3])= .ok x3:=rfl
@[simp]theorem zM(x0 x1:PV):ba bK (.obj 16 [x0,x1])= .ok x1:=rfl
@[simp]theorem BE(x0 x1:PV):ba my (.obj 11 [x0,x1])= .ok x0:=rfl
@[simp]theorem BF(x0:PV):ba mB (.obj 4 [x0])= .ok x0:=rfl
@[simp]theorem xt(x0 x1 x2:PV):ba ff (.obj 14 [x0,x1,x2])= .ok x2:=rfl
@[simp]theorem CS(x0 x1:PV):ba k7 (.obj 5 [x0,x1])= .ok x0:=rfl
@[simp]theorem CT(x0 x1:PV):ba k7 (.obj 6 [x0,x1])= .ok x0:=rfl
@[simp]theorem yR(x0 x1 x2:PV):ba fg (.obj 14 [x0,x1,x2])= .ok x1:=rfl
@[simp]theorem zN(x0:PV):ba cS (.obj 18 [x0])= .ok x0:=rfl
@[simp]theorem CU(x0:PV):ba k8 (.obj 3 [x0])= .ok x0:=rfl
@[simp]theorem BG(x0:PV):ba k8 (.obj 10 [x0])= .ok x0:=rfl
@[simp]theorem Fm(x0 x1 x2:PV):ba yP (.obj 12 [x0,x1,x2])= .ok x2:=rfl
@[simp]theorem BH(x0 x1:PV):ba ix (.obj 5 [x0,x1])= .ok x1:=rfl
@[simp]theorem BI(x0 x1:PV):ba ix (.obj 6 [x0,x1])= .ok x1:=rfl
@[simp]theorem yS(x0 x1 x2 x3:PV):ba cx (.obj 15 [x0,x1,x2,x3])= .ok x2:=rfl
@[simp]theorem BJ(x0 x1:PV):ba mC (.obj 11 [x0,x1])= .ok x1:=rfl
@[simp]theorem BK(x0 x1 x2:PV):ba cI (.obj 12 [x0,x1,x2])= .ok x0:=rfl
@[simp]theorem BL(x0 x1:PV):ba cI (.obj 13 [x0,x1])= .ok x0:=rfl
@[simp]theorem BM(x0:PV):ba cI (.obj 21 [x0])= .ok x0:=rfl
@[simp]theorem BN(x0 x1:PV):ba cI (.obj 23 [x0,x1])= .ok x0:=rfl
@[simp]theorem wJ(x0 x1 x2:PV):ba fM (.obj 14 [x0,x1,x2])= .ok x0:=rfl
@[simp]theorem CV(x0 x1 x2:PV):ba qH (.obj 12 [x0,x1,x2])= .ok x1:=rfl
#synth .(is i_z07 7 24 [] [12])
#synth .(is i_z05 7 24 [] [10])
#synth .(is i_z0d 7 24 [] [18])
#synth .(is i_z06 7 24 [] [11])
#synth .(is i_z03 7 24 [] [8])
#synth .(is i_z04 7 24 [] [9])
#synth .(is i_bool 7 24 [1] [])
abbrev fO:List PV:=[PV.str "P",PV.str "Q",PV.str "R",PV.str "S",PV.str "T"]
abbrev eU:List PV:=[PV.str "done",PV.str "stopped",PV.str "hung"]
abbrev lj:List PV:=[PV.str "a",PV.str "b",PV.str "c",PV.str "d"]
structure Ct(P:Program)(w:World)(K:Fg)(mg:Str->Option Value)(base:Bs)(cA:Nat->Addr)(ts:List Addr):Prop where
 tb:base.tabs=ts
 c_zV:mg "Test"=some (.ref ((pg cA).cA 0))
 l_zV:bz K ((pg cA).cA 0)
 c_zW:mg "Yes"=some (.ref ((pg cA).cA 1))
 l_zW:bz K ((pg cA).cA 1)
 c_zX:mg "No"=some (.ref ((pg cA).cA 2))
 l_zX:bz K ((pg cA).cA 2)
 c_zY:mg "Named"=some (.ref ((pg cA).cA 3))
 l_zY:bz K ((pg cA).cA 3)
 c_zZ:mg "Not"=some (.ref ((pg cA).cA 4))
 l_zZ:bz K ((pg cA).cA 4)
 c_z00:mg "Both"=some (.ref ((pg cA).cA 5))
 l_z00:bz K ((pg cA).cA 5)
 c_z01:mg "Either"=some (.ref ((pg cA).cA 6))
 l_z01:bz K ((pg cA).cA 6)
 c_z02:mg "Step"=some (.ref ((pg cA).cA 7))
 l_z02:bz K ((pg cA).cA 7)
 c_z03:mg "Skip"=some (.ref ((pg cA).cA 8))
 l_z03:bz K ((pg cA).cA 8)
 c_z04:mg "Stop"=some (.ref ((pg cA).cA 9))
 l_z04:bz K ((pg cA).cA 9)
 c_z05:mg "Deed"=some (.ref ((pg cA).cA 10))
 l_z05:bz K ((pg cA).cA 10)
 c_z06:mg "Row"=some (.ref ((pg cA).cA 11))
 l_z06:bz K ((pg cA).cA 11)
 c_z07:mg "Choice"=some (.ref ((pg cA).cA 12))
 l_z07:bz K ((pg cA).cA 12)
 c_z08:mg "Loop"=some (.ref ((pg cA).cA 13))
 l_z08:bz K ((pg cA).cA 13)
 c_z09:mg "Bonds"=some (.ref ((pg cA).cA 14))
 l_z09:bz K ((pg cA).cA 14)
 c_z0a:mg "Maze"=some (.ref ((pg cA).cA 15))
 l_z0a:bz K ((pg cA).cA 15)
 c_z0b:mg "Rooms"=some (.ref ((pg cA).cA 16))
 l_z0b:bz K ((pg cA).cA 16)
 c_z0c:mg "Finding"=some (.ref ((pg cA).cA 17))
 l_z0c:bz K ((pg cA).cA 17)
 c_z0d:mg "Kept"=some (.ref ((pg cA).cA 18))
 l_z0d:bz K ((pg cA).cA 18)
 c_z0e:mg "Broken"=some (.ref ((pg cA).cA 19))
 l_z0e:bz K ((pg cA).cA 19)
 c_z0f:mg "Saying"=some (.ref ((pg cA).cA 20))
 l_z0f:bz K ((pg cA).cA 20)
 c_z0g:mg "Nowhere"=some (.ref ((pg cA).cA 21))
 l_z0g:bz K ((pg cA).cA 21)
 c_z0h:mg "Behind"=some (.ref ((pg cA).cA 22))
 l_z0h:bz K ((pg cA).cA 22)
 c_z0i:mg "Through"=some (.ref ((pg cA).cA 23))
 l_z0i:bz K ((pg cA).cA 23)
 n_z0h:eM P w K mg base "Behind" ((pg cA).cA 22) ((pg cA).fN 22)
 n_z00:eM P w K mg base "Both" ((pg cA).cA 5) ((pg cA).fN 5)
 n_z07:eM P w K mg base "Choice" ((pg cA).cA 12) ((pg cA).fN 12)
 n_z05:eM P w K mg base "Deed" ((pg cA).cA 10) ((pg cA).fN 10)
 n_z01:eM P w K mg base "Either" ((pg cA).cA 6) ((pg cA).fN 6)
 n_z08:eM P w K mg base "Loop" ((pg cA).cA 13) ((pg cA).fN 13)
 n_z0a:eM P w K mg base "Maze" ((pg cA).cA 15) ((pg cA).fN 15)
 n_zY:eM P w K mg base "Named" ((pg cA).cA 3) ((pg cA).fN 3)
 k_zX:AO K ((pg cA).cA 2)
 n_zZ:eM P w K mg base "Not" ((pg cA).cA 4) ((pg cA).fN 4)
 n_z0g:eM P w K mg base "Nowhere" ((pg cA).cA 21) ((pg cA).fN 21)
 n_z06:eM P w K mg base "Row" ((pg cA).cA 11) ((pg cA).fN 11)
 k_z03:AO K ((pg cA).cA 8)
 k_z04:AO K ((pg cA).cA 9)
 n_z0i:eM P w K mg base "Through" ((pg cA).cA 23) ((pg cA).fN 23)
 k_zW:AO K ((pg cA).cA 1)
 x_Bonds_unbarred:bq K ((pg cA).cA 14) "unbarred"
 x_Bonds_let_by:bq K ((pg cA).cA 14) "let_by"
 x_Bonds_lasting:bq K ((pg cA).cA 14) "lasting"
 x_Broken_settings:bq K ((pg cA).cA 19) "settings"
 x_Broken_deeds:bq K ((pg cA).cA 19) "deeds"
 x_Kept_marks:bq K ((pg cA).cA 18) "marks"
 x_Rooms_step:bq K ((pg cA).cA 16) "step"
 x_Rooms_doors:bq K ((pg cA).cA 16) "doors"
 f_after:bQ K (pg cA) "after" jv
 f_before:bQ K (pg cA) "before" iw
 f_begin:bQ K (pg cA) "begin" dJ
 f_body:bQ K (pg cA) "body" mx
 f_bonds:bQ K (pg cA) "bonds" cR
 f_deed:bQ K (pg cA) "deed" gQ
 f_door:bQ K (pg cA) "door" gh
 f_doors:bQ K (pg cA) "doors" bK
 f_head:bQ K (pg cA) "head" my
 f_inner:bQ K (pg cA) "inner" mB
 f_lasting:bQ K (pg cA) "lasting" ff
 f_left:bQ K (pg cA) "left" k7
 f_let_by:bQ K (pg cA) "let_by" fg
 f_marks:bQ K (pg cA) "marks" cS
 f_name:bQ K (pg cA) "name" k8
 f_no:bQ K (pg cA) "no" yP
 f_right:bQ K (pg cA) "right" ix
 f_starts:bQ K (pg cA) "starts" cx
 f_tail:bQ K (pg cA) "tail" mC
 f_test:bQ K (pg cA) "test" cI
 f_unbarred:bQ K (pg cA) "unbarred" fM
 f_yes:bQ K (pg cA) "yes" qH
 i_z07:en K (pg cA) (.ref ((pg cA).cA 12)) i_z07
 i_z05:en K (pg cA) (.ref ((pg cA).cA 10)) i_z05
 i_z0d:en K (pg cA) (.ref ((pg cA).cA 18)) i_z0d
 i_z06:en K (pg cA) (.ref ((pg cA).cA 11)) i_z06
 i_z03:en K (pg cA) (.ref ((pg cA).cA 8)) i_z03
 i_z04:en K (pg cA) (.ref ((pg cA).cA 9)) i_z04
 i_bool:en K (pg cA) (.type "bool") i_bool
 e_DEEDS:∃a,mg "DEEDS"=some (.ref a)/\jl K a [V.str "P",V.str "Q",V.str "R",V.str "S",V.str "T"]
 e_DONE:∃t,mg "DONE"=some (.str "done" t)
 e_ENDS:∃a,mg "ENDS"=some (.ref a)/\jl K a [V.str "done",V.str "stopped",V.str "hung"]
 e_EVERY:∃t,mg "EVERY"=some (.int (65535) t)
 e_FOUND:∃t,mg "FOUND"=some (.str "found" t)
 e_HUNG:∃t,mg "HUNG"=some (.str "hung" t)
 e_LETTERS:∃a,mg "LETTERS"=some (.ref a)/\jl K a [V.str "a",V.str "b",V.str "c",V.str "d"]
 e_SETTINGS:∃t,mg "SETTINGS"=some (.int (16) t)
 e_STOPPED:∃t,mg "STOPPED"=some (.str "stopped" t)
 z_all:mg "all"=none
 z_any:mg "any"=none
 z_bool:mg "bool"=none
 z_dict:mg "dict"=none
 z_enumerate:mg "enumerate"=none
 z_isinstance:mg "isinstance"=none
 z_len:mg "len"=none
 z_list:mg "list"=none
 z_range:mg "range"=none
theorem Fn:ap ["setting","mask"] ["setting","mask"] (al vB):= .q
noncomputable def sB(g:Nat->List PV->Rx PV):DS :=
 (aJ (d2 cD (d2 dj (d2 gw (ag 1) (ag 0)) (dC (.int 1))) (dC (.int 1))))
theorem Fo:ap ["mask"] ["mask"] (al vC):= .q
noncomputable def sC(g:Nat->List PV->Rx PV):DS :=
 (aJ (aG (dComp ["setting"] [("mask",0)] .(Ai) (aD 0) (aU (aj (g 0) (ae (af 0) (ae (af 1) ah)))) (af 0))))
theorem qI:ap ["sayings","mask","setting"] ["sayings"] (al vD):= .q
noncomputable def mE(g:Nat->List PV->Rx PV):DS :=
 (cO (aU (aj yz (ae (aG (dComp ["saying"] [("setting",2)] (aE (ag 0)) (aD 0) bP (aO iX g (af 0) (ae (af 1) ah)))) ah)))
 (jo 1 (fun i j=>i-j) (d2 gL (dC (.int 1)) (ag 2)))
 aQ)
noncomputable def sE(g:Nat->List PV->Rx PV):DS :=
 (ay (aS 1 (dC (.int (65535))))
 (ay (sFor .(Ai) (aD 2)
 (mE g))
 (aJ (af 1))))
theorem wK:ap ["sayings","masks","deed"] ["sayings"] (al vE):= .q
noncomputable def mF(g:Nat->List PV->Rx PV):DS :=
 (jX 1 (af 2) (aG (dComp ["setting"] [("sayings",0),("deed",2)] .(Ai) (aD 0) bP (aj (g 4) (ae (af 1) (ae (af 2) (ae (af 0) ah)))))))
noncomputable def sF(g:Nat->List PV->Rx PV):DS :=
 (ay (vf 1)
 (ay (sFor (fH (dC (.tup fO))) (aD 2)
 (mF g))
 (im (kC 1))))
theorem qJ:ap ["sayings","deed","setting","mask","saying"] ["sayings","deed","setting"] (al vF):= .q
noncomputable def k9(g:Nat->List PV->Rx PV):DS :=
 (jo 3 (fun i j=>Builtin.bitAnd i j) (aO cb g (af 4) (ae (af 1) (ae (af 2) ah))))
noncomputable def sG(g:Nat->List PV->Rx PV):DS :=
 (ay (aS 3 (dC (.int (65535))))
 (ay (sFor (aE (af 0)) (aD 4)
 (k9 g))
 (aJ (af 3))))
theorem ol:ap ["mask","let_by","left","setting"] ["mask","let_by"] (al vG):= .q
noncomputable def mG(g:Nat->List PV->Rx PV):DS :=
 (cO (aU (aj sj (ae (aG (dComp ["deed"] [("mask",0),("setting",3),("let_by",1)] (fH (dC (.tup fO))) (aD 0) bP (d2 iE (d2 dj (d2 fIx (d2 lb (ag 3) (ag 0)) (ag 2)) (ag 1)) (dC (.int 0))))) ah)))
 (jo 2 (fun i j=>i+j) (d2 gL (dC (.int 1)) (ag 3)))
 aQ)
noncomputable def ka(g:Nat->List PV->Rx PV):DS :=
 (ay (aS 2 (dC (.int 0)))
 (ay (sFor (aE (aj (g 1) (ae (af 0) ah))) (aD 3)
 (mG g))
 (ay (cO (aU (d2 cD (ag 2) (ag 0)))
 (aJ (af 0))
 aQ)
 (aS 0 (af 2)))))
noncomputable def sH(g:Nat->List PV->Rx PV):DS :=
 (fL (fW (aU (dC (.bl true))))
 (ka g))
theorem qK:ap ["visit","settings","deeds"] ["visit"] (al vH):= .q
noncomputable def iY(g:Nat->List PV->Rx PV):DS :=
 (ay (cN (ii 1 (cK (d2 fIx (ag 0) (dC (.int 1))))))
 (ay (cN (ii 2 (cK (d2 fIx (ag 0) (dC (.int 2))))))
 (aS 0 (d2 fIx (ag 0) (dC (.int 3))))))
noncomputable def sI(g:Nat->List PV->Rx PV):DS :=
 (ay (il 1 ah)
 (ay (il 2 ah)
 (ay (fL (fW (aU (gG (ag 0))))
 (iY g))
 (ay (cN (pq 1))
 (ay (cN (pq 2))
 (im (m5 (cM (kC 1) (cM (cK (d2 nZ (dC (.str "")) (ag 2))) m4)))))))))
theorem Fp:ap ["mask","larger"] ["mask","larger"] (al vI):= .q
noncomputable def sJ(g:Nat->List PV->Rx PV):DS :=
 (aJ (d2 cD (d2 dj (ag 0) (ag 1)) (ag 0)))
theorem Fq:ap ["step","ahead"] ["step","ahead"] (al vJ):= .q
noncomputable def kH(g:Nat->List PV->Rx PV):DS :=
 (ay (cO (aU (gM i_z03 (ag 0)))
 (aJ (aG (ae (aj (g 9) (ae (dC (.str "done")) ah)) ah)))
 aQ)
 (ay (cO (aU (gM i_z04 (ag 0)))
 (aJ (aG (ae (aj (g 9) (ae (dC (.str "stopped")) ah)) ah)))
 aQ)
 (ay (cO (aU (gM i_z05 (ag 0)))
 (aJ (aG (ae (aG (yB (ae (eT (ae (aZ k8 (af 0)) (ae (d2 gv (ag 1) (dC (.int 1))) ah))) ah) (dC (.int (16))))) (ae (aj (g 9) (ae (dC (.str "done")) ah)) ah))))
 aQ)
 (ay (cO (aU (gM i_z06 (ag 0)))
 (aJ (aj (g 10) (ae (af 0) (ae (af 1) ah))))
 aQ)
 (ay (cO (aU (gM i_z07 (ag 0)))
 (aJ (aj (g 11) (ae (af 0) (ae (af 1) ah))))
 aQ)
 (aJ (aj (g 12) (ae (af 0) (ae (af 1) ah)))))))))
theorem Ft:ap ["end"] ["end"] (al vK):= .q
noncomputable def BO(g:Nat->List PV->Rx PV):DS :=
 (aJ (aG (yB (ae (eT (ae (af 0) (ae (dC (.int 0)) ah))) ah) (dC (.int (16))))))
theorem wL:ap ["step","ahead","head","tail"] ["step","ahead"] (al vL):= .q
noncomputable def sK(g:Nat->List PV->Rx PV):DS :=
 (ay (aS 2 (aj (g 8) (ae (aZ my (af 0)) (ae (af 1) ah))))
 (ay (aS 3 (aj (g 8) (ae (aZ mC (af 0)) (ae (d2 kA (d2 gv (ag 1) (aj bR (ae (ag 2) ah))) (dC (.int 1))) ah))))
 (aJ (aG (dL (aG (dComp ["doors"] [("tail",3)] (aE (ag 2)) (aD 0) bP (aj (g 14) (ae (af 0) (ae (d2 fIx (ag 1) (dC (.int 0))) ah))))) (aG (cT (ag 3) (g9 (dC (.int 1))) jn)))))))
theorem qL:ap ["step","ahead","yes","no","begin"] ["step","ahead"] (al vM):= .q
noncomputable def sL(g:Nat->List PV->Rx PV):DS :=
 (ay (aS 2 (aj (g 8) (ae (aZ qH (af 0)) (ae (af 1) ah))))
 (ay (aS 3 (aj (g 8) (ae (aZ yP (af 0)) (ae (d2 kA (d2 gv (ag 1) (aj bR (ae (ag 2) ah))) (dC (.int 1))) ah))))
 (ay (aS 4 (aG (dComp ["setting"] [("yes",2),("no",3),("step",0)] .(Ai) (aD 0) bP (p9 (aU (aO aK g (aZ cI (af 3)) (ae (af 0) ah))) (d2 fIx (d2 fIx (ag 1) (dC (.int 0))) (ag 0)) (d2 fIx (d2 fIx (ag 2) (dC (.int 0))) (ag 0))))))
 (aJ (aG (dL (aG (dL (aG (ae (af 4) ah)) (aG (cT (ag 2) (g9 (dC (.int 1))) jn)))) (aG (cT (ag 3) (g9 (dC (.int 1))) jn))))))))
theorem wM:ap ["step","ahead","body","begin"] ["step","ahead"] (al vN):= .q
noncomputable def sM(g:Nat->List PV->Rx PV):DS :=
 (ay (aS 2 (aj (g 8) (ae (aZ mx (af 0)) (ae (af 1) ah))))
 (ay (aS 3 (aG (dComp ["setting"] [("body",2),("step",0)] .(Ai) (aD 0) bP (aj (g 13) (ae (aO aK g (aZ cI (af 2)) (ae (af 0) ah)) (ae (d2 fIx (d2 fIx (ag 1) (dC (.int 0))) (ag 0)) ah))))))
 (aJ (aG (dL (aG (ae (af 3) ah)) (aG (dComp ["doors"] [("begin",3)] (aE (aG (cT (ag 2) (g9 (dC (.int 1))) jn))) (aD 0) bP (aj (g 14) (ae (af 0) (ae (af 1) ah))))))))))
theorem Fu:ap ["holds","door"] ["holds","door"] (al vO):= .q
noncomputable def sN(g:Nat->List PV->Rx PV):DS :=
 (ay (cO (f9 (aU (af 0)))
 (aJ (eT (ae (dC (.str "done")) (ae (dC (.int 0)) ah))))
 aQ)
 (ay (cO (aU (d2 cD (d2 fIx (ag 1) (dC (.int 0))) (dC (.str "done"))))
 (aJ (eT (ae (dC (.str "hung")) (ae (dC (.int 0)) ah))))
 aQ)
 (aJ (af 1))))
theorem Fv:ap ["doors","later"] ["doors","later"] (al vP):= .q
noncomputable def sO(g:Nat->List PV->Rx PV):DS :=
 (aJ (aG (dComp ["setting"] [("later",1),("doors",0)] .(Ai) (aD 0) bP (p9 (aU (d2 cD (d2 fIx (d2 fIx (ag 2) (ag 0)) (dC (.int 0))) (dC (.str "done")))) (d2 fIx (ag 1) (ag 0)) (d2 fIx (ag 2) (ag 0))))))
theorem wN:ap ["before","step","after","sayings","rooms","told"] ["before","step","after","sayings"] (al vQ):= .q
noncomputable def sP(g:Nat->List PV->Rx PV):DS :=
 (ay (aS 4 (aj (g 53) (ae (af 1) ah)))
 (ay (aS 5 (aO fh g (aj (g 16) (ae (af 0) (ae (af 4) (ae (af 2) (ae (aj (g 52) (ae (af 3) ah)) ah))))) ah))
 (ay (cO (aU (gG .(Ah)))
 (aJ (aj (g 55) (ae (d2 fIx .(Ah) (dC (.int 0))) (ae (d2 fIx .(Ah) (dC (.int 1))) ah))))
 aQ)
 (aJ (aj (g 54) (ae (aG (dComp ["room"] [("told",5)] (bA (ae (aj bR (ae (aZ bK (af 4)) ah)) ah)) (aD 0) bP (cU (d2 fIx (ag 1) (dC (.int 0))) (ag 0) (dC (.int 0))))) ah))))))
theorem wO:ap ["before","rooms","after","bonds","door","fit"] ["before","rooms","after","bonds"] (al oi):= .q
noncomputable def sQ(g:Nat->List PV->Rx PV):DS :=
 (ay (aS 5 (aO gS g (af 2) ah))
 (qB (ay (Bj 4 56 [1,5])
 (aJ (eB 15 (ae (af 3) (ae (dC (.int 0)) (ae (d2 dj (aO gR g (af 3) ah) (aO gS g (af 0) ah)) (ae (af 4) ah)))))))))
theorem Fw:ap ["_law_script","_law_k"] ["_law_script","_law_k"] (al vR):= .q
noncomputable def sR(g:Nat->List PV->Rx PV):DS :=
 (ay (cO (aU (d2 p8 (ag 1) (aj bR (ae (ag 0) ah))))
 (aJ (d2 fIx (ag 0) (ag 1)))
 aQ)
 (aJ (dC (.int 0))))
theorem qM:ap ["_law_cell","_law_k","_law_number"] ["_law_cell","_law_k"] (al vS):= .q
noncomputable def wP(g:Nat->List PV->Rx PV):DS :=
 (ay (aS 2 (d2 bD (d2 sd (d2 gv (d2 gv (d2 dj (ag 0) (dC (.int 2147483647))) (d2 sd (dC (.int 7919)) (ag 1))) (dC (.int 1))) (dC (.int 48271))) (dC (.int 2147483647))))
 (ay (aS 2 (d2 bD (d2 sd (ag 2) (d2 gv (d2 bV (ag 2) (dC (.int 1009))) (dC (.int 69621)))) (dC (.int 2147483647))))
 (ay (aS 2 (d2 bD (d2 sd (ag 2) (d2 gv (d2 bV (ag 2) (dC (.int 1013))) (dC (.int 40692)))) (dC (.int 2147483647))))
 (aJ (d2 AY (ag 2) (d2 dj (d2 gw (ag 0) (d2 gv (d2 sd (dC (.int 31)) (ag 1)) (dC (.int 31)))) (dC (.int 2147483647))))))))
theorem Fx:ap ["_law_cell"] ["_law_cell"] (al vT):= .q
noncomputable def sS(g:Nat->List PV->Rx PV):DS :=
 (aJ (eT (ae (d2 bD (ag 0) (dC (.int 6))) (ae (d2 fIx (dC (.str "abcd")) (d2 bD (d2 bV (ag 0) (dC (.int 6))) (dC (.int 4)))) (ae (d2 fIx (dC (.str "abcd")) (d2 bD (d2 bV (ag 0) (dC (.int 24))) (dC (.int 4)))) ah)))))
theorem wQ:ap ["_law_guard_here","_law_one","_law_other"] ["_law_guard_here"] (al vU):= .q
noncomputable def sT(g:Nat->List PV->Rx PV):DS :=
 (ay (aS 1 (eB 3 (ae (d2 fIx (ag 0) (dC (.int 1))) ah)))
 (ay (aS 2 (eB 3 (ae (d2 fIx (ag 0) (dC (.int 2))) ah)))
 (ay (cO (aU (d2 cD (d2 fIx (ag 0) (dC (.int 0))) (dC (.int 0))))
 (aJ (af 1))
 aQ)
 (ay (cO (aU (d2 cD (d2 fIx (ag 0) (dC (.int 0))) (dC (.int 1))))
 (aJ (eB 4 (ae (af 1) ah)))
 aQ)
 (ay (cO (aU (d2 cD (d2 fIx (ag 0) (dC (.int 0))) (dC (.int 2))))
 (aJ (eB 5 (ae (af 1) (ae (eB 4 (ae (af 2) ah)) ah))))
 aQ)
 (ay (cO (aU (d2 cD (d2 fIx (ag 0) (dC (.int 0))) (dC (.int 3))))
 (aJ (eB 6 (ae (af 1) (ae (af 2) ah))))
 aQ)
 (ay (cO (aU (d2 cD (d2 fIx (ag 0) (dC (.int 0))) (dC (.int 4))))
 (aJ (eB 4 (ae (eB 6 (ae (af 1) (ae (af 2) ah))) ah)))
 aQ)
 (ay (cO (aU (d2 AZ (d2 fIx (ag 0) (dC (.int 1))) (dC (.str "c"))))
 (aJ (dC (.obj 1 [])))
 aQ)
 (aJ (dC (.obj 2 [])))))))))))
theorem Fy:ap ["_law_cell"] ["_law_cell"] (al vV):= .q
noncomputable def sU(g:Nat->List PV->Rx PV):DS :=
 (ay (cO (aU (d2 cD (d2 bD (ag 0) (dC (.int 5))) (dC (.int 4))))
 (aJ (d2 fIx (aG (ae (eT (ae (dC (.str "skip")) ah)) (ae (eT (ae (dC (.str "stop")) ah)) (ae (eT (ae (dC (.str "skip")) ah)) ah)))) (d2 bD (d2 bV (ag 0) (dC (.int 5))) (dC (.int 3)))))
 aQ)
 (aJ (eT (ae (dC (.str "deed")) (ae (d2 fIx (dC (.str "PQRST")) (d2 bD (d2 bV (ag 0) (dC (.int 5))) (dC (.int 5)))) ah)))))
theorem kf:ap ["_law_cells","_law_held","_law_cell","_law_way","_law_right"] ["_law_cells"] (al vW):= .q
noncomputable def mH(g:Nat->List PV->Rx PV):DS :=
 (ay (nQ 4 (kB 1))
 (cN (ii 1 (m5 (cM (cK (dC (.str "row"))) (cM (kB 1) (cM (cK (af 4)) m4)))))))
noncomputable def kg(g:Nat->List PV->Rx PV):DS :=
 (ay (aS 3 (d2 bD (ag 2) (dC (.int 8))))
 (cO (iQ (aU (d2 cD (ag 1) (aG ah))) (iQ (aU (d2 p8 (ag 3) (dC (.int 3)))) (f8 (aU (d2 uN (ag 3) (dC (.int 3)))) (aU (d2 cD (aj bR (ae (ag 1) ah)) (dC (.int 1)))))))
 (cN (ii 1 (cK (aj (g 21) (ae (d2 bV (ag 2) (dC (.int 8))) ah)))))
 (cO (aU (d2 cD (ag 3) (dC (.int 3))))
 (cN (ii 1 (m5 (cM (cK (dC (.str "while"))) (cM (cK (aj (g 19) (ae (d2 bV (ag 2) (dC (.int 8))) ah))) (cM (kB 1) m4))))))
 (cO (aU (d2 p8 (ag 3) (dC (.int 6))))
 (ay (nQ 4 (kB 1))
 (cN (ii 1 (m5 (cM (cK (dC (.str "row"))) (cM (kB 1) (cM (cK (af 4)) m4)))))))
 (ay (nQ 4 (kB 1))
 (cN (ii 1 (m5 (cM (cK (dC (.str "if"))) (cM (cK (aj (g 19) (ae (d2 bV (ag 2) (dC (.int 8))) ah))) (cM (kB 1) (cM (cK (af 4)) m4))))))))))))
noncomputable def sV(g:Nat->List PV->Rx PV):DS :=
 (ay (il 1 ah)
 (ay (sFor (aE (af 0)) (aD 2)
 (kg g))
 (ay (fL (fW (aU (d2 uN (aj bR (ae (ag 1) ah)) (dC (.int 1)))))
 (mH g))
 (aJ (d2 fIx (aG (dL (ag 1) (aG (ae (eT (ae (dC (.str "deed")) (ae (dC (.str "P")) ah))) ah)))) (dC (.int 0)))))))
theorem Fz:ap ["_law_tree_here"] ["_law_tree_here"] (al vX):= .q
noncomputable def kI(g:Nat->List PV->Rx PV):DS :=
 (ay (cO (aU (d2 cD (d2 fIx (ag 0) (dC (.int 0))) (dC (.str "skip"))))
 (aJ (dC (.obj 8 [])))
 aQ)
 (ay (cO (aU (d2 cD (d2 fIx (ag 0) (dC (.int 0))) (dC (.str "stop"))))
 (aJ (dC (.obj 9 [])))
 aQ)
 (ay (cO (aU (d2 cD (d2 fIx (ag 0) (dC (.int 0))) (dC (.str "deed"))))
 (aJ (eB 10 (ae (d2 fIx (ag 0) (dC (.int 1))) ah)))
 aQ)
 (ay (cO (aU (d2 cD (d2 fIx (ag 0) (dC (.int 0))) (dC (.str "row"))))
 (aJ (eB 11 (ae (aj (g 23) (ae (d2 fIx (ag 0) (dC (.int 1))) ah)) (ae (aj (g 23) (ae (d2 fIx (ag 0) (dC (.int 2))) ah)) ah))))
 aQ)
 (ay (cO (aU (d2 cD (d2 fIx (ag 0) (dC (.int 0))) (dC (.str "if"))))
 (aJ (eB 12 (ae (aj (g 20) (ae (d2 fIx (ag 0) (dC (.int 1))) ah)) (ae (aj (g 23) (ae (d2 fIx (ag 0) (dC (.int 2))) ah)) (ae (aj (g 23) (ae (d2 fIx (ag 0) (dC (.int 3))) ah)) ah)))))
 aQ)
 (aJ (eB 13 (ae (aj (g 20) (ae (d2 fIx (ag 0) (dC (.int 1))) ah)) (ae (aj (g 23) (ae (d2 fIx (ag 0) (dC (.int 2))) ah)) ah)))))))))
theorem qN:ap ["_law_cell","_law_one","_law_other","_law_deed"] ["_law_cell"] (al vY):= .q
noncomputable def sW(g:Nat->List PV->Rx PV):DS :=
 (ay (aS 1 (aj (g 20) (ae (aj (g 19) (ae (d2 bV (ag 0) (dC (.int 4))) ah)) ah)))
 (ay (aS 2 (aj (g 20) (ae (aj (g 19) (ae (d2 bV (ag 0) (dC (.int 384))) ah)) ah)))
 (ay (aS 3 (d2 fIx (dC (.str "PQRST")) (d2 bD (d2 bV (ag 0) (dC (.int 36864))) (dC (.int 5)))))
 (ay (cO (aU (d2 cD (d2 bD (ag 0) (dC (.int 4))) (dC (.int 0))))
 (aJ (eB 21 (ae (af 1) ah)))
 aQ)
 (ay (cO (aU (d2 cD (d2 bD (ag 0) (dC (.int 4))) (dC (.int 1))))
 (aJ (eB 23 (ae (af 1) (ae (af 3) ah))))
 aQ)
 (aJ (eB 22 (ae (af 1) (ae (af 3) (ae (af 2) ah))))))))))
theorem FA:ap ["_law_cells","_law_many"] ["_law_cells","_law_many"] (al vZ):= .q
noncomputable def sX(g:Nat->List PV->Rx PV):DS :=
 (aJ (aG (dComp ["_law_cell"] [] (aE (aG (cT (ag 0) jn (g9 (af 1))))) (aD 0) bP (aj (g 24) (ae (af 0) ah)))))
theorem iy:ap ["_law_script","_law_step","_law_cell","_law_before","_law_after","_law_sayings_here","_law_idle"] ["_law_script"] (al w8):= .q
noncomputable def sY(g:Nat->List PV->Rx PV):DS :=
 (ay (aS 1 (aj (g 23) (ae (aj (g 22) (ae (aG (cT (ag 0) (g9 (dC (.int 2))) (g9 (dC (.int 7))))) ah)) ah)))
 (ay (aS 2 (aj (g 18) (ae (aj (g 17) (ae (af 0) (ae (dC (.int 0)) ah))) (ae (dC (.int 9)) ah))))
 (ay (aS 3 (aj (g 20) (ae (aj (g 19) (ae (d2 bV (ag 2) (dC (.int 4))) ah)) ah)))
 (ay (aS 4 (aj (g 20) (ae (aj (g 19) (ae (d2 bV (ag 2) (dC (.int 384))) ah)) ah)))
 (ay (cO (aU (d2 cD (d2 bD (d2 bV (ag 2) (dC (.int 36864))) (dC (.int 3))) (dC (.int 0))))
 (aS 3 (dC (.obj 1 [])))
 aQ)
 (ay (aS 5 (aj (g 25) (ae (aG (dComp ["_law_k"] [("_law_script",0)] (bA (ae (dC (.int 3)) ah)) (aD 0) bP (aj (g 18) (ae (aj (g 17) (ae (af 1) (ae (dC (.int 1)) ah))) (ae (af 0) ah))))) (ae (d2 bD (ag 2) (dC (.int 4))) ah))))
 (ay (cO (aU (d2 cD (d2 bD (d2 bV (ag 2) (dC (.int 110592))) (dC (.int 4))) (dC (.int 1))))
 (ay (aS 6 (aG (ae (eB 21 (ae (dC (.obj 2 [])) ah)) (ae (eB 23 (ae (dC (.obj 1 [])) (ae (dC (.str "P")) ah))) (ae (eB 22 (ae (dC (.obj 2 [])) (ae (dC (.str "Q")) (ae (af 3) ah)))) (ae (eB 22 (ae (af 4) (ae (dC (.str "R")) (ae (dC (.obj 1 [])) ah)))) ah))))))
 (aS 5 (aG (dL (aG (dL (ag 6) (aG (ae (eB 23 (ae (dC (.obj 2 [])) (ae (dC (.str "T")) ah))) ah)))) (ag 5)))))
 aQ)
 (aJ (eT (ae (af 3) (ae (af 1) (ae (af 4) (ae (af 5) ah)))))))))))))
theorem FB:ap ["_law_mask"] ["_law_mask"] (al w9):= .q
noncomputable def sZ(g:Nat->List PV->Rx PV):DS :=
 (aJ (aG (dComp ["_law_setting"] [("_law_mask",0)] (bA (ae (dC (.int 16)) ah)) (aD 0) (aU (d2 cD (d2 dj (d2 gw (ag 1) (ag 0)) (dC (.int 1))) (dC (.int 1)))) (af 0))))
theorem ln:ap ["_law_marks","_law_before","_law_doors","_law_after","_law_bonds","_law_good","_law_room","_law_setting","_law_what","_law_there"] ["_law_marks","_law_before","_law_doors","_law_after","_law_bonds"] (al wa):= .q
noncomputable def kh(g:Nat->List PV->Rx PV):DS :=
 (ay (se (jb 2 (ci (aD 8) (ci (aD 9) ja))) (d2 fIx (d2 fIx (ag 2) (ag 6)) (ag 7)))
 (ay (cO (f8 (aU (d2 cD (ag 8) (dC (.str "done")))) (f9 (aU (aO aK g (af 3) (ae (af 7) ah)))))
 (aJ (dC (.bl false)))
 aQ)
 (cO (f8 (aU (d2 (fJ true) (ag 8) (eT (ae (dC (.str "done")) (ae (dC (.str "stopped")) (ae (dC (.str "hung")) ah)))))) (aU (d2 iE (d2 dj (aO cV g (af 4) (ae (af 8) (ae (af 7) ah))) (d2 kA (dC (.int 65535)) (d2 fIx (ag 0) (ag 9)))) (dC (.int 0)))))
 (aJ (dC (.bl false)))
 aQ)))
noncomputable def pF(g:Nat->List PV->Rx PV):DS :=
 (sFor (aE (aG (dComp ["_law_one"] [("_law_marks",0),("_law_room",6)] (aE (ag 5)) (aD 0) (aU (d2 cD (d2 dj (d2 gw (d2 fIx (ag 1) (ag 2)) (ag 0)) (dC (.int 1))) (dC (.int 1)))) (af 0)))) (aD 7)
 (kh g))
noncomputable def t6(g:Nat->List PV->Rx PV):DS :=
 (ay (cO (iQ (aU (d2 iE (aj bR (ae (ag 0) ah)) (aj bR (ae (ag 2) ah)))) (aU (d2 iE (aG (dComp ["_law_mark"] [] (aE (ag 0)) (aD 0) (iQ (aU (d2 p8 (ag 0) (dC (.int 0)))) (aU (d2 uN (ag 0) (dC (.int 65535))))) (af 0))) (aG ah))))
 (aJ (dC (.bl false)))
 aQ)
 (ay (aS 5 (aj (g 27) (ae (aO gR g (af 4) ah) ah)))
 (ay (cO (aU (d2 iE (aG (dComp ["_law_setting"] [("_law_before",1),("_law_marks",0)] (aE (ag 5)) (aD 0) (f8 (aU (aO aK g (af 1) (ae (af 0) ah))) (aU (d2 cD (d2 dj (d2 gw (d2 fIx (ag 2) (dC (.int 0))) (ag 0)) (dC (.int 1))) (dC (.int 0))))) (af 0))) (aG ah)))
 (aJ (dC (.bl false)))
 aQ)
 (ay (sFor (bA (ae (aj bR (ae (ag 2) ah)) ah)) (aD 6)
 (pF g))
 (aJ (dC (.bl true)))))))
theorem om:ap ["_law_marks","_law_cell","_law_found","_law_room","_law_setting","_law_way"] ["_law_marks","_law_cell"] (al wb):= .q
noncomputable def t7(g:Nat->List PV->Rx PV):DS :=
 (ay (il 2 (fG j8 (ae (ag 0) ah)))
 (ay (cO (aU (d2 cD (ag 2) (aG ah)))
 (aJ (aG (ae (d2 bD (ag 1) (dC (.int 65536))) ah)))
 aQ)
 (ay (aS 3 (d2 bD (d2 bV (ag 1) (dC (.int 8))) (aj bR (ae (ag 2) ah))))
 (ay (aS 4 (d2 bD (d2 bV (ag 1) (dC (.int 104))) (dC (.int 16))))
 (ay (aS 5 (d2 bD (ag 1) (dC (.int 8))))
 (ay (cO (aU (d2 p8 (ag 5) (dC (.int 2))))
 (jd 2 (af 3) (d2 Eb (d2 fIx (ag 2) (ag 3)) (d2 gL (dC (.int 1)) (ag 4))))
 (cO (aU (d2 p8 (ag 5) (dC (.int 4))))
 (jd 2 (af 3) (d2 dj (d2 fIx (ag 2) (ag 3)) (d2 AY (dC (.int 65535)) (d2 gL (dC (.int 1)) (ag 4)))))
 (cO (aU (d2 cD (ag 5) (dC (.int 4))))
 (jd 2 (af 3) (dC (.int 65535)))
 (cO (aU (d2 cD (ag 5) (dC (.int 5))))
 (jd 2 (af 3) (d2 bD (d2 bV (ag 1) (dC (.int 104))) (dC (.int 65536))))
 (cO (aU (d2 cD (ag 5) (dC (.int 6))))
 (jd 2 (af 3) (d2 fIx (aG (ae (d2 gv (d2 fIx (ag 2) (ag 3)) (dC (.int 65536))) (ae (d2 kA (d2 fIx (ag 2) (ag 3)) (dC (.int 65536))) (ae (dC (.int 0)) ah)))) (d2 bD (d2 bV (ag 1) (dC (.int 104))) (dC (.int 3)))))
 (cO (aU (d2 cD (d2 bD (d2 bV (ag 1) (dC (.int 104))) (dC (.int 2))) (dC (.int 0))))
 (cN (ii 2 (cK (d2 bD (d2 bV (ag 1) (dC (.int 208))) (dC (.int 65536))))))
 (cN (iW 2 (af 3)))))))))
 (im (kC 2))))))))
theorem qO:ap ["_law_script","_law_before","_law_step","_law_after","_law_sayings_here","_law_many","_law_cell","_law_found"] ["_law_script","_law_before","_law_step","_law_after","_law_sayings_here"] (al wc):= .q
noncomputable def t8(g:Nat->List PV->Rx PV):DS :=
 (ay (aS 5 (aj bR (ae (aZ bK (aj (g 53) (ae (af 2) ah))) ah)))
 (ay (aS 6 (aj (g 17) (ae (af 0) (ae (dC (.int 8)) ah))))
 (ay (cO (aU (d2 uN (d2 bD (ag 6) (dC (.int 4))) (dC (.int 1))))
 (aJ (aG (dComp ["_law_room"] [("_law_cell",6)] (bA (ae (af 5) ah)) (aD 0) bP (d2 bD (aj (g 18) (ae (d2 bV (ag 1) (dC (.int 4))) (ae (af 0) ah))) (dC (.int 65536))))))
 aQ)
 (ay (aS 7 (aj (g 15) (ae (af 1) (ae (af 2) (ae (d2 fIx (aG (ae (af 3) (ae (dC (.obj 1 [])) ah))) (d2 bD (ag 6) (dC (.int 4)))) (ae (af 4) ah))))))
 (ay (cO (aU (gM i_z0d (ag 7)))
 (aJ (aG (fG j8 (ae (aZ cS (af 7)) ah))))
 aQ)
 (aJ (aG (dComp ["_law_room"] [] (bA (ae (af 5) ah)) (aD 0) bP (dC (.int 65535))))))))))
theorem wR:ap ["_law_marks","_law_before","_law_step","_law_after","_law_sayings_here","_law_found","_law_due"] ["_law_marks","_law_before","_law_step","_law_after","_law_sayings_here"] (al wd):= .q
noncomputable def t9(g:Nat->List PV->Rx PV):DS :=
 (ay (aS 5 (aO cQ g (aj (g 54) (ae (ag 0) ah)) (ae (af 1) (ae (af 2) (ae (af 3) (ae (af 4) ah))))))
 (ay (aS 6 (aj (g 28) (ae (af 0) (ae (af 1) (ae (aZ bK (aj (g 53) (ae (af 2) ah))) (ae (af 3) (ae (aj (g 52) (ae (af 4) ah)) ah)))))))
 (ay (cO (iQ (f9 (aU (gM i_bool (ag 5)))) (aU (d2 iE (ag 5) (ag 6))))
 (aJ (dC (.bl false)))
 aQ)
 (aJ (yg (qe (af 6)) (gM i_z0d (aj (g 15) (ae (af 1) (ae (af 2) (ae (af 3) (ae (af 4) ah)))))))))))
theorem fT:ap ["_law_script","_law_marks","_law_cell","_law_handed","_law_told","_law_fewer","_law_before","_law_step","_law_after","_law_sayings_here"] ["_law_script"] (al oj):= .q
noncomputable def mI(g:Nat->List PV->Rx PV):DS :=
 (aS 1 (aj (g 29) (ae (af 1) (ae (af 2) ah))))
noncomputable def tf(g:Nat->List PV->Rx PV):DS :=
 (ay (se (jb 4 (ci (aD 6) (ci (aD 7) (ci (aD 8) (ci (aD 9) ja))))) (aj (g 26) (ae (af 0) ah)))
 (ay (aS 1 (aj (g 30) (ae (af 0) .(Aj))))
 (ay (sFor (aE (aG (cT (ag 0) (g9 (dC (.int 9))) (g9 (d2 gv (dC (.int 9)) (d2 bD (d2 bV (aj (g 17) (ae (af 0) (ae (dC (.int 8)) ah))) (dC (.int 16))) (dC (.int 3)))))))) (aD 2)
 (mI g))
 (ay (il 3 (fG j8 (ae (ag 1) ah)))
 (ay (aS 4 (aj (g 54) (ae (ag 3) ah)))
 (ay (cN (ii 3 (cK (dC (.int 0)))))
 (ay (cO (f9 (aU (aj (g 31) (ae (af 1) .(Aj)))))
 (aJ (dC (.bl false)))
 aQ)
 (ay (aS 5 (aG (cT (ag 9) jn (g9 (yh (dC (.int 1)))))))
 (ay (cO (aU (d2 cD (d2 bD (d2 bV (aj (g 17) (ae (af 0) (ae (dC (.int 8)) ah))) (dC (.int 8))) (dC (.int 2))) (dC (.int 0))))
 (aJ (aj (g 31) (ae (af 1) (ae (af 6) (ae (af 7) (ae (af 8) (ae (af 5) ah)))))))
 aQ)
 (ay (cO (f9 (aU (aj (g 31) (ae (af 1) (ae (dC (.obj 1 [])) (ae (af 7) (ae (af 8) (ae (af 9) ah))))))))
 (aJ (dC (.bl false)))
 aQ)
 (aJ (d2 cD (aO cQ g (af 4) .(Aj)) (aO cQ g (aj (g 54) (ae (ag 1) ah)) .(Aj))))))))))))))
theorem gJ:ap ["self","total","setting"] ["self"] (al we):= .q
noncomputable def BP(g:Nat->List PV->Rx PV):DS :=
 (cO (aU (aO aK g (af 0) (ae (af 2) ah)))
 (jo 1 (fun i j=>i+j) (d2 gL (dC (.int 1)) (ag 2)))
 aQ)
noncomputable def wS(g:Nat->List PV->Rx PV):DS :=
 (ay (aS 1 (dC (.int 0)))
 (ay (sFor .(Ai) (aD 2)
 (BP g))
 (aJ (af 1))))
theorem FC:ap .(T) .(T) (al wf):= .q
noncomputable def BQ(g:Nat->List PV->Rx PV):DS :=
 (aJ (dC (.bl true)))
theorem FD:ap .(T) .(T) (al wj):= .q
noncomputable def BR(g:Nat->List PV->Rx PV):DS :=
 (aJ (dC (.bl false)))
theorem FE:ap .(T) .(T) (al wl):= .q
noncomputable def BS(g:Nat->List PV->Rx PV):DS :=
 (aJ (d2 cD (d2 dj (d2 gw (ag 1) (v6 lj (aZ k8 (af 0)))) (dC (.int 1))) (dC (.int 1))))
theorem FF:ap .(T) .(T) (al wm):= .q
noncomputable def BT(g:Nat->List PV->Rx PV):DS :=
 (aJ (qe (aO aK g (aZ mB (af 0)) (ae (af 1) ah))))
theorem FG:ap .(T) .(T) (al wn):= .q
noncomputable def BU(g:Nat->List PV->Rx PV):DS :=
 (aJ (uP (aO aK g (aZ k7 (af 0)) (ae (af 1) ah)) (aO aK g (aZ ix (af 0)) (ae (af 1) ah))))
theorem FH:ap .(T) .(T) (al wo):= .q
noncomputable def BV(g:Nat->List PV->Rx PV):DS :=
 (aJ (yg (aO aK g (aZ k7 (af 0)) (ae (af 1) ah)) (aO aK g (aZ ix (af 0)) (ae (af 1) ah))))
theorem FI:ap ["self"] ["self"] (al wq):= .q
noncomputable def BW(g:Nat->List PV->Rx PV):DS :=
 (aJ (aZ ff (af 0)))
theorem FJ:ap ["self","deed","setting"] ["self","deed","setting"] (al wt):= .q
noncomputable def tj(g:Nat->List PV->Rx PV):DS :=
 (aJ (d2 dj (d2 fIx (d2 lb (aZ fg (af 0)) (ag 1)) (ag 2)) (aZ ff (af 0))))
theorem jf:ap ["self","reached","visits","number","visit","told","fresh"] ["self"] (al wu):= .q
noncomputable def fP(g:Nat->List PV->Rx PV):DS :=
 (ay (aS 4 (d2 fIx (ag 2) (ag 3)))
 (ay (jo 3 (fun i j=>i+j) (dC (.int 1)))
 (ay (aS 5 (iU tC g gh (af 0) (ae (d2 fIx (ag 4) (dC (.int 0))) (ae (d2 fIx (ag 4) (dC (.int 1))) ah))))
 (ay (cO (aU (d2 cD (d2 fIx (ag 5) (dC (.int 0))) (dC (.str "found"))))
 (im (m5 (cM (kC 1) (cM (cK (aj (g 6) (ae (af 4) ah))) m4))))
 aQ)
 (cO (aU (d2 (fJ true) (d2 fIx (ag 5) (dC (.int 0))) (dC (.tup eU))))
 (ay (aS 6 (d2 dj (aO cV g (aZ cR (af 0)) (ae (d2 fIx (ag 5) (dC (.int 0))) (ae (d2 fIx (ag 4) (dC (.int 1))) ah))) (yH (cU (ag 1) .(Ah) (dC (.int 0))))))
 (ay (jX 1 .(Ah) (d2 Eb (cU (ag 1) .(Ah) (dC (.int 0))) (ag 6)))
 (cN (vj 2 (dComp ["setting"] [("visit",4),("told",5)] (aE (aj (g 1) (ae (af 6) ah))) (aD 0) bP (eT (ae (d2 fIx (ag 2) (dC (.int 1))) (ae (af 0) (ae (d2 fIx (ag 2) (dC (.int 0))) (ae (af 1) ah))))))))))
 aQ)))))
noncomputable def tm(g:Nat->List PV->Rx PV):DS :=
 (ay (ml 1 (aZ dJ (af 0)) (aZ cx (af 0)))
 (ay (il 2 (dComp ["setting"] [("self",0)] (aE (aj (g 1) (ae (aZ cx (af 0)) ah))) (aD 0) bP (eT (ae (aZ dJ (af 1)) (ae (af 0) (ae (dC (.str "")) (ae (dC .non) ah)))))))
 (ay (aS 3 (dC (.int 0)))
 (ay (fL (fW (aU (d2 p8 (ag 3) (aj bR (ae (ag 2) ah)))))
 (fP g))
 (im (m5 (cM (kC 1) (cM (cK (dC .non)) m4))))))))
theorem qP:ap ["self","masks","place","mask","setting"] ["self","masks"] (al wv):= .q
noncomputable def ki(g:Nat->List PV->Rx PV):DS :=
 (cO (f9 (aU (aO cF g (af 0) (ae (af 1) (ae (af 2) (ae (af 4) ah))))))
 (aJ (dC (.bl false)))
 aQ)
noncomputable def pG(g:Nat->List PV->Rx PV):DS :=
 (sFor (aE (aj (g 1) (ae (d2 dj (ag 3) (aO gR g (aZ cR (af 0)) ah)) ah))) (aD 4)
 (ki g))
noncomputable def tu(g:Nat->List PV->Rx PV):DS :=
 (ay (cO (f9 (aU (aj (g 7) (ae (aZ cx (af 0)) (ae (cU (ag 1) (aZ dJ (af 0)) (dC (.int 0))) ah)))))
 (aJ (dC (.bl false)))
 aQ)
 (ay (sForIt (af 1) (jb 2 (ci (aD 2) (ci (aD 3) ja)))
 (pG g))
 (aJ (dC (.bl true)))))
theorem zO:ap ["self","masks","place","setting","told"] ["self","masks","place","setting"] (al ww):= .q
noncomputable def tw(g:Nat->List PV->Rx PV):DS :=
 (ay (aS 4 (iU tC g gh (af 0) (ae (af 2) (ae (af 3) ah))))
 (ay (cO (aU (d2 cD (d2 fIx (ag 4) (dC (.int 0))) (dC (.str "found"))))
 (aJ (dC (.bl false)))
 aQ)
 (ay (cO (aU (d2 (fJ false) (d2 fIx (ag 4) (dC (.int 0))) (dC (.tup eU))))
 (aJ (dC (.bl true)))
 aQ)
 (aJ (aj (g 7) (ae (aO cV g (aZ cR (af 0)) (ae (d2 fIx (ag 4) (dC (.int 0))) (ae (af 3) ah))) (ae (cU (ag 1) (d2 fIx (ag 4) (dC (.int 1))) (dC (.int 0))) ah)))))))
theorem FK:ap ["self","before","step","after","sayings"] ["self","before","step","after","sayings"] (al wx):= .q
noncomputable def BX(g:Nat->List PV->Rx PV):DS :=
 (aJ (dC (.bl false)))
theorem zP:ap ["self","before","step","after","sayings","rooms"] ["self","before","step","after","sayings"] (al wz):= .q
noncomputable def tz(g:Nat->List PV->Rx PV):DS :=
 (ay (aS 5 (aj (g 53) (ae (af 2) ah)))
 (ay (cO (aU (d2 iE (aj bR (ae (aZ cS (af 0)) ah)) (aj bR (ae (aZ bK (af 5)) ah))))
 (aJ (dC (.bl false)))
 aQ)
 (ay (cO (f9 (aU (aj sj (ae (aG (dComp ["mask"] [] (aE (aZ cS (af 0))) (aD 0) bP (iV AX AX (dC (.int 0)) (ag 0) (dC (.int (65535)))))) ah))))
 (aJ (dC (.bl false)))
 aQ)
 (aJ (aO dM g (aj (g 16) (ae (af 1) (ae (af 5) (ae (af 3) (ae (aj (g 52) (ae (af 4) ah)) ah))))) (ae (GK (aZ cS (af 0))) ah))))))
theorem wT:ap .(T) .(T) (al wA):= .q
noncomputable def BY(g:Nat->List PV->Rx PV):DS :=
 (aJ (dC (.bl false)))
theorem zQ:ap ["self","deed","setting"] ["self","deed","setting"] (al wB):= .q
noncomputable def BZ(g:Nat->List PV->Rx PV):DS :=
 (aJ (dC (.int (65535))))
theorem FL:ap .(T) .(T) (al wC):= .q
noncomputable def tE(g:Nat->List PV->Rx PV):DS :=
 (aJ (aO aK g (aZ cI (af 0)) (ae (af 1) ah)))
theorem FM:ap ["self","deed","setting"] ["self","deed","setting"] (al wD):= .q
noncomputable def tF(g:Nat->List PV->Rx PV):DS :=
 (ay (cO (f8 (aU (d2 cD (ag 1) (aZ gQ (af 0)))) (aU (aO aK g (aZ iw (af 0)) (ae (af 2) ah))))
 (aJ (aO gS g (aZ jv (af 0)) ah))
 aQ)
 (aJ (dC (.int (65535)))))
theorem zR:ap ["self","deed","setting","mask"] ["self","deed","setting"] (al wE):= .q
noncomputable def tH(g:Nat->List PV->Rx PV):DS :=
 (ay (cO (aU (d2 iE (ag 1) (aZ gQ (af 0))))
 (aJ (dC (.int (65535))))
 aQ)
 (ay (aS 3 (aO gS g (aZ cI (af 0)) ah))
 (aJ (p9 (aU (aj (g 0) (ae (af 2) (ae (af 3) ah)))) (af 3) (d2 kA (dC (.int (65535))) (ag 3))))))
theorem FN:ap ["self","sayings"] ["self","sayings"] (al wF):= .q
noncomputable def on(g:Nat->List PV->Rx PV):DS :=
 (ay (jZ 14 0 (aj (g 2) (ae (af 1) ah)))
 (ay (jZ 14 1 (aj (g 3) (ae (af 1) ah)))
 (jZ 14 2 (aj (g 5) (ae (nY fM 0) (ae (nY fg 0) ah))))))
theorem FO:ap ["self","step"] ["self","step"] (al wG):= .q
noncomputable def oq(g:Nat->List PV->Rx PV):DS :=
 (ay (jZ 16 0 (af 1))
 (jZ 16 1 (aj (g 8) (ae (af 1) (ae (dC (.int 0)) ah)))))
theorem FP:ap ["self","marks"] ["self","marks"] (al wH):= .q
noncomputable def Ca(g:Nat->List PV->Rx PV):DS :=
 (jZ 18 0 (aG (fG j8 (ae (ag 1) ah))))
theorem FQ:ap ["self","settings","deeds"] ["self","settings","deeds"] (al wI):= .q
noncomputable def Cb(g:Nat->List PV->Rx PV):DS :=
 (ay (jZ 19 0 (aG (fG j8 (ae (ag 1) ah))))
 (jZ 19 1 (af 2)))
theorem zS:lY ["room","setting","rooms","fit","told"] ["room","setting"] ["rooms","fit"] sy.scope:=⟨rfl,rfl,rfl,by decide +kernel,rfl,by decide +kernel,by decide +kernel,by decide +kernel,by decide +kernel⟩
noncomputable def tI(g:Nat->List PV->Rx PV):DS :=
 (ay (aS 4 (d2 fIx (d2 fIx (aZ bK (af 2)) (ag 0)) (ag 1)))
 (ay (cO (f8 (aU (d2 cD (d2 fIx (ag 4) (dC (.int 0))) (dC (.str "done")))) (f9 (aU (aj (g 0) (ae (af 1) (ae (af 3) ah))))))
 (aJ (eT (ae (dC (.str "found")) (ae (af 0) ah))))
 aQ)
 (aJ (af 4))))
noncomputable def gF:Nat->Nat->List PV->Rx PV
 |0,_,_=> .bad
 |n+1,0,ws=>aH [false,false] 2 (sB (gF n)) ws
 |n+1,1,ws=>aH [false] 1 (sC (gF n)) ws
 |n+1,2,ws=>aH [false] 3 (sE (gF n)) ws
 |n+1,3,ws=>aH [false] 3 (sF (gF n)) ws
 |n+1,4,ws=>aH [false,false,false] 5 (sG (gF n)) ws
 |n+1,5,ws=>aH [false,false] 4 (sH (gF n)) ws
 |n+1,6,ws=>aH [false] 3 (sI (gF n)) ws
 |n+1,7,ws=>aH [false,false] 2 (sJ (gF n)) ws
 |n+1,8,ws=>aH [false,false] 2 (kH (gF n)) ws
 |n+1,9,ws=>aH [false] 1 (BO (gF n)) ws
 |n+1,10,ws=>aH [false,false] 4 (sK (gF n)) ws
 |n+1,11,ws=>aH [false,false] 5 (sL (gF n)) ws
 |n+1,12,ws=>aH [false,false] 4 (sM (gF n)) ws
 |n+1,13,ws=>aH [false,false] 2 (sN (gF n)) ws
 |n+1,14,ws=>aH [false,false] 2 (sO (gF n)) ws
 |n+1,15,ws=>aH [false,false,false,false] 6 (sP (gF n)) ws
 |n+1,16,ws=>aH [false,false,false,false] 6 (sQ (gF n)) ws
 |n+1,17,ws=>aH [false,false] 2 (sR (gF n)) ws
 |n+1,18,ws=>aH [false,false] 3 (wP (gF n)) ws
 |n+1,19,ws=>aH [false] 1 (sS (gF n)) ws
 |n+1,20,ws=>aH [false] 3 (sT (gF n)) ws
 |n+1,21,ws=>aH [false] 1 (sU (gF n)) ws
 |n+1,22,ws=>aH [false] 5 (sV (gF n)) ws
 |n+1,23,ws=>aH [false] 1 (kI (gF n)) ws
 |n+1,24,ws=>aH [false] 4 (sW (gF n)) ws
 |n+1,25,ws=>aH [false,false] 2 (sX (gF n)) ws
 |n+1,26,ws=>aH [false] 7 (sY (gF n)) ws
 |n+1,27,ws=>aH [false] 1 (sZ (gF n)) ws
 |n+1,28,ws=>aH [false,false,false,false,false] 10 (t6 (gF n)) ws
 |n+1,29,ws=>aH [false,false] 6 (t7 (gF n)) ws
 |n+1,30,ws=>aH [false,false,false,false,false] 8 (t8 (gF n)) ws
 |n+1,31,ws=>aH [false,false,false,false,false] 7 (t9 (gF n)) ws
 |n+1,32,ws=>aH [false] 10 (tf (gF n)) ws
 |n+1,33,ws=>aH [false] 3 (wS (gF n)) ws
 |n+1,34,ws=>aH [false,false] 2 (BQ (gF n)) ws
 |n+1,35,ws=>aH [false,false] 2 (BR (gF n)) ws
 |n+1,36,ws=>aH [false,false] 2 (BS (gF n)) ws
 |n+1,37,ws=>aH [false,false] 2 (BT (gF n)) ws
 |n+1,38,ws=>aH [false,false] 2 (BU (gF n)) ws
 |n+1,39,ws=>aH [false,false] 2 (BV (gF n)) ws
 |n+1,40,ws=>aH [false] 1 (BW (gF n)) ws
 |n+1,41,ws=>aH [false,false,false] 3 (tj (gF n)) ws
 |n+1,42,ws=>aH [false] 7 (tm (gF n)) ws
 |n+1,43,ws=>aH [false,false] 5 (tu (gF n)) ws
 |n+1,44,ws=>aH [false,false,false,false] 5 (tw (gF n)) ws
 |n+1,45,ws=>aH [false,false,false,false,false] 5 (BX (gF n)) ws
 |n+1,46,ws=>aH [false,false,false,false,false] 6 (tz (gF n)) ws
 |n+1,47,ws=>aH [false,false] 2 (BY (gF n)) ws
 |n+1,48,ws=>aH [false,false,false] 3 (BZ (gF n)) ws
 |n+1,49,ws=>aH [false,false] 2 (tE (gF n)) ws
 |n+1,50,ws=>aH [false,false,false] 3 (tF (gF n)) ws
 |n+1,51,ws=>aH [false,false,false] 4 (tH (gF n)) ws
 |n+1,52,ws=>jp 14 3 [false] 2 (on (gF n)) ws
 |n+1,53,ws=>jp 16 2 [false] 2 (oq (gF n)) ws
 |n+1,54,ws=>jp 18 1 [true] 2 (Ca (gF n)) ws
 |n+1,55,ws=>jp 19 2 [true,false] 3 (Cb (gF n)) ws
 |n+1,56,ws=>aH [false,false,false,false] 5 (tI (gF n)) ws
 |_+1,_,_=> .bad
#synth .(gq g_z0 0 (aH [false,false] 2) sB)
#synth .(gq g_z1 1 (aH [false] 1) sC)
#synth .(gq g_z2 2 (aH [false] 3) sE)
#synth .(gq g_z3 3 (aH [false] 3) sF)
#synth .(gq g_z4 4 (aH [false,false,false] 5) sG)
#synth .(gq g_z5 5 (aH [false,false] 4) sH)
#synth .(gq g_z6 6 (aH [false] 3) sI)
#synth .(gq g_z7 7 (aH [false,false] 2) sJ)
#synth .(gq g_z8 8 (aH [false,false] 2) kH)
#synth .(gq g_za 10 (aH [false,false] 4) sK)
#synth .(gq g_zb 11 (aH [false,false] 5) sL)
#synth .(gq g_zc 12 (aH [false,false] 4) sM)
#synth .(gq g_zd 13 (aH [false,false] 2) sN)
#synth .(gq g_ze 14 (aH [false,false] 2) sO)
#synth .(gq g_zf 15 (aH [false,false,false,false] 6) sP)
#synth .(gq g_zg 16 (aH [false,false,false,false] 6) sQ)
#synth .(gq g_zh 17 (aH [false,false] 2) sR)
#synth .(gq g_zi 18 (aH [false,false] 3) wP)
#synth .(gq g_zj 19 (aH [false] 1) sS)
#synth .(gq g_zk 20 (aH [false] 3) sT)
#synth .(gq g_zl 21 (aH [false] 1) sU)
#synth .(gq g_zm 22 (aH [false] 5) sV)
#synth .(gq g_zn 23 (aH [false] 1) kI)
#synth .(gq g_zo 24 (aH [false] 4) sW)
#synth .(gq g_zp 25 (aH [false,false] 2) sX)
#synth .(gq g_zq 26 (aH [false] 7) sY)
#synth .(gq g_zr 27 (aH [false] 1) sZ)
#synth .(gq g_zs 28 (aH [false,false,false,false,false] 10) t6)
#synth .(gq g_zt 29 (aH [false,false] 6) t7)
#synth .(gq g_zu 30 (aH [false,false,false,false,false] 8) t8)
#synth .(gq g_zv 31 (aH [false,false,false,false,false] 7) t9)
#synth .(gq g_zw 32 (aH [false] 10) tf)
#synth .(gq g_zG 42 (aH [false] 7) tm)
#synth .(gq g_zH 43 (aH [false,false] 5) tu)
#synth .(gq g_zI 44 (aH [false,false,false,false] 5) tw)
#synth .(gq g_zK 46 (aH [false,false,false,false,false] 6) tz)
#synth .(gq g_zQ 52 (jp 14 3 [false] 2) on)
theorem wU:∀(n:Nat) (ws:List PV) (w:PV),gF n 52 ws= .ok w->∃fs,w= .obj 14 fs
 |0,ws,w,h=>by cases h
 |n+1,ws,w,h=>iq h
#synth .(gq g_zR 53 (jp 16 2 [false] 2) oq)
theorem qQ:∀(n:Nat) (ws:List PV) (w:PV),gF n 53 ws= .ok w->∃fs,w= .obj 16 fs
 |0,ws,w,h=>by cases h
 |n+1,ws,w,h=>iq h
theorem qR:∀(n:Nat) (ws:List PV) (w:PV),gF n 54 ws= .ok w->∃fs,w= .obj 18 fs
 |0,ws,w,h=>by cases h
 |n+1,ws,w,h=>iq h
theorem FR:∀(n:Nat) (ws:List PV) (w:PV),gF n 55 ws= .ok w->∃fs,w= .obj 19 fs
 |0,ws,w,h=>by cases h
 |n+1,ws,w,h=>iq h
#synth .(gq g_zU 56 (aH [false,false,false,false] 5) tI)
structure Cc(P:Program)(w:World)(K:Fg)(mg:Str->Option Value)(base:Bs)(cA:Nat->Addr)(n:Nat):Prop where
 h_z0:.(ta "is_in" [false,false] 0)
 h_z1:.(ta "settings_in" [false] 1)
 h_z2:.(ta "unbarred_by" [false] 2)
 h_z3:.(ta "let_by_all" [false] 3)
 h_z4:.(ta "later_by_all" [false,false,false] 4)
 h_z5:.(ta "lasting_within" [false,false] 5)
 h_z6:.(ta "word_to" [false] 6)
 h_z7:.(ta "is_within" [false,false] 7)
 h_z8:.(ta "doors_of" [false,false] 8)
 h_z9:.(ta "ended" [false] 9)
 h_za:.(ta "row_doors" [false,false] 10)
 h_zb:.(ta "choice_doors" [false,false] 11)
 h_zc:.(ta "loop_doors" [false,false] 12)
 h_zd:.(ta "loop_door" [false,false] 13)
 h_ze:.(ta "gone_on" [false,false] 14)
 h_zf:.(ta "marked" [false,false,false,false] 15)
 h_zg:.(ta "breaks_of" [false,false,false,false] 16)
 h__law_cell_at:.(ta "_law_cell_at" [false,false] 17)
 h__law_mixed:.(ta "_law_mixed" [false,false] 18)
 h__law_guard:.(ta "_law_guard" [false] 19)
 h__law_guard_test:.(ta "_law_guard_test" [false] 20)
 h__law_leaf:.(ta "_law_leaf" [false] 21)
 h__law_tree:.(ta "_law_tree" [false] 22)
 h__law_made:.(ta "_law_made" [false] 23)
 h__law_saying:.(ta "_law_saying" [false] 24)
 h__law_sayings:.(ta "_law_sayings" [false,false] 25)
 h__law_drawn:.(ta "_law_drawn" [false] 26)
 h__law_bits:.(ta "_law_bits" [false] 27)
 h__law_closed:.(ta "_law_closed" [false,false,false,false,false] 28)
 h__law_changed:.(ta "_law_changed" [false,false] 29)
 h__law_first_marks:.(ta "_law_first_marks" [false,false,false,false,false] 30)
 h__law_stands:.(ta "_law_stands" [false,false,false,false,false] 31)
 h_zw:.(ta "law" [false] 32)
 cl:lc P w K mg base (pg cA) (2*n+3) tC (gF n)
 m_bars:gx P w K mg base (pg cA) (2*n+3) "bars" [false] iX (gF n)
 m_goes_on_within:gx P w K mg base (pg cA) (2*n+3) "goes_on_within" [false,false,false] cF (gF n)
 m_good:gx P w K mg base (pg cA) (2*n+3) "good" [] gR (gF n)
 m_holds:gx P w K mg base (pg cA) (2*n+3) "holds" [false] aK (gF n)
 m_is_closed:gx P w K mg base (pg cA) (2*n+3) "is_closed" [false] dM (gF n)
 m_later_mask:gx P w K mg base (pg cA) (2*n+3) "later_mask" [false,false] cb (gF n)
 m_mask:gx P w K mg base (pg cA) (2*n+3) "mask" [] gS (gF n)
 m_search:gx P w K mg base (pg cA) (2*n+3) "search" [] fh (gF n)
 m_stands:gx P w K mg base (pg cA) (2*n+3) "stands" [false,false,false,false] cQ (gF n)
 m_ways:gx P w K mg base (pg cA) (2*n+3) "ways" [false,false] cV (gF n)
 n_z09:sk P w K mg base (pg cA) (2*n+3) "Bonds" 14 [false] (gF n 52)
 n_z0e:sk P w K mg base (pg cA) (2*n+3) "Broken" 19 [true,false] (gF n 55)
 n_z0d:sk P w K mg base (pg cA) (2*n+3) "Kept" 18 [true] (gF n 54)
 n_z0b:sk P w K mg base (pg cA) (2*n+3) "Rooms" 16 [false] (gF n 53)
noncomputable section
variable{P:Program}{w:World}{K:Fg}{mg:Str->Option Value}{base:Bs}{cA:Nat->Addr}{ts:List Addr}{n:Nat}(C:Ct P w K mg base cA ts)(I:Cc P w K mg base cA n)
variable{f:Addr}{cdv:Value}{A:Around}{outer:List Env}{s:Shared}{H:Hp}{E:XK}
include C I
theorem II(hr:.(hr "is_in" vB)):.(bo ["setting","mask"] "is_in" vB sB):=by
 unfold sB
 exact(ak (az (yk hr (b_of (p_and (b_of (p_shr (b_var 1) (b_var 0))) (b_of p_int))) (b_of p_int))))
theorem IJ(hr:.(hr "settings_in" vC)):.(bo ["mask"] "settings_in" vC sC):=by
 obtain⟨_,g_SETTINGS⟩:=C.e_SETTINGS
 unfold sC
 exact(ak (az (p_of_n (bY (own:=["setting"]) (caps:=[("mask",0)]) .(K) rfl (s_of_i .(Ag)) (.(gn ["setting","mask"])) (fun _ _ _ _=>(ts_one (t_val (p_fn I.h_z0 hr.s rfl (a_cons (p_var 0) .(X)))))) (fun _ _ _ _=>(p_var 0)) gk_set))))
theorem IK(hr:.(hr "unbarred_by" vD)):.(bo ["sayings","mask","setting"] "unbarred_by" vD sE):=by
 obtain⟨_,g_EVERY⟩:=C.e_EVERY
 obtain⟨_,g_SETTINGS⟩:=C.e_SETTINGS
 unfold sE
 exact(ai (aT (i:=1) qI.nd rfl (Or.inl rfl) (p_topI rfl g_EVERY))
 (ai (gH PassesOwn.never rfl .(Ag) (bX (i:=2) qI.nd rfl (Or.inr rfl))
 (ak (bj (t_val (p_callB (si rfl) Ba rfl C.z_any boot_any (a_consB (b_of (p_of_n (bY (own:=["saying"]) (caps:=[("setting",2)]) .(K) rfl (s_list (b_var 0)) (.(gn ["saying","setting"])) (fun _ _ _ _=>ts_nil) (fun _ _ _ _=>(p_meth I.m_bars hr.s (p_var 0) .(X))) gk_set))) a_nil)))
 (ak (nS (i:=1) qI.nd rfl (Or.inl rfl) (nL (b_of p_int) (b_var 2)) Ah))
 aI)))
 (ak (az (p_var 1)))))
theorem IL(hr:.(hr "let_by_all" vE)):.(bo ["sayings","masks","deed"] "let_by_all" vE sF):=by
 obtain⟨_,g_DEEDS,t_DEEDS⟩:=C.e_DEEDS
 obtain⟨_,g_SETTINGS⟩:=C.e_SETTINGS
 unfold sF
 exact(ai (Bb (i:=1) wK.nd rfl (Or.inl rfl))
 (ai (gH PassesOwn.never rfl (i_topT (ws:=fO)  t_DEEDS rfl g_DEEDS (fun _ _=>⟨_,_,rfl,rfl,⟨_,_,rfl,rfl,⟨_,_,rfl,rfl,⟨_,_,rfl,rfl,⟨_,_,rfl,rfl,rfl⟩⟩⟩⟩⟩)) (bX (i:=2) wK.nd rfl (Or.inr rfl))
 (ak (vg 1 (hU hr) (p_var 2) (p_of_n (bY (own:=["setting"]) (caps:=[("sayings",0),("deed",2)]) ⟨rfl,by decide +kernel,by decide +kernel,⟨⟨rfl,rfl,Or.inl rfl⟩,.(M)⟩,rfl⟩ rfl (s_of_i .(Ag)) (.(gn ["setting","sayings","deed"])) (fun _ _ _ _=>ts_nil) (fun _ _ _ _=>(p_fn I.h_z4 hr.s rfl (a_cons (p_var 1) (a_cons (p_var 2) (a_cons (p_var 0) a_nil))))) gk_set)) rfl)))
 (ak (jR (nO 1)))))
theorem IM(hr:.(hr "later_by_all" vF)):.(bo ["sayings","deed","setting","mask","saying"] "later_by_all" vF sG):=by
 obtain⟨_,g_EVERY⟩:=C.e_EVERY
 unfold sG
 exact(ai (aT (i:=3) qJ.nd rfl (Or.inl rfl) (p_topI rfl g_EVERY))
 (ai (gH PassesOwn.never rfl (DN.Hr (p_var 0)) (bX (i:=4) qJ.nd rfl (Or.inl rfl))
 (ak (nS (i:=3) qJ.nd rfl (Or.inl rfl) (p_meth I.m_later_mask hr.s (p_var 4) (a_cons (p_var 1) (a_cons (p_var 2) a_nil))) Bp)))
 (ak (az (p_var 3)))))
theorem IN(hr:.(hr "lasting_within" vG)):.(bo ["mask","let_by","left","setting"] "lasting_within" vG sH):=by
 obtain⟨_,g_DEEDS,t_DEEDS⟩:=C.e_DEEDS
 unfold sH
 exact(ak (ir PassesOwn.never (qx (t_val f7))
 (ai (aT (i:=2) ol.nd rfl (Or.inl rfl) p_int)
 (ai (gH PassesOwn.never rfl (DN.Hr (p_fn I.h_z1 hr.s rfl (a_cons (p_var 0) a_nil))) (bX (i:=3) ol.nd rfl (Or.inr rfl))
 (ak (bj (t_val (p_callB (la rfl) ve rfl C.z_all boot_all (a_consB (b_of (p_of_n (bY (own:=["deed"]) (caps:=[("mask",0),("setting",3),("let_by",1)]) ⟨rfl,by decide +kernel,by decide +kernel,⟨⟨rfl,rfl,Or.inl rfl⟩,⟨⟨rfl,rfl,Or.inl rfl⟩,.(M)⟩⟩,rfl⟩ rfl (s_of_i (i_topT (ws:=fO)  t_DEEDS rfl g_DEEDS (fun _ _=>⟨_,_,rfl,rfl,⟨_,_,rfl,rfl,⟨_,_,rfl,rfl,⟨_,_,rfl,rfl,⟨_,_,rfl,rfl,rfl⟩⟩⟩⟩⟩))) (.(gn ["deed","mask","setting","let_by"])) (fun _ _ _ _=>ts_nil) (fun _ _ _ _=>(Hw hr (b_of (p_and (b_of (p_at (b_of (vh (hU hr) (b_var 3) (b_var 0) .(G))) (b_var 2) .(G))) (b_var 1))) (b_of p_int))) gk_set))) a_nil)))
 (ak (nS (i:=2) ol.nd rfl (Or.inl rfl) (nL (b_of p_int) (b_var 3)) oJ))
 aI)))
 (ai (bj (t_eq hr (b_var 2) (b_var 0))
 (ak (az (p_var 0)))
 aI)
 (ak (aT (i:=0) ol.nd rfl (Or.inr rfl) (p_var 2))))))))
theorem IO(hr:.(hr "word_to" vH)):.(bo ["visit","settings","deeds"] "word_to" vH sI):=by
 unfold sI
 exact(ai (nR (i:=1) qK.nd rfl (Or.inl rfl) (n_lst a_nil))
 (ai (nR (i:=2) qK.nd rfl (Or.inl rfl) (n_lst a_nil))
 (ai (ir PassesOwn.never (qx (uO (b_var 0)))
 (ai (dH (ik 1 (g8 .(D))))
 (ai (dH (ik 2 (g8 .(D))))
 (ak (aT (i:=0) qK.nd rfl (Or.inl rfl) .(D))))))
 (ai (dH (zD 1))
 (ai (dH (zD 2))
 (ak (jR (jP (bG (nO 1) (bG (g8 (Bo bM (b_var 2))) gP))))))))))
theorem IP(hr:.(hr "is_within" vI)):.(bo ["mask","larger"] "is_within" vI sJ):=by
 unfold sJ
 exact(ak (az (yk hr (b_of (p_and (b_var 0) (b_var 1))) (b_var 0))))
theorem IQ(hr:.(hr "doors_of" vJ)):.(bo ["step","ahead"] "doors_of" vJ kH):=by
 obtain⟨_,g_DONE⟩:=C.e_DONE
 obtain⟨_,g_SETTINGS⟩:=C.e_SETTINGS
 obtain⟨_,g_STOPPED⟩:=C.e_STOPPED
 unfold kH
 exact(ai (bj (t_val (j9 rfl C.z_isinstance C.i_z03 eE (b_var 0) (cJ rfl C.c_z03)))
 (ak (az (p_of_n (n_lst (a_cons (p_fn I.h_z9 hr.s rfl (a_cons (ee rfl g_DONE) a_nil)) a_nil)))))
 aI)
 (ai (bj (t_val (j9 rfl C.z_isinstance C.i_z04 eE (b_var 0) (cJ rfl C.c_z04)))
 (ak (az (p_of_n (n_lst (a_cons (p_fn I.h_z9 hr.s rfl (a_cons (ee rfl g_STOPPED) a_nil)) a_nil)))))
 aI)
 (ai (bj (t_val (j9 rfl C.z_isinstance C.i_z05 eE (b_var 0) (cJ rfl C.c_z05)))
 (ak (az (p_of_n (n_lst (a_cons (p_of_n (zE (n_lst (a_cons (p_tup (a_cons (p_fld C.f_name (p_var 0) rfl) (a_cons (gE (b_var 1) (b_of p_int)) a_nil))) a_nil)) (p_topI rfl g_SETTINGS))) (a_cons (p_fn I.h_z9 hr.s rfl (a_cons (ee rfl g_DONE) a_nil)) a_nil))))))
 aI)
 (ai (bj (t_val (j9 rfl C.z_isinstance C.i_z06 eE (b_var 0) (cJ rfl C.c_z06)))
 (ak (az (p_fn I.h_za hr.s rfl (a_cons (p_var 0) .(X)))))
 aI)
 (ai (bj (t_val (j9 rfl C.z_isinstance C.i_z07 eE (b_var 0) (cJ rfl C.c_z07)))
 (ak (az (p_fn I.h_zb hr.s rfl (a_cons (p_var 0) .(X)))))
 aI)
 (ak (az (p_fn I.h_zc hr.s rfl (a_cons (p_var 0) .(X))))))))))
theorem IR(hr:.(hr "ended" vK)):.(bo ["end"] "ended" vK BO):=by
 obtain⟨_,g_SETTINGS⟩:=C.e_SETTINGS
 unfold BO
 exact(ak (az (p_of_n (zE (n_lst (a_cons (p_tup (a_cons (p_var 0) (a_cons p_int a_nil))) a_nil)) (p_topI rfl g_SETTINGS)))))
theorem IS(hr:.(hr "row_doors" vL)):.(bo ["step","ahead","head","tail"] "row_doors" vL sK):=by
 unfold sK
 exact(ai (aT (i:=2) wL.nd rfl (Or.inl rfl) (p_fn I.h_z8 hr.s rfl (a_cons (p_fld C.f_head (p_var 0) rfl) .(X))))
 (ai (aT (i:=3) wL.nd rfl (Or.inr rfl) (p_fn I.h_z8 hr.s rfl (a_cons (p_fld C.f_tail (p_var 0) rfl) (a_cons (nI (b_of (gE (b_var 1) (b_of .(Aa)))) (b_of p_int)) a_nil))))
 (ak (az (p_of_n (jM (b_of (p_of_n (bY (own:=["doors"]) (caps:=[("tail",3)]) .(K) rfl (s_list (b_var 2)) (.(gn ["doors","tail"])) (fun _ _ _ _=>ts_nil) (fun _ _ _ _=>(p_fn I.h_ze hr.s rfl (a_cons (p_var 0) (a_cons (p_at (b_var 1) (b_of p_int) .(G)) a_nil)))) gk_set))) (b_of (p_of_n (n_cut (b_var 3) (o_some p_int) o_none))) fF))))))
theorem IT(hr:.(hr "choice_doors" vM)):.(bo ["step","ahead","yes","no","begin"] "choice_doors" vM sL):=by
 obtain⟨_,g_SETTINGS⟩:=C.e_SETTINGS
 unfold sL
 exact(ai (aT (i:=2) qL.nd rfl (Or.inr rfl) (p_fn I.h_z8 hr.s rfl (a_cons (p_fld C.f_yes (p_var 0) rfl) .(X))))
 (ai (aT (i:=3) qL.nd rfl (Or.inr rfl) (p_fn I.h_z8 hr.s rfl (a_cons (p_fld C.f_no (p_var 0) rfl) (a_cons (nI (b_of (gE (b_var 1) (b_of .(Aa)))) (b_of p_int)) a_nil))))
 (ai (Bg (i:=4) qL.nd rfl (Or.inl rfl) (own:=["setting"]) (caps:=[("yes",2),("no",3),("step",0)]) ⟨rfl,by decide +kernel,by decide +kernel,⟨⟨rfl,rfl,Or.inl rfl⟩,⟨⟨rfl,rfl,Or.inl rfl⟩,.(M)⟩⟩,rfl⟩ rfl (s_of_i .(Ag)) (.(gn ["setting","yes","no","step"])) (fun _ _ _ _=>ts_nil) (fun _ _ _ _=>(p_ifV (t_val (p_meth I.m_holds hr.s (p_fld C.f_test (p_var 3) rfl) (a_cons (p_var 0) a_nil))) (p_at (b_of (p_at (b_var 1) (b_of p_int) .(G))) (b_var 0) .(G)) (p_at (b_of (p_at (b_var 2) (b_of p_int) .(G))) (b_var 0) .(G)))) gk_set)
 (ak (az (p_of_n (jM (b_of (p_of_n (jM (b_of (p_of_n (n_lst (a_cons (p_var 4) a_nil)))) (b_of (p_of_n (n_cut (b_var 2) (o_some p_int) o_none))) fF))) (b_of (p_of_n (n_cut (b_var 3) (o_some p_int) o_none))) fF)))))))
theorem IU(hr:.(hr "loop_doors" vN)):.(bo ["step","ahead","body","begin"] "loop_doors" vN sM):=by
 obtain⟨_,g_SETTINGS⟩:=C.e_SETTINGS
 unfold sM
 exact(ai (aT (i:=2) wM.nd rfl (Or.inr rfl) (p_fn I.h_z8 hr.s rfl (a_cons (p_fld C.f_body (p_var 0) rfl) .(X))))
 (ai (aT (i:=3) wM.nd rfl (Or.inr rfl) (p_of_n (bY (own:=["setting"]) (caps:=[("body",2),("step",0)]) ⟨rfl,by decide +kernel,by decide +kernel,⟨⟨rfl,rfl,Or.inl rfl⟩,.(M)⟩,rfl⟩ rfl (s_of_i .(Ag)) (.(gn ["setting","body","step"])) (fun _ _ _ _=>ts_nil) (fun _ _ _ _=>(p_fn I.h_zd hr.s rfl (a_cons (p_meth I.m_holds hr.s (p_fld C.f_test (p_var 2) rfl) (a_cons (p_var 0) a_nil)) (a_cons (p_at (b_of (p_at (b_var 1) (b_of p_int) .(G))) (b_var 0) .(G)) a_nil)))) gk_set)))
 (ak (az (p_of_n (jM (b_of (p_of_n (n_lst (a_cons (p_var 3) a_nil)))) (b_of (p_of_n (bY (own:=["doors"]) (caps:=[("begin",3)]) .(K) rfl (s_list (b_of (p_of_n (n_cut (b_var 2) (o_some p_int) o_none)))) (.(gn ["doors","begin"])) (fun _ _ _ _=>ts_nil) (fun _ _ _ _=>(p_fn I.h_ze hr.s rfl (a_cons (p_var 0) .(X)))) gk_set))) fF))))))
theorem IV(hr:.(hr "loop_door" vO)):.(bo ["holds","door"] "loop_door" vO sN):=by
 obtain⟨_,g_DONE⟩:=C.e_DONE
 obtain⟨_,g_HUNG⟩:=C.e_HUNG
 unfold sN
 exact(ai (bj (ie (t_val (p_var 0)))
 (ak (az (p_tup (a_cons (ee rfl g_DONE) (a_cons p_int a_nil)))))
 aI)
 (ai (bj (t_eq hr (b_of (p_at (b_var 1) (b_of p_int) .(G))) (b_of (ee rfl g_DONE)))
 (ak (az (p_tup (a_cons (ee rfl g_HUNG) (a_cons p_int a_nil)))))
 aI)
 (ak (az (p_var 1)))))
theorem IW(hr:.(hr "gone_on" vP)):.(bo ["doors","later"] "gone_on" vP sO):=by
 obtain⟨_,g_DONE⟩:=C.e_DONE
 obtain⟨_,g_SETTINGS⟩:=C.e_SETTINGS
 unfold sO
 exact(ak (az (p_of_n (bY (own:=["setting"]) (caps:=[("later",1),("doors",0)]) ⟨rfl,by decide +kernel,by decide +kernel,⟨⟨rfl,rfl,Or.inl rfl⟩,.(M)⟩,rfl⟩ rfl (s_of_i .(Ag)) (.(gn ["setting","later","doors"])) (fun _ _ _ _=>ts_nil) (fun _ _ _ _=>(p_ifV (t_eq hr (b_of (p_at (b_of (p_at (b_var 2) (b_var 0) .(G))) (b_of p_int) .(G))) (b_of (ee rfl g_DONE))) (p_at (b_var 1) (b_var 0) .(G)) (p_at (b_var 2) (b_var 0) .(G)))) gk_set))))
theorem IX(hr:.(hr "marked" vQ)):.(bo ["before","step","after","sayings","rooms","told"] "marked" vQ sP):=by
 unfold sP
 exact(ai (aT (i:=4) wN.nd rfl (Or.inl rfl) (dS I.n_z0b hr rfl .(X) (qQ _)))
 (ai (aT (i:=5) wN.nd rfl (Or.inr rfl) (eN I.m_search hr.s (p_fn I.h_zg hr.s rfl (a_cons (p_var 0) (a_cons (p_var 4) (a_cons (p_var 2) (a_cons (dS I.n_z09 hr rfl (a_cons (p_var 3) a_nil) (wU _)) a_nil)))))))
 (ai (bj (uO (b_of (p_at (b_var 5) (b_of p_int) .(G))))
 (ak (az (dS I.n_z0e hr rfl (a_consB (b_of (p_at (b_of (p_at (b_var 5) (b_of p_int) .(G))) (b_of p_int) .(G))) (a_cons (p_at (b_of (p_at (b_var 5) (b_of p_int) .(G))) (b_of p_int) .(G)) a_nil)) (FR _))))
 aI)
 (ak (az (dS I.n_z0d hr rfl (a_consB (b_of (p_of_n (bY (own:=["room"]) (caps:=[("told",5)]) .(K) rfl (s_of_i (i_rng1 rfl C.z_range (a_cons (p_callB call_len cb_len rfl C.z_len PySem.boot_len (a_consB (b_of (p_fld C.f_doors (p_var 4) rfl)) a_nil)) a_nil))) (.(gn ["room","told"])) (fun _ _ _ _=>ts_nil) (fun _ _ _ _=>(ip (hU hr) (b_of (p_at (b_var 1) (b_of p_int) .(G))) (b_var 0) p_int ⟨rfl,rfl,rfl,rfl⟩)) gk_set))) a_nil) (qR _)))))))
theorem IY{f c Pt:Addr}{A:Around}{outer:List Env}{s:Shared}{H:Hp}{E:XK}(hr:bv (2*n+4) (A.deeper (PyProof.Rows.envOfC "breaks_of" (al oi) s.heap.objs.size f (.ref c))))(mk:E5 (iK fX P w K mg base ["before","rooms","after","bonds","door","fit"] "breaks_of" (al oi) f (.ref c) A outer s H E).nox c Pt) :
  mU (iK fX P w K mg base ["before","rooms","after","bonds","door","fit"] "breaks_of" (al oi) f (.ref c) A outer s H E).nox (pg cA) (bF oi) (sQ (gF n)):=by
 unfold sQ
 exact(ai (aT (i:=5) wO.nd rfl (Or.inr rfl) (eN I.m_mask hr.s (p_var 2)))
 (yF ["fit","rooms"]
 (ai (F2 (i:=4) 56 rfl ⟨mk.code,mk.hd,mk.tab⟩ (vt (js:=[1,5]) rfl rfl rfl) wO.nd rfl (Or.inl rfl))
 (ak (az (cL (k:=2*n+2) C.n_z0a hr rfl (a_cons (p_var 3) (a_cons p_int (a_cons (p_and (b_of (eN I.m_good hr.s (p_var 3))) (b_of (eN I.m_mask hr.s (p_var 0)))) (a_cons (p_var 4) a_nil)))) rfl))))))
theorem IZ(hr:.(hr "_law_cell_at" vR)):.(bo ["_law_script","_law_k"] "_law_cell_at" vR sR):=by
 unfold sR
 exact(ai (bj (t_lt (b_var 1) (b_of (p_callB call_len cb_len rfl C.z_len PySem.boot_len (a_consB (b_var 0) a_nil))))
 (ak (az (p_at (b_var 0) (b_var 1) .(G))))
 aI)
 (ak (az p_int)))
theorem J0(hr:.(hr "_law_mixed" vS)):.(bo ["_law_cell","_law_k","_law_number"] "_law_mixed" vS wP):=by
 unfold wP
 exact(ai (aT (i:=2) qM.nd rfl (Or.inl rfl) (p_mod (b_of (nJ (b_of (gE (b_of (gE (b_of (p_and (b_var 0) (b_of p_int))) (b_of (nJ (b_of p_int) (b_var 1))))) (b_of p_int))) (b_of p_int))) (b_of p_int)))
 (ai (aT (i:=2) qM.nd rfl (Or.inl rfl) (p_mod (b_of (nJ (b_var 2) (b_of (gE (b_of (p_div (b_var 2) (b_of p_int))) (b_of p_int))))) (b_of p_int)))
 (ai (aT (i:=2) qM.nd rfl (Or.inl rfl) (p_mod (b_of (nJ (b_var 2) (b_of (gE (b_of (p_div (b_var 2) (b_of p_int))) (b_of p_int))))) (b_of p_int)))
 (ak (az (zr (b_var 2) (b_of (p_and (b_of (p_shr (b_var 0) (b_of (gE (b_of (nJ (b_of p_int) (b_var 1))) (b_of p_int))))) (b_of p_int)))))))))
theorem J1(hr:.(hr "_law_guard" vT)):.(bo ["_law_cell"] "_law_guard" vT sS):=by
 unfold sS
 exact(ak (az (p_tup (a_cons (p_mod (b_var 0) (b_of p_int)) (a_cons (p_at (b_of bM) (b_of (p_mod (b_of (p_div (b_var 0) (b_of p_int))) (b_of p_int))) .(G)) (a_cons (p_at (b_of bM) (b_of (p_mod (b_of (p_div (b_var 0) (b_of p_int))) (b_of p_int))) .(G)) a_nil))))))
theorem J2(hr:.(hr "_law_guard_test" vU)):.(bo ["_law_guard_here","_law_one","_law_other"] "_law_guard_test" vU sT):=by
 unfold sT
 exact(ai (aT (i:=1) wQ.nd rfl (Or.inl rfl) (cL (k:=2*n+2) C.n_zY hr rfl (a_cons .(D) a_nil) rfl))
 (ai (aT (i:=2) wQ.nd rfl (Or.inl rfl) (cL (k:=2*n+2) C.n_zY hr rfl (a_cons .(D) a_nil) rfl))
 (ai (bj (t_eq hr (b_of .(D)) (b_of p_int))
 (ak (az (p_var 1)))
 aI)
 (ai (bj (t_eq hr (b_of .(D)) (b_of p_int))
 (ak (az (cL (k:=2*n+2) C.n_zZ hr rfl .(X) rfl)))
 aI)
 (ai (bj (t_eq hr (b_of .(D)) (b_of p_int))
 (ak (az (cL (k:=2*n+2) C.n_z00 hr rfl (a_cons (p_var 1) (a_cons (cL (k:=2*n+2) C.n_zZ hr rfl (a_cons (p_var 2) a_nil) rfl) a_nil)) rfl)))
 aI)
 (ai (bj (t_eq hr (b_of .(D)) (b_of p_int))
 (ak (az (cL (k:=2*n+2) C.n_z01 hr rfl (a_cons (p_var 1) (a_cons (p_var 2) a_nil)) rfl)))
 aI)
 (ai (bj (t_eq hr (b_of .(D)) (b_of p_int))
 (ak (az (cL (k:=2*n+2) C.n_zZ hr rfl (a_cons (cL (k:=2*n+2) C.n_z01 hr rfl (a_cons (p_var 1) (a_cons (p_var 2) a_nil)) rfl) a_nil) rfl)))
 aI)
 (ai (bj (Ed (b_of .(D)) (b_of bM))
 (ak (az (dQ C.k_zW rfl rfl C.c_zW)))
 aI)
 (ak (az (dQ C.k_zX rfl rfl C.c_zX)))))))))))
theorem J3(hr:.(hr "_law_leaf" vV)):.(bo ["_law_cell"] "_law_leaf" vV sU):=by
 unfold sU
 exact(ai (bj (t_eq hr (b_of (p_mod (b_var 0) (b_of p_int))) (b_of p_int))
 (ak (az (p_at (b_of (p_of_n (n_lst (a_cons (p_tup (a_cons bM a_nil)) (a_cons (p_tup (a_cons bM a_nil)) (a_cons (p_tup (a_cons bM a_nil)) a_nil)))))) (b_of (p_mod (b_of (p_div (b_var 0) (b_of p_int))) (b_of p_int))) .(G))))
 aI)
 (ak (az (p_tup (a_cons bM (a_cons (p_at (b_of bM) (b_of (p_mod (b_of (p_div (b_var 0) (b_of p_int))) (b_of p_int))) .(G)) a_nil))))))
theorem J4(hr:.(hr "_law_tree" vW)):.(bo ["_law_cells","_law_held","_law_cell","_law_way","_law_right"] "_law_tree" vW sV):=by
 unfold sV
 exact(ai (nR (i:=1) kf.nd rfl (Or.inl rfl) (n_lst a_nil))
 (ai (gH PassesOwn.never rfl (DN.Hr (p_var 0)) (bX (i:=2) kf.nd rfl (Or.inl rfl))
 (ai (aT (i:=3) kf.nd rfl (Or.inl rfl) (p_mod (b_var 2) (b_of p_int)))
 (ak (bj (t_w (w_or (t_eq hr (b_var 1) (b_of (p_of_n (n_lst a_nil)))) (w_or (t_lt (b_var 3) (b_of p_int)) (w_or1 (t_w (w_and (t_gt (b_var 3) (b_of p_int)) (w_and1 (t_eq hr (b_of (p_callB call_len cb_len rfl C.z_len PySem.boot_len (a_consB (b_var 1) a_nil))) (b_of p_int)))))))))
 (ak (dH (ik 1 (g8 (p_fn I.h__law_leaf hr.s rfl (a_cons (p_div (b_var 2) (b_of p_int)) a_nil))))))
 (ak (bj (t_eq hr (b_var 3) (b_of p_int))
 (ak (dH (ik 1 (jP (bG (g8 bM) (bG (g8 (p_fn I.h__law_guard hr.s rfl (a_cons (p_div (b_var 2) (b_of p_int)) a_nil))) (bG (jQ 1) gP)))))))
 (ak (bj (t_lt (b_var 3) (b_of p_int))
 (ai (pe (i:=4) kf.nd rfl (Or.inl rfl) (jQ 1))
 (ak (dH (ik 1 (jP (bG (g8 bM) (bG (jQ 1) (bG (g8 (p_var 4)) gP))))))))
 (ai (pe (i:=4) kf.nd rfl (Or.inl rfl) (jQ 1))
 (ak (dH (ik 1 (jP (bG (g8 bM) (bG (g8 (p_fn I.h__law_guard hr.s rfl (a_cons (p_div (b_var 2) (b_of p_int)) a_nil))) (bG (jQ 1) (bG (g8 (p_var 4)) gP)))))))))))))))))
 (ai (ir PassesOwn.never (qx (t_gt (b_of (p_callB call_len cb_len rfl C.z_len PySem.boot_len (a_consB (b_var 1) a_nil))) (b_of p_int)))
 (ai (pe (i:=4) kf.nd rfl (Or.inl rfl) (jQ 1))
 (ak (dH (ik 1 (jP (bG (g8 bM) (bG (jQ 1) (bG (g8 (p_var 4)) gP)))))))))
 (ak (az (p_at (b_of (p_of_n (jM (b_var 1) (b_of (p_of_n (n_lst (a_cons (p_tup (a_cons bM (a_cons bM a_nil))) a_nil)))) fF))) (b_of p_int) .(G)))))))
theorem J5(hr:.(hr "_law_made" vX)):.(bo ["_law_tree_here"] "_law_made" vX kI):=by
 unfold kI
 exact(ai (bj (t_eq hr (b_of .(D)) (b_of bM))
 (ak (az (dQ C.k_z03 rfl rfl C.c_z03)))
 aI)
 (ai (bj (t_eq hr (b_of .(D)) (b_of bM))
 (ak (az (dQ C.k_z04 rfl rfl C.c_z04)))
 aI)
 (ai (bj (t_eq hr (b_of .(D)) (b_of bM))
 (ak (az (cL (k:=2*n+2) C.n_z05 hr rfl (a_cons .(D) a_nil) rfl)))
 aI)
 (ai (bj (t_eq hr (b_of .(D)) (b_of bM))
 (ak (az (cL (k:=2*n+2) C.n_z06 hr rfl (a_cons (p_fn I.h__law_made hr.s rfl (a_cons .(D) a_nil)) (a_cons (p_fn I.h__law_made hr.s rfl (a_cons .(D) a_nil)) a_nil)) rfl)))
 aI)
 (ai (bj (t_eq hr (b_of .(D)) (b_of bM))
 (ak (az (cL (k:=2*n+2) C.n_z07 hr rfl (a_cons (p_fn I.h__law_guard_test hr.s rfl (a_cons .(D) a_nil)) (a_cons (p_fn I.h__law_made hr.s rfl (a_cons .(D) a_nil)) (a_cons (p_fn I.h__law_made hr.s rfl (a_cons .(D) a_nil)) a_nil))) rfl)))
 aI)
 (ak (az (cL (k:=2*n+2) C.n_z08 hr rfl (a_cons (p_fn I.h__law_guard_test hr.s rfl (a_cons .(D) a_nil)) (a_cons (p_fn I.h__law_made hr.s rfl (a_cons .(D) a_nil)) a_nil)) rfl))))))))
theorem J6(hr:.(hr "_law_saying" vY)):.(bo ["_law_cell","_law_one","_law_other","_law_deed"] "_law_saying" vY sW):=by
 unfold sW
 exact(ai (aT (i:=1) qN.nd rfl (Or.inl rfl) (p_fn I.h__law_guard_test hr.s rfl (a_cons (p_fn I.h__law_guard hr.s rfl (a_cons (p_div (b_var 0) (b_of p_int)) a_nil)) a_nil)))
 (ai (aT (i:=2) qN.nd rfl (Or.inl rfl) (p_fn I.h__law_guard_test hr.s rfl (a_cons (p_fn I.h__law_guard hr.s rfl (a_cons (p_div (b_var 0) (b_of p_int)) a_nil)) a_nil)))
 (ai (aT (i:=3) qN.nd rfl (Or.inl rfl) (p_at (b_of bM) (b_of (p_mod (b_of (p_div (b_var 0) (b_of p_int))) (b_of p_int))) .(G)))
 (ai (bj (t_eq hr (b_of (p_mod (b_var 0) (b_of p_int))) (b_of p_int))
 (ak (az (cL (k:=2*n+2) C.n_z0g hr rfl .(X) rfl)))
 aI)
 (ai (bj (t_eq hr (b_of (p_mod (b_var 0) (b_of p_int))) (b_of p_int))
 (ak (az (cL (k:=2*n+2) C.n_z0i hr rfl (a_cons (p_var 1) (a_cons (p_var 3) a_nil)) rfl)))
 aI)
 (ak (az (cL (k:=2*n+2) C.n_z0h hr rfl (a_cons (p_var 1) (a_cons (p_var 3) (a_cons (p_var 2) a_nil))) rfl))))))))
theorem J7(hr:.(hr "_law_sayings" vZ)):.(bo ["_law_cells","_law_many"] "_law_sayings" vZ sX):=by
 unfold sX
 exact(ak (az (p_of_n (bY (own:=["_law_cell"]) (caps:=[]) ⟨rfl,by decide +kernel,by decide +kernel,True.intro,rfl⟩ rfl (s_list (b_of (p_of_n (n_cut (b_var 0) o_none (o_some (p_var 1)))))) (.(gn ["_law_cell"])) (fun _ _ _ _=>ts_nil) (fun _ _ _ _=>(p_fn I.h__law_saying hr.s rfl (a_cons (p_var 0) a_nil))) gk_set))))
theorem J8(hr:.(hr "_law_drawn" w8)):.(bo ["_law_script","_law_step","_law_cell","_law_before","_law_after","_law_sayings_here","_law_idle"] "_law_drawn" w8 sY):=by
 unfold sY
 exact(ai (aT (i:=1) iy.nd rfl (Or.inl rfl) (p_fn I.h__law_made hr.s rfl (a_cons (p_fn I.h__law_tree hr.s rfl (a_cons (p_of_n (n_cut (b_var 0) (o_some p_int) (o_some p_int))) a_nil)) a_nil)))
 (ai (aT (i:=2) iy.nd rfl (Or.inl rfl) (p_fn I.h__law_mixed hr.s rfl (a_cons (p_fn I.h__law_cell_at hr.s rfl (a_cons (p_var 0) (a_cons p_int a_nil))) (a_cons p_int a_nil))))
 (ai (aT (i:=3) iy.nd rfl (Or.inl rfl) (p_fn I.h__law_guard_test hr.s rfl (a_cons (p_fn I.h__law_guard hr.s rfl (a_cons (p_div (b_var 2) (b_of p_int)) a_nil)) a_nil)))
 (ai (aT (i:=4) iy.nd rfl (Or.inl rfl) (p_fn I.h__law_guard_test hr.s rfl (a_cons (p_fn I.h__law_guard hr.s rfl (a_cons (p_div (b_var 2) (b_of p_int)) a_nil)) a_nil)))
 (ai (bj (t_eq hr (b_of (p_mod (b_of (p_div (b_var 2) (b_of p_int))) (b_of p_int))) (b_of p_int))
 (ak (aT (i:=3) iy.nd rfl (Or.inl rfl) (dQ C.k_zW rfl rfl C.c_zW)))
 aI)
 (ai (aT (i:=5) iy.nd rfl (Or.inl rfl) (p_fn I.h__law_sayings hr.s rfl (a_cons (p_of_n (bY (own:=["_law_k"]) (caps:=[("_law_script",0)]) .(K) rfl (s_of_i (i_rng1 rfl C.z_range (a_cons p_int a_nil))) (.(gn ["_law_k","_law_script"])) (fun _ _ _ _=>ts_nil) (fun _ _ _ _=>(p_fn I.h__law_mixed hr.s rfl (a_cons (p_fn I.h__law_cell_at hr.s rfl (a_cons (p_var 1) (a_cons p_int a_nil))) (a_cons (p_var 0) a_nil)))) gk_set)) (a_cons (p_mod (b_var 2) (b_of p_int)) a_nil))))
 (ai (bj (t_eq hr (b_of (p_mod (b_of (p_div (b_var 2) (b_of p_int))) (b_of p_int))) (b_of p_int))
 (ai (aT (i:=6) iy.nd rfl (Or.inl rfl) (p_of_n (n_lst (a_cons (cL (k:=2*n+2) C.n_z0g hr rfl (a_cons (dQ C.k_zX rfl rfl C.c_zX) a_nil) rfl) (a_cons (cL (k:=2*n+2) C.n_z0i hr rfl (a_cons (dQ C.k_zW rfl rfl C.c_zW) (a_cons bM a_nil)) rfl) (a_cons (cL (k:=2*n+2) C.n_z0h hr rfl (a_cons (dQ C.k_zX rfl rfl C.c_zX) (a_cons bM (a_cons (p_var 3) a_nil))) rfl) (a_cons (cL (k:=2*n+2) C.n_z0h hr rfl (a_cons (p_var 4) (a_cons bM (a_cons (dQ C.k_zW rfl rfl C.c_zW) a_nil))) rfl) a_nil)))))))
 (ak (aT (i:=5) iy.nd rfl (Or.inl rfl) (p_of_n (jM (b_of (p_of_n (jM (b_var 6) (b_of (p_of_n (n_lst (a_cons (cL (k:=2*n+2) C.n_z0i hr rfl (a_cons (dQ C.k_zX rfl rfl C.c_zX) (a_cons bM a_nil)) rfl) a_nil)))) fF))) (b_var 5) fF)))))
 aI)
 (ak (az (p_tup (a_cons (p_var 3) (a_cons (p_var 1) (a_cons (p_var 4) (a_cons (p_var 5) a_nil))))))))))))))
theorem J9(hr:.(hr "_law_bits" w9)):.(bo ["_law_mask"] "_law_bits" w9 sZ):=by
 unfold sZ
 exact(ak (az (p_of_n (bY (own:=["_law_setting"]) (caps:=[("_law_mask",0)]) .(K) rfl (s_of_i (i_rng1 rfl C.z_range (a_cons p_int a_nil))) (.(gn ["_law_setting","_law_mask"])) (fun _ _ _ _=>(ts_one (t_eq hr (b_of (p_and (b_of (p_shr (b_var 1) (b_var 0))) (b_of p_int))) (b_of p_int)))) (fun _ _ _ _=>(p_var 0)) gk_set))))
theorem Ja(hr:.(hr "_law_closed" wa)):.(bo ["_law_marks","_law_before","_law_doors","_law_after","_law_bonds","_law_good","_law_room","_law_setting","_law_what","_law_there"] "_law_closed" wa t6):=by
 unfold t6
 exact(ai (bj (t_w (w_or (pj hr (b_of (p_callB call_len cb_len rfl C.z_len PySem.boot_len (a_consB (b_var 0) a_nil))) (b_of .(Aa))) (w_or1 (pj hr (b_of (p_of_n (bY (own:=["_law_mark"]) (caps:=[]) ⟨rfl,by decide +kernel,by decide +kernel,True.intro,rfl⟩ rfl (s_list (b_var 0)) (.(gn ["_law_mark"])) (fun _ _ _ _=>(ts_one (t_w (w_or (t_lt (b_var 0) (b_of p_int)) (w_or1 (t_gt (b_var 0) (b_of p_int))))))) (fun _ _ _ _=>(p_var 0)) gk_set))) (b_of (p_of_n (n_lst a_nil)))))))
 (ak (az f7))
 aI)
 (ai (aT (i:=5) ln.nd rfl (Or.inl rfl) (p_fn I.h__law_bits hr.s rfl (a_cons (eN I.m_good hr.s (p_var 4)) a_nil)))
 (ai (bj (pj hr (b_of (p_of_n (bY (own:=["_law_setting"]) (caps:=[("_law_before",1),("_law_marks",0)]) ⟨rfl,by decide +kernel,by decide +kernel,⟨⟨rfl,rfl,Or.inl rfl⟩,.(M)⟩,rfl⟩ rfl (s_list (b_var 5)) (.(gn ["_law_setting","_law_before","_law_marks"])) (fun _ _ _ _=>(ts_one (t_w (w_and (t_val (p_meth I.m_holds hr.s (p_var 1) (a_cons (p_var 0) a_nil))) (w_and1 (t_eq hr (b_of (p_and (b_of (p_shr (b_of (p_at (b_var 2) (b_of p_int) .(G))) (b_var 0))) (b_of p_int))) (b_of p_int))))))) (fun _ _ _ _=>(p_var 0)) gk_set))) (b_of (p_of_n (n_lst a_nil))))
 (ak (az f7))
 aI)
 (ai (gH PassesOwn.never rfl (i_rng1 rfl C.z_range (a_cons .(Aa) a_nil)) (bX (i:=6) ln.nd rfl (Or.inr rfl))
 (ak (gH PassesOwn.never rfl (DN.Hr (p_of_n (bY (own:=["_law_one"]) (caps:=[("_law_marks",0),("_law_room",6)]) ⟨rfl,by decide +kernel,by decide +kernel,⟨⟨rfl,rfl,Or.inl rfl⟩,.(M)⟩,rfl⟩ rfl (s_list (b_var 5)) (.(gn ["_law_one","_law_marks","_law_room"])) (fun _ _ _ _=>(ts_one (t_eq hr (b_of (p_and (b_of (p_shr (b_of (p_at (b_var 1) (b_var 2) .(G))) (b_var 0))) (b_of p_int))) (b_of p_int)))) (fun _ _ _ _=>(p_var 0)) gk_set))) (bX (i:=7) ln.nd rfl (Or.inl rfl))
 (ai (zx (p_at (b_of (p_at (b_var 2) (b_var 6) .(G))) (b_var 7) .(G)) (uT rfl (eO (bX (i:=8) ln.nd rfl (Or.inl rfl)) (eO (bX (i:=9) ln.nd rfl (Or.inl rfl)) pd))))
 (ai (bj (t_w (w_and (t_eq hr (b_var 8) (b_of bM)) (w_and1 (ie (t_val (p_meth I.m_holds hr.s (p_var 3) (a_cons (p_var 7) a_nil)))))))
 (ak (az f7))
 aI)
 (ak (bj (t_w (w_and (ym (b_var 8) (b_of (p_tup (a_cons bM (a_cons bM (a_cons bM a_nil))))) rfl) (w_and1 (pj hr (b_of (p_and (b_of (p_meth I.m_ways hr.s (p_var 4) (a_cons (p_var 8) (a_cons (p_var 7) a_nil)))) (b_of (nI (b_of p_int) (b_of (p_at (b_var 0) (b_var 9) .(G))))))) (b_of p_int)))))
 (ak (az f7))
 aI)))))))
 (ak (az f7))))))
theorem Jb(hr:.(hr "_law_changed" wb)):.(bo ["_law_marks","_law_cell","_law_found","_law_room","_law_setting","_law_way"] "_law_changed" wb t7):=by
 unfold t7
 exact(ai (nR (i:=2) om.nd rfl (Or.inl rfl) (jN (x:="list") rfl C.z_list (a_consB (b_var 0) a_nil)))
 (ai (bj (t_eq hr (b_var 2) (b_of (p_of_n (n_lst a_nil))))
 (ak (az (p_of_n (n_lst (a_cons (p_mod (b_var 1) (b_of p_int)) a_nil)))))
 aI)
 (ai (aT (i:=3) om.nd rfl (Or.inl rfl) (p_mod (b_of (p_div (b_var 1) (b_of p_int))) (b_of .(Aa))))
 (ai (aT (i:=4) om.nd rfl (Or.inl rfl) (p_mod (b_of (p_div (b_var 1) (b_of p_int))) (b_of p_int)))
 (ai (aT (i:=5) om.nd rfl (Or.inl rfl) (p_mod (b_var 1) (b_of p_int)))
 (ai (bj (t_lt (b_var 5) (b_of p_int))
 (ak (jY 2 (p_var 3) (Ec (b_of (p_at (b_var 2) (b_var 3) .(G))) (b_of (nL (b_of p_int) (b_var 4))))))
 (ak (bj (t_lt (b_var 5) (b_of p_int))
 (ak (jY 2 (p_var 3) (p_and (b_of (p_at (b_var 2) (b_var 3) .(G))) (b_of (zr (b_of p_int) (b_of (nL (b_of p_int) (b_var 4))))))))
 (ak (bj (t_eq hr (b_var 5) (b_of p_int))
 (ak (jY 2 (p_var 3) p_int))
 (ak (bj (t_eq hr (b_var 5) (b_of p_int))
 (ak (jY 2 (p_var 3) (p_mod (b_of (p_div (b_var 1) (b_of p_int))) (b_of p_int))))
 (ak (bj (t_eq hr (b_var 5) (b_of p_int))
 (ak (jY 2 (p_var 3) (p_at (b_of (p_of_n (n_lst (a_cons (gE (b_of (p_at (b_var 2) (b_var 3) .(G))) (b_of p_int)) (a_cons (nI (b_of (p_at (b_var 2) (b_var 3) .(G))) (b_of p_int)) (a_cons p_int a_nil)))))) (b_of (p_mod (b_of (p_div (b_var 1) (b_of p_int))) (b_of p_int))) .(G))))
 (ak (bj (t_eq hr (b_of (p_mod (b_of (p_div (b_var 1) (b_of p_int))) (b_of p_int))) (b_of p_int))
 (ak (dH (ik 2 (g8 (p_mod (b_of (p_div (b_var 1) (b_of p_int))) (b_of p_int))))))
 (ak (dH (yO 2 (p_var 3)))))))))))))))
 (ak (jR (nO 2)))))))))
theorem Jc(hr:.(hr "_law_first_marks" wc)):.(bo ["_law_script","_law_before","_law_step","_law_after","_law_sayings_here","_law_many","_law_cell","_law_found"] "_law_first_marks" wc t8):=by
 unfold t8
 exact(ai (aT (i:=5) qO.nd rfl (Or.inl rfl) (p_callB call_len cb_len rfl C.z_len PySem.boot_len (a_consB (b_of (p_fld C.f_doors (dS I.n_z0b hr rfl (a_cons (p_var 2) a_nil) (qQ _)) rfl)) a_nil)))
 (ai (aT (i:=6) qO.nd rfl (Or.inr rfl) (p_fn I.h__law_cell_at hr.s rfl (a_cons (p_var 0) (a_cons p_int a_nil))))
 (ai (bj (t_gt (b_of (p_mod (b_var 6) (b_of p_int))) (b_of p_int))
 (ak (az (p_of_n (bY (own:=["_law_room"]) (caps:=[("_law_cell",6)]) .(K) rfl (s_of_i (i_rng1 rfl C.z_range (a_cons (p_var 5) a_nil))) (.(gn ["_law_room","_law_cell"])) (fun _ _ _ _=>ts_nil) (fun _ _ _ _=>(p_mod (b_of (p_fn I.h__law_mixed hr.s rfl (a_cons (p_div (b_var 1) (b_of p_int)) (a_cons (p_var 0) a_nil)))) (b_of p_int))) gk_set))))
 aI)
 (ai (aT (i:=7) qO.nd rfl (Or.inl rfl) (p_fn I.h_zf hr.s rfl (a_cons (p_var 1) (a_cons (p_var 2) (a_cons (p_at (b_of (p_of_n (n_lst (a_cons (p_var 3) (a_cons (dQ C.k_zW rfl rfl C.c_zW) a_nil))))) (b_of (p_mod (b_var 6) (b_of p_int))) .(G)) (a_cons (p_var 4) a_nil))))))
 (ai (bj (t_val (j9 rfl C.z_isinstance C.i_z0d eE (b_var 7) (cJ rfl C.c_z0d)))
 (ak (az (p_of_n (jN (x:="list") rfl C.z_list (a_consB (b_of (p_fld C.f_marks (p_var 7) rfl)) a_nil)))))
 aI)
 (ak (az (p_of_n (bY (own:=["_law_room"]) (caps:=[]) ⟨rfl,by decide +kernel,by decide +kernel,True.intro,rfl⟩ rfl (s_of_i (i_rng1 rfl C.z_range (a_cons (p_var 5) a_nil))) (.(gn ["_law_room"])) (fun _ _ _ _=>ts_nil) (fun _ _ _ _=>p_int) gk_set)))))))))
theorem Jd(hr:.(hr "_law_stands" wd)):.(bo ["_law_marks","_law_before","_law_step","_law_after","_law_sayings_here","_law_found","_law_due"] "_law_stands" wd t9):=by
 unfold t9
 exact(ai (aT (i:=5) wR.nd rfl (Or.inl rfl) (p_meth I.m_stands hr.s (dS I.n_z0d hr rfl (a_consB (b_var 0) a_nil) (qR _)) (a_cons (p_var 1) (a_cons (p_var 2) (a_cons (p_var 3) (a_cons (p_var 4) a_nil))))))
 (ai (aT (i:=6) wR.nd rfl (Or.inl rfl) (p_fn I.h__law_closed hr.s rfl (a_cons (p_var 0) (a_cons (p_var 1) (a_cons (p_fld C.f_doors (dS I.n_z0b hr rfl (a_cons (p_var 2) a_nil) (qQ _)) rfl) (a_cons (p_var 3) (a_cons (dS I.n_z09 hr rfl (a_cons (p_var 4) a_nil) (wU _)) a_nil)))))))
 (ai (bj (t_w (w_or (ie (t_val (j9 rfl C.z_isinstance C.i_bool yp (b_var 5) (y3 rfl C.z_bool boot_bool)))) (w_or1 (pj hr (b_var 5) (b_var 6)))))
 (ak (az f7))
 aI)
 (ak (az (zt (uR (p_var 6)) (uQ (j9 rfl C.z_isinstance C.i_z0d eE (b_of (p_fn I.h_zf hr.s rfl (a_cons (p_var 1) (a_cons (p_var 2) (a_cons (p_var 3) (a_cons (p_var 4) a_nil)))))) (cJ rfl C.c_z0d)))))))))
theorem FS(hr:.(hr "law" oj)):.(bo ["_law_script","_law_marks","_law_cell","_law_handed","_law_told","_law_fewer","_law_before","_law_step","_law_after","_law_sayings_here"] "law" oj tf):=by
 unfold tf
 exact(ai (zx (p_fn I.h__law_drawn hr.s rfl (a_cons (p_var 0) a_nil)) (uT rfl (eO (bX (i:=6) fT.nd rfl (Or.inl rfl)) (eO (bX (i:=7) fT.nd rfl (Or.inl rfl)) (eO (bX (i:=8) fT.nd rfl (Or.inl rfl)) (eO (bX (i:=9) fT.nd rfl (Or.inl rfl)) pd))))))
 (ai (aT (i:=1) fT.nd rfl (Or.inl rfl) (p_fn I.h__law_first_marks hr.s rfl (a_cons (p_var 0) (a_cons (p_var 6) (a_cons (p_var 7) (a_cons (p_var 8) (a_cons (p_var 9) a_nil)))))))
 (ai (gH PassesOwn.never rfl (DN.Hr (p_of_n (n_cut (b_var 0) (o_some p_int) (o_some (gE (b_of p_int) (b_of (p_mod (b_of (p_div (b_of (p_fn I.h__law_cell_at hr.s rfl (a_cons (p_var 0) (a_cons p_int a_nil)))) (b_of p_int))) (b_of p_int)))))))) (bX (i:=2) fT.nd rfl (Or.inl rfl))
 (ak (aT (i:=1) fT.nd rfl (Or.inl rfl) (p_fn I.h__law_changed hr.s rfl (a_cons (p_var 1) (a_cons (p_var 2) a_nil))))))
 (ai (nR (i:=3) fT.nd rfl (Or.inl rfl) (jN (x:="list") rfl C.z_list (a_consB (b_var 1) a_nil)))
 (ai (aT (i:=4) fT.nd rfl (Or.inl rfl) (dS I.n_z0d hr rfl (a_consB (b_var 3) a_nil) (qR _)))
 (ai (dH (ik 3 (g8 p_int)))
 (ai (bj (ie (t_val (p_fn I.h__law_stands hr.s rfl (a_cons (p_var 1) (a_cons (p_var 6) (a_cons (p_var 7) (a_cons (p_var 8) (a_cons (p_var 9) a_nil))))))))
 (ak (az f7))
 aI)
 (ai (aT (i:=5) fT.nd rfl (Or.inl rfl) (p_of_n (n_cut (b_var 9) o_none (o_some (Eg p_int)))))
 (ai (bj (t_eq hr (b_of (p_mod (b_of (p_div (b_of (p_fn I.h__law_cell_at hr.s rfl (a_cons (p_var 0) (a_cons p_int a_nil)))) (b_of p_int))) (b_of p_int))) (b_of p_int))
 (ak (az (p_fn I.h__law_stands hr.s rfl (a_cons (p_var 1) (a_cons (p_var 6) (a_cons (p_var 7) (a_cons (p_var 8) (a_cons (p_var 5) a_nil))))))))
 aI)
 (ai (bj (ie (t_val (p_fn I.h__law_stands hr.s rfl (a_cons (p_var 1) (a_cons (dQ C.k_zW rfl rfl C.c_zW) (a_cons (p_var 7) (a_cons (p_var 8) (a_cons (p_var 9) a_nil))))))))
 (ak (az f7))
 aI)
 (ak (az (yk hr (b_of (p_meth I.m_stands hr.s (p_var 4) (a_cons (p_var 6) (a_cons (p_var 7) (a_cons (p_var 8) (a_cons (p_var 9) a_nil)))))) (b_of (p_meth I.m_stands hr.s (dS I.n_z0d hr rfl (a_consB (b_var 1) a_nil) (qR _)) (a_cons (p_var 6) (a_cons (p_var 7) (a_cons (p_var 8) (a_cons (p_var 9) a_nil)))))))))))))))))))
theorem pH(hr:.(hr "Test.mask" we)):.(bo ["self","total","setting"] "Test.mask" we wS):=by
 obtain⟨_,g_SETTINGS⟩:=C.e_SETTINGS
 unfold wS
 exact(ai (aT (i:=1) gJ.nd rfl (Or.inl rfl) p_int)
 (ai (gH PassesOwn.never rfl .(Ag) (bX (i:=2) gJ.nd rfl (Or.inl rfl))
 (ak (bj (t_val (p_meth I.m_holds hr.s (p_var 0) (a_cons (p_var 2) a_nil)))
 (ak (nS (i:=1) gJ.nd rfl (Or.inl rfl) (nL (b_of p_int) (b_var 2)) oJ))
 aI)))
 (ak (az (p_var 1)))))
theorem Je(hr:.(hr "Yes.holds" wf)):.(bo .(T) "Yes.holds" wf BQ):=by
 unfold BQ
 exact(ak (az f7))
theorem Jf(hr:.(hr "No.holds" wj)):.(bo .(T) "No.holds" wj BR):=by
 unfold BR
 exact(ak (az f7))
theorem Jg(hr:.(hr "Named.holds" wl)):.(bo .(T) "Named.holds" wl BS):=by
 obtain⟨_,g_LETTERS,t_LETTERS⟩:=C.e_LETTERS
 unfold BS
 exact(ak (az (yk hr (b_of (p_and (b_of (p_shr (b_var 1) (b_of (yq (ws:=lj) t_LETTERS rfl g_LETTERS (fun _ _=>⟨_,_,rfl,rfl,⟨_,_,rfl,rfl,⟨_,_,rfl,rfl,⟨_,_,rfl,rfl,rfl⟩⟩⟩⟩) rfl (p_fld C.f_name (p_var 0) rfl))))) (b_of p_int))) (b_of p_int))))
theorem Jh(hr:.(hr "Not.holds" wm)):.(bo .(T) "Not.holds" wm BT):=by
 unfold BT
 exact(ak (az (uR (p_meth I.m_holds hr.s (p_fld C.f_inner (p_var 0) rfl) .(X)))))
theorem Ji(hr:.(hr "Both.holds" wn)):.(bo .(T) "Both.holds" wn BU):=by
 unfold BU
 exact(ak (az (B3 (p_meth I.m_holds hr.s (p_fld C.f_left (p_var 0) rfl) .(X)) (uQ (p_meth I.m_holds hr.s (p_fld C.f_right (p_var 0) rfl) .(X))))))
theorem Jj(hr:.(hr "Either.holds" wo)):.(bo .(T) "Either.holds" wo BV):=by
 unfold BV
 exact(ak (az (zt (p_meth I.m_holds hr.s (p_fld C.f_left (p_var 0) rfl) .(X)) (uQ (p_meth I.m_holds hr.s (p_fld C.f_right (p_var 0) rfl) .(X))))))
theorem Jk(hr:.(hr "Bonds.good" wq)):.(bo ["self"] "Bonds.good" wq BW):=by
 unfold BW
 exact(ak (az (p_fld C.f_lasting (p_var 0) rfl)))
theorem Jl(hr:.(hr "Bonds.ways" wt)):.(bo ["self","deed","setting"] "Bonds.ways" wt tj):=by
 unfold tj
 exact(ak (az (p_and (b_of (p_at (b_of (vh (hU hr) (b_of (p_fld C.f_let_by (p_var 0) rfl)) (b_var 1) .(G))) (b_var 2) .(G))) (b_of (p_fld C.f_lasting (p_var 0) rfl)))))
theorem Jm(hr:.(hr "Maze.search" wu)):.(bo ["self","reached","visits","number","visit","told","fresh"] "Maze.search" wu tm):=by
 obtain⟨_,g_ENDS,t_ENDS⟩:=C.e_ENDS
 obtain⟨_,g_FOUND⟩:=C.e_FOUND
 unfold tm
 exact(ai (yJ (i:=1) jf.nd rfl (Or.inl rfl) (p_fld C.f_begin (p_var 0) rfl) (p_fld C.f_starts (p_var 0) rfl))
 (ai (Bf (i:=2) jf.nd rfl (Or.inl rfl) (own:=["setting"]) (caps:=[("self",0)]) .(K) rfl (s_list (b_of (p_fn I.h_z1 hr.s rfl (a_cons (p_fld C.f_starts (p_var 0) rfl) a_nil)))) (.(gn ["setting","self"])) (fun _ _ _ _=>ts_nil) (fun _ _ _ _=>(p_tup (a_cons (p_fld C.f_begin (p_var 1) rfl) (a_cons (p_var 0) (a_cons bM (a_cons zp a_nil)))))) gk_set)
 (ai (aT (i:=3) jf.nd rfl (Or.inl rfl) p_int)
 (ai (ir PassesOwn.never (qx (t_lt (b_var 3) (b_of .(Aa))))
 (ai (aT (i:=4) jf.nd rfl (Or.inr rfl) (p_at (b_var 2) (b_var 3) .(G)))
 (ai (nS (i:=3) jf.nd rfl (Or.inl rfl) p_int oJ)
 (ai (aT (i:=5) jf.nd rfl (Or.inr rfl) (qz C.f_door (p_var 0) I.cl hr.s (a_cons (p_at (b_var 4) (b_of p_int) .(G)) (a_cons (p_at (b_var 4) (b_of p_int) .(G)) a_nil))))
 (ai (bj (t_eq hr (b_of (p_at (b_var 5) (b_of p_int) .(G))) (b_of (ee rfl g_FOUND)))
 (ak (jR (jP (bG (nO 1) (bG (g8 (p_fn I.h_z6 hr.s rfl (a_cons (p_var 4) a_nil))) gP)))))
 aI)
 (ak (bj (qk (ws:=eU) hJ (b_of (p_at (b_var 5) (b_of p_int) .(G))) t_ENDS rfl g_ENDS (fun _ _=>⟨_,_,rfl,rfl,⟨_,_,rfl,rfl,⟨_,_,rfl,rfl,rfl⟩⟩⟩) rfl)
 (ai (aT (i:=6) jf.nd rfl (Or.inl rfl) (p_and (b_of (p_meth I.m_ways hr.s (p_fld C.f_bonds (p_var 0) rfl) (a_cons (p_at (b_var 5) (b_of p_int) .(G)) (a_cons (p_at (b_var 4) (b_of p_int) .(G)) a_nil)))) (b_of (F7 (ip (hU hr) (b_var 1) (b_of (p_at (b_var 5) (b_of p_int) .(G))) p_int ⟨rfl,rfl,rfl,rfl⟩)))))
 (ai (vg 1 (hU hr) (p_at (b_var 5) (b_of p_int) .(G)) (Ec (b_of (ip (hU hr) (b_var 1) (b_of (p_at (b_var 5) (b_of p_int) .(G))) p_int ⟨rfl,rfl,rfl,rfl⟩)) (b_var 6)) rfl)
 (ak (dH (EU 2 (bY (own:=["setting"]) (caps:=[("visit",4),("told",5)]) ⟨rfl,by decide +kernel,by decide +kernel,⟨⟨rfl,rfl,Or.inl rfl⟩,.(M)⟩,rfl⟩ rfl (s_list (b_of (p_fn I.h_z1 hr.s rfl (a_cons (p_var 6) a_nil)))) (.(gn ["setting","visit","told"])) (fun _ _ _ _=>ts_nil) (fun _ _ _ _=>(p_tup (a_cons (p_at (b_var 2) (b_of p_int) .(G)) (a_cons (p_var 0) (a_cons (p_at (b_var 2) (b_of p_int) .(G)) .(X)))))) gk_set))))))
 aI)))))))
 (ak (jR (jP (bG (nO 1) (bG (g8 zp) gP)))))))))
theorem Jn(hr:.(hr "Maze.is_closed" wv)):.(bo ["self","masks","place","mask","setting"] "Maze.is_closed" wv tu):=by
 unfold tu
 exact(ai (bj (ie (t_val (p_fn I.h_z7 hr.s rfl (a_cons (p_fld C.f_starts (p_var 0) rfl) (a_cons (ip (hU hr) (b_var 1) (b_of (p_fld C.f_begin (p_var 0) rfl)) p_int ⟨rfl,rfl,rfl,rfl⟩) a_nil)))))
 (ak (az f7))
 aI)
 (ai (yM PassesOwn.never rfl (p_var 1) ⟨rfl,rfl⟩ (uT rfl (eO (bX (i:=2) qP.nd rfl (Or.inl rfl)) (eO (bX (i:=3) qP.nd rfl (Or.inl rfl)) pd)))
 (ak (gH PassesOwn.never rfl (DN.Hr (p_fn I.h_z1 hr.s rfl (a_cons (p_and (b_var 3) (b_of (eN I.m_good hr.s (p_fld C.f_bonds (p_var 0) rfl)))) a_nil))) (bX (i:=4) qP.nd rfl (Or.inl rfl))
 (ak (bj (ie (t_val (p_meth I.m_goes_on_within hr.s (p_var 0) (a_cons (p_var 1) (a_cons (p_var 2) (a_cons (p_var 4) a_nil))))))
 (ak (az f7))
 aI)))))
 (ak (az f7))))
theorem Jo(hr:.(hr "Maze.goes_on_within" ww)):.(bo ["self","masks","place","setting","told"] "Maze.goes_on_within" ww tw):=by
 obtain⟨_,g_ENDS,t_ENDS⟩:=C.e_ENDS
 obtain⟨_,g_FOUND⟩:=C.e_FOUND
 unfold tw
 exact(ai (aT (i:=4) zO.nd rfl (Or.inl rfl) (qz C.f_door (p_var 0) I.cl hr.s (a_cons (p_var 2) (a_cons (p_var 3) a_nil))))
 (ai (bj (t_eq hr (b_of (p_at (b_var 4) (b_of p_int) .(G))) (b_of (ee rfl g_FOUND)))
 (ak (az f7))
 aI)
 (ai (bj (qk (ws:=eU) rL (b_of (p_at (b_var 4) (b_of p_int) .(G))) t_ENDS rfl g_ENDS (fun _ _=>⟨_,_,rfl,rfl,⟨_,_,rfl,rfl,⟨_,_,rfl,rfl,rfl⟩⟩⟩) rfl)
 (ak (az f7))
 aI)
 (ak (az (p_fn I.h_z7 hr.s rfl (a_cons (p_meth I.m_ways hr.s (p_fld C.f_bonds (p_var 0) rfl) (a_cons (p_at (b_var 4) (b_of p_int) .(G)) (a_cons (p_var 3) a_nil))) (a_cons (ip (hU hr) (b_var 1) (b_of (p_at (b_var 4) (b_of p_int) .(G))) p_int ⟨rfl,rfl,rfl,rfl⟩) a_nil))))))))
theorem Jp(hr:.(hr "Finding.stands" wx)):.(bo ["self","before","step","after","sayings"] "Finding.stands" wx BX):=by
 unfold BX
 exact(ak (az f7))
theorem Jq(hr:.(hr "Kept.stands" wz)):.(bo ["self","before","step","after","sayings","rooms"] "Kept.stands" wz tz):=by
 obtain⟨_,g_EVERY⟩:=C.e_EVERY
 unfold tz
 exact(ai (aT (i:=5) zP.nd rfl (Or.inl rfl) (dS I.n_z0b hr rfl (a_cons (p_var 2) a_nil) (qQ _)))
 (ai (bj (pj hr (b_of (p_callB call_len cb_len rfl C.z_len PySem.boot_len (a_consB (b_of (p_fld C.f_marks (p_var 0) rfl)) a_nil))) (b_of (p_callB call_len cb_len rfl C.z_len PySem.boot_len (a_consB (b_of (p_fld C.f_doors (p_var 5) rfl)) a_nil))))
 (ak (az f7))
 aI)
 (ai (bj (ie (t_val (p_callB (la rfl) ve rfl C.z_all boot_all (a_consB (b_of (p_of_n (bY (own:=["mask"]) (caps:=[]) ⟨rfl,by decide +kernel,by decide +kernel,True.intro,rfl⟩ rfl (s_list (b_of (p_fld C.f_marks (p_var 0) rfl))) (.(gn ["mask"])) (fun _ _ _ _=>ts_nil) (fun _ _ _ _=>(p_chain op_le op_le (oi_le _ _) (oi_le _ _) (b_of p_int) (b_var 0) (b_of (p_topI rfl g_EVERY)))) gk_set))) a_nil))))
 (ak (az f7))
 aI)
 (ak (az (p_meth I.m_is_closed hr.s (p_fn I.h_zg hr.s rfl (a_cons (p_var 1) (a_cons (p_var 5) (a_cons (p_var 3) (a_cons (dS I.n_z09 hr rfl (a_cons (p_var 4) a_nil) (wU _)) a_nil))))) (a_cons (pC rfl rfl C.z_dict rfl C.z_enumerate (p_fld C.f_marks (p_var 0) rfl)) a_nil)))))))
theorem Cd(hr:.(hr "Saying.bars" wA)):.(bo .(T) "Saying.bars" wA BY):=by
 unfold BY
 exact(ak (az f7))
theorem FU(hr:.(hr "Saying.later_mask" wB)):.(bo ["self","deed","setting"] "Saying.later_mask" wB BZ):=by
 obtain⟨_,g_EVERY⟩:=C.e_EVERY
 unfold BZ
 exact(ak (az (p_topI rfl g_EVERY)))
theorem Jr(hr:.(hr "Nowhere.bars" wC)):.(bo .(T) "Nowhere.bars" wC tE):=by
 unfold tE
 exact(ak (az (p_meth I.m_holds hr.s (p_fld C.f_test (p_var 0) rfl) .(X))))
theorem Js(hr:.(hr "Behind.later_mask" wD)):.(bo ["self","deed","setting"] "Behind.later_mask" wD tF):=by
 obtain⟨_,g_EVERY⟩:=C.e_EVERY
 unfold tF
 exact(ai (bj (t_w (w_and (t_eq hr (b_var 1) (b_of (p_fld C.f_deed (p_var 0) rfl))) (w_and1 (t_val (p_meth I.m_holds hr.s (p_fld C.f_before (p_var 0) rfl) (a_cons (p_var 2) a_nil))))))
 (ak (az (eN I.m_mask hr.s (p_fld C.f_after (p_var 0) rfl))))
 aI)
 (ak (az (p_topI rfl g_EVERY))))
theorem Jt(hr:.(hr "Through.later_mask" wE)):.(bo ["self","deed","setting","mask"] "Through.later_mask" wE tH):=by
 obtain⟨_,g_EVERY⟩:=C.e_EVERY
 unfold tH
 exact(ai (bj (pj hr (b_var 1) (b_of (p_fld C.f_deed (p_var 0) rfl)))
 (ak (az (p_topI rfl g_EVERY)))
 aI)
 (ai (aT (i:=3) zR.nd rfl (Or.inl rfl) (eN I.m_mask hr.s (p_fld C.f_test (p_var 0) rfl)))
 (ak (az (p_ifV (t_val (p_fn I.h_z0 hr.s rfl (a_cons (p_var 2) (a_cons (p_var 3) a_nil)))) (p_var 3) (nI (b_of (p_topI rfl g_EVERY)) (b_var 3)))))))
theorem Ju(hr:.(hr "Bonds.__init__" wF)):.(bo ["self","sayings"] "Bonds.__init__" wF on):=by
 unfold on
 exact(ai (je (j:=0) 14 C.l_z09.cls C.x_Bonds_unbarred (show(fN 14).Nodup by decide +kernel) rfl (show(fN 14).length<1000 by decide) (p_fn I.h_z2 hr.s rfl .(X)))
 (ai (je (j:=1) 14 C.l_z09.cls C.x_Bonds_let_by (show(fN 14).Nodup by decide +kernel) rfl (show(fN 14).length<1000 by decide) (p_fn I.h_z3 hr.s rfl .(X)))
 (ak (je (j:=2) 14 C.l_z09.cls C.x_Bonds_lasting (show(fN 14).Nodup by decide +kernel) rfl (show(fN 14).length<1000 by decide) (p_fn I.h_z5 hr.s rfl (a_cons (vm 0 C.f_unbarred) (a_cons (vm 0 C.f_let_by) a_nil)))))))
theorem Jv(hr:.(hr "Rooms.__init__" wG)):.(bo ["self","step"] "Rooms.__init__" wG oq):=by
 unfold oq
 exact(ai (je (j:=0) 16 C.l_z0b.cls C.x_Rooms_step (show(fN 16).Nodup by decide +kernel) rfl (show(fN 16).length<1000 by decide) (p_var 1))
 (ak (je (j:=1) 16 C.l_z0b.cls C.x_Rooms_doors (show(fN 16).Nodup by decide +kernel) rfl (show(fN 16).length<1000 by decide) (p_fn I.h_z8 hr.s rfl (a_cons (p_var 1) (a_cons p_int a_nil))))))
theorem Jw(hr:.(hr "Kept.__init__" wH)):.(bo ["self","marks"] "Kept.__init__" wH Ca):=by
 unfold Ca
 exact(ak (je (j:=0) 18 C.l_z0d.cls C.x_Kept_marks (show(fN 18).Nodup by decide +kernel) rfl (show(fN 18).length<1000 by decide) (p_of_n (jN (x:="list") rfl C.z_list (a_consB (b_var 1) a_nil)))))
theorem Jx(hr:.(hr "Broken.__init__" wI)):.(bo ["self","settings","deeds"] "Broken.__init__" wI Cb):=by
 unfold Cb
 exact(ai (je (j:=0) 19 C.l_z0e.cls C.x_Broken_settings (show(fN 19).Nodup by decide +kernel) rfl (show(fN 19).length<1000 by decide) (p_of_n (jN (x:="list") rfl C.z_list (a_consB (b_var 1) a_nil))))
 (ak (je (j:=1) 19 C.l_z0e.cls C.x_Broken_deeds (show(fN 19).Nodup by decide +kernel) rfl (show(fN 19).length<1000 by decide) (p_var 2))))
theorem Jy{qual:Str}{cd:Value}{cl:List (Str×Addr)}{f:Addr}{A:Around}{outer:List Env}{s:Shared}{H:Hp}{E:XK}(hr:bv (2*n+4) (A.deeper (PySem.W.envX qual sy.scope s.heap.objs.size f cd cl))) :
  mU (E4 fX P w K mg base ["room","setting","rooms","fit","told"] qual sy.scope f cd cl A outer s H E).nox (pg cA) (Iq sy) (tI (gF n)):=by
 obtain⟨_,g_DONE⟩:=C.e_DONE
 obtain⟨_,g_FOUND⟩:=C.e_FOUND
 unfold tI
 exact(ai (aT (i:=4) zS.nd rfl (Or.inl rfl) (p_at (b_of (p_at (b_of (p_fld C.f_doors (p_var 2) rfl)) (b_var 0) .(G))) (b_var 1) .(G)))
 (ai (bj (t_w (w_and (t_eq hr (b_of (p_at (b_var 4) (b_of p_int) .(G))) (b_of (ee rfl g_DONE))) (w_and1 (ie (t_val (p_fn I.h_z0 hr.s rfl (a_cons (p_var 1) (a_cons (p_var 3) a_nil))))))))
 (ak (az (p_tup (a_cons (ee rfl g_FOUND) (a_cons (p_var 0) a_nil)))))
 aI)
 (ak (az (p_var 4)))))
end
structure Fs(K:Fg)(mg:Str->Option Value)(cA:Nat->Addr)(ts:List Addr):Prop where
 F_z0:.(df "is_in" vB ["setting","mask"])
 F_z1:.(df "settings_in" vC ["mask"])
 F_z2:.(df "unbarred_by" vD ["sayings"])
 F_z3:.(df "let_by_all" vE ["sayings"])
 F_z4:.(df "later_by_all" vF ["sayings","deed","setting"])
 F_z5:.(df "lasting_within" vG ["mask","let_by"])
 F_z6:.(df "word_to" vH ["visit"])
 F_z7:.(df "is_within" vI ["mask","larger"])
 F_z8:.(df "doors_of" vJ ["step","ahead"])
 F_z9:.(df "ended" vK ["end"])
 F_za:.(df "row_doors" vL ["step","ahead"])
 F_zb:.(df "choice_doors" vM ["step","ahead"])
 F_zc:.(df "loop_doors" vN ["step","ahead"])
 F_zd:.(df "loop_door" vO ["holds","door"])
 F_ze:.(df "gone_on" vP ["doors","later"])
 F_zf:.(df "marked" vQ ["before","step","after","sayings"])
 F_zg:∃f fd c P,yb K mg "breaks_of" oi ["before","rooms","after","bonds"] f fd/\Bk K fd c P ts
 F_zh:.(df "_law_cell_at" vR ["_law_script","_law_k"])
 F_zi:.(df "_law_mixed" vS ["_law_cell","_law_k"])
 F_zj:.(df "_law_guard" vT ["_law_cell"])
 F_zk:.(df "_law_guard_test" vU ["_law_guard_here"])
 F_zl:.(df "_law_leaf" vV ["_law_cell"])
 F_zm:.(df "_law_tree" vW ["_law_cells"])
 F_zn:.(df "_law_made" vX ["_law_tree_here"])
 F_zo:.(df "_law_saying" vY ["_law_cell"])
 F_zp:.(df "_law_sayings" vZ ["_law_cells","_law_many"])
 F_zq:.(df "_law_drawn" w8 ["_law_script"])
 F_zr:.(df "_law_bits" w9 ["_law_mask"])
 F_zs:.(df "_law_closed" wa ["_law_marks","_law_before","_law_doors","_law_after","_law_bonds"])
 F_zt:.(df "_law_changed" wb ["_law_marks","_law_cell"])
 F_zu:.(df "_law_first_marks" wc ["_law_script","_law_before","_law_step","_law_after","_law_sayings_here"])
 F_zv:.(df "_law_stands" wd ["_law_marks","_law_before","_law_step","_law_after","_law_sayings_here"])
 F_zw:.(df "law" oj ["_law_script"])
 F_zx:∃f fd,fC K "mask" "Test.mask" we f fd/\bw K fd ["self"] []/\cX K ((pg cA).cA 0) "mask" f/\cX K ((pg cA).cA 1) "mask" f/\cX K ((pg cA).cA 2) "mask" f/\cX K ((pg cA).cA 3) "mask" f/\cX K ((pg cA).cA 4) "mask" f/\cX K ((pg cA).cA 5) "mask" f/\cX K ((pg cA).cA 6) "mask" f
 F_zy:∃f fd,fC K "holds" "Yes.holds" wf f fd/\bw K fd .(T) []/\cX K ((pg cA).cA 1) "holds" f
 F_zz:∃f fd,fC K "holds" "No.holds" wj f fd/\bw K fd .(T) []/\cX K ((pg cA).cA 2) "holds" f
 F_zA:∃f fd,fC K "holds" "Named.holds" wl f fd/\bw K fd .(T) []/\cX K ((pg cA).cA 3) "holds" f
 F_zB:∃f fd,fC K "holds" "Not.holds" wm f fd/\bw K fd .(T) []/\cX K ((pg cA).cA 4) "holds" f
 F_zC:∃f fd,fC K "holds" "Both.holds" wn f fd/\bw K fd .(T) []/\cX K ((pg cA).cA 5) "holds" f
 F_zD:∃f fd,fC K "holds" "Either.holds" wo f fd/\bw K fd .(T) []/\cX K ((pg cA).cA 6) "holds" f
 F_zE:∃f fd,fC K "good" "Bonds.good" wq f fd/\bw K fd ["self"] []/\cX K ((pg cA).cA 14) "good" f
 F_zF:∃f fd,fC K "ways" "Bonds.ways" wt f fd/\bw K fd ["self","deed","setting"] []/\cX K ((pg cA).cA 14) "ways" f
 F_zG:∃f fd,fC K "search" "Maze.search" wu f fd/\bw K fd ["self"] []/\cX K ((pg cA).cA 15) "search" f
 F_zH:∃f fd,fC K "is_closed" "Maze.is_closed" wv f fd/\bw K fd ["self","masks"] []/\cX K ((pg cA).cA 15) "is_closed" f
 F_zI:∃f fd,fC K "goes_on_within" "Maze.goes_on_within" ww f fd/\bw K fd ["self","masks","place","setting"] []/\cX K ((pg cA).cA 15) "goes_on_within" f
 F_zJ:∃f fd,fC K "stands" "Finding.stands" wx f fd/\bw K fd ["self","before","step","after","sayings"] []/\cX K ((pg cA).cA 17) "stands" f
 F_zK:∃f fd,fC K "stands" "Kept.stands" wz f fd/\bw K fd ["self","before","step","after","sayings"] []/\cX K ((pg cA).cA 18) "stands" f
 F_zL:∃f fd,fC K "bars" "Saying.bars" wA f fd/\bw K fd .(T) []/\cX K ((pg cA).cA 20) "bars" f/\cX K ((pg cA).cA 22) "bars" f/\cX K ((pg cA).cA 23) "bars" f
 F_zM:∃f fd,fC K "later_mask" "Saying.later_mask" wB f fd/\bw K fd ["self","deed","setting"] []/\cX K ((pg cA).cA 20) "later_mask" f/\cX K ((pg cA).cA 21) "later_mask" f
 F_zN:∃f fd,fC K "bars" "Nowhere.bars" wC f fd/\bw K fd .(T) []/\cX K ((pg cA).cA 21) "bars" f
 F_zO:∃f fd,fC K "later_mask" "Behind.later_mask" wD f fd/\bw K fd ["self","deed","setting"] []/\cX K ((pg cA).cA 22) "later_mask" f
 F_zP:∃f fd,fC K "later_mask" "Through.later_mask" wE f fd/\bw K fd ["self","deed","setting"] []/\cX K ((pg cA).cA 23) "later_mask" f
 F_zQ:∃f fd,fC K "__init__" "Bonds.__init__" wF f fd/\bw K fd ["self","sayings"] []/\Mk K ((pg cA).cA 14) f
 F_zR:∃f fd,fC K "__init__" "Rooms.__init__" wG f fd/\bw K fd ["self","step"] []/\Mk K ((pg cA).cA 16) f
 F_zS:∃f fd,fC K "__init__" "Kept.__init__" wH f fd/\bw K fd ["self","marks"] []/\Mk K ((pg cA).cA 18) f
 F_zT:∃f fd,fC K "__init__" "Broken.__init__" wI f fd/\bw K fd ["self","settings","deeds"] []/\Mk K ((pg cA).cA 19) f
theorem pI{P:Program}{w:World}{K:Fg}{mg:Str->Option Value}{base:Bs}{cA:Nat->Addr}{ts:List Addr}(C:Ct P w K mg base cA ts)(F:Fs K mg cA ts):∀n,Cc P w K mg base cA n
 |0=>by
  obtain⟨f_z0,fd_z0,E_z0⟩:=F.F_z0
  obtain⟨f_z1,fd_z1,E_z1⟩:=F.F_z1
  obtain⟨f_z2,fd_z2,E_z2⟩:=F.F_z2
  obtain⟨f_z3,fd_z3,E_z3⟩:=F.F_z3
  obtain⟨f_z4,fd_z4,E_z4⟩:=F.F_z4
  obtain⟨f_z5,fd_z5,E_z5⟩:=F.F_z5
  obtain⟨f_z6,fd_z6,E_z6⟩:=F.F_z6
  obtain⟨f_z7,fd_z7,E_z7⟩:=F.F_z7
  obtain⟨f_z8,fd_z8,E_z8⟩:=F.F_z8
  obtain⟨f_z9,fd_z9,E_z9⟩:=F.F_z9
  obtain⟨f_za,fd_za,E_za⟩:=F.F_za
  obtain⟨f_zb,fd_zb,E_zb⟩:=F.F_zb
  obtain⟨f_zc,fd_zc,E_zc⟩:=F.F_zc
  obtain⟨f_zd,fd_zd,E_zd⟩:=F.F_zd
  obtain⟨f_ze,fd_ze,E_ze⟩:=F.F_ze
  obtain⟨f_zf,fd_zf,E_zf⟩:=F.F_zf
  obtain⟨f_zg,fd_zg,c_zg,p_zg,E_zg,T_zg⟩:=F.F_zg
  obtain⟨f_zh,fd_zh,E_zh⟩:=F.F_zh
  obtain⟨f_zi,fd_zi,E_zi⟩:=F.F_zi
  obtain⟨f_zj,fd_zj,E_zj⟩:=F.F_zj
  obtain⟨f_zk,fd_zk,E_zk⟩:=F.F_zk
  obtain⟨f_zl,fd_zl,E_zl⟩:=F.F_zl
  obtain⟨f_zm,fd_zm,E_zm⟩:=F.F_zm
  obtain⟨f_zn,fd_zn,E_zn⟩:=F.F_zn
  obtain⟨f_zo,fd_zo,E_zo⟩:=F.F_zo
  obtain⟨f_zp,fd_zp,E_zp⟩:=F.F_zp
  obtain⟨f_zq,fd_zq,E_zq⟩:=F.F_zq
  obtain⟨f_zr,fd_zr,E_zr⟩:=F.F_zr
  obtain⟨f_zs,fd_zs,E_zs⟩:=F.F_zs
  obtain⟨f_zt,fd_zt,E_zt⟩:=F.F_zt
  obtain⟨f_zu,fd_zu,E_zu⟩:=F.F_zu
  obtain⟨f_zv,fd_zv,E_zv⟩:=F.F_zv
  obtain⟨f_zw,fd_zw,E_zw⟩:=F.F_zw
  obtain⟨f_zx,fd_zx,F_zx,B_zx,M_zx_0,M_zx_1,M_zx_2,M_zx_3,M_zx_4,M_zx_5,M_zx_6⟩:=F.F_zx
  obtain⟨f_zy,fd_zy,F_zy,B_zy,M_zy_1⟩:=F.F_zy
  obtain⟨f_zz,fd_zz,F_zz,B_zz,M_zz_2⟩:=F.F_zz
  obtain⟨f_zA,fd_zA,F_zA,B_zA,M_zA_3⟩:=F.F_zA
  obtain⟨f_zB,fd_zB,F_zB,B_zB,M_zB_4⟩:=F.F_zB
  obtain⟨f_zC,fd_zC,F_zC,B_zC,M_zC_5⟩:=F.F_zC
  obtain⟨f_zD,fd_zD,F_zD,B_zD,M_zD_6⟩:=F.F_zD
  obtain⟨f_zE,fd_zE,F_zE,B_zE,M_zE_14⟩:=F.F_zE
  obtain⟨f_zF,fd_zF,F_zF,B_zF,M_zF_14⟩:=F.F_zF
  obtain⟨f_zG,fd_zG,F_zG,B_zG,M_zG_15⟩:=F.F_zG
  obtain⟨f_zH,fd_zH,F_zH,B_zH,M_zH_15⟩:=F.F_zH
  obtain⟨f_zI,fd_zI,F_zI,B_zI,M_zI_15⟩:=F.F_zI
  obtain⟨f_zJ,fd_zJ,F_zJ,B_zJ,M_zJ_17⟩:=F.F_zJ
  obtain⟨f_zK,fd_zK,F_zK,B_zK,M_zK_18⟩:=F.F_zK
  obtain⟨f_zL,fd_zL,F_zL,B_zL,M_zL_20,M_zL_22,M_zL_23⟩:=F.F_zL
  obtain⟨f_zM,fd_zM,F_zM,B_zM,M_zM_20,M_zM_21⟩:=F.F_zM
  obtain⟨f_zN,fd_zN,F_zN,B_zN,M_zN_21⟩:=F.F_zN
  obtain⟨f_zO,fd_zO,F_zO,B_zO,M_zO_22⟩:=F.F_zO
  obtain⟨f_zP,fd_zP,F_zP,B_zP,M_zP_23⟩:=F.F_zP
  obtain⟨f_zQ,fd_zQ,F_zQ,B_zQ,M_zQ⟩:=F.F_zQ
  obtain⟨f_zR,fd_zR,F_zR,B_zR,M_zR⟩:=F.F_zR
  obtain⟨f_zS,fd_zS,F_zS,B_zS,M_zS⟩:=F.F_zS
  obtain⟨f_zT,fd_zT,F_zT,B_zT,M_zT⟩:=F.F_zT
  exact {
   cl:=(qy (vo fun _=>rfl) vp)
   h_z0:=E_z0.at (ao fun _=>rfl)
   h_z1:=E_z1.at (ao fun _=>rfl)
   h_z2:=E_z2.at (ao fun _=>rfl)
   h_z3:=E_z3.at (ao fun _=>rfl)
   h_z4:=E_z4.at (ao fun _=>rfl)
   h_z5:=E_z5.at (ao fun _=>rfl)
   h_z6:=E_z6.at (ao fun _=>rfl)
   h_z7:=E_z7.at (ao fun _=>rfl)
   h_z8:=E_z8.at (ao fun _=>rfl)
   h_z9:=E_z9.at (ao fun _=>rfl)
   h_za:=E_za.at (ao fun _=>rfl)
   h_zb:=E_zb.at (ao fun _=>rfl)
   h_zc:=E_zc.at (ao fun _=>rfl)
   h_zd:=E_zd.at (ao fun _=>rfl)
   h_ze:=E_ze.at (ao fun _=>rfl)
   h_zf:=E_zf.at (ao fun _=>rfl)
   h_zg:=E_zg.at (ao fun _=>rfl)
   h__law_cell_at:=E_zh.at (ao fun _=>rfl)
   h__law_mixed:=E_zi.at (ao fun _=>rfl)
   h__law_guard:=E_zj.at (ao fun _=>rfl)
   h__law_guard_test:=E_zk.at (ao fun _=>rfl)
   h__law_leaf:=E_zl.at (ao fun _=>rfl)
   h__law_tree:=E_zm.at (ao fun _=>rfl)
   h__law_made:=E_zn.at (ao fun _=>rfl)
   h__law_saying:=E_zo.at (ao fun _=>rfl)
   h__law_sayings:=E_zp.at (ao fun _=>rfl)
   h__law_drawn:=E_zq.at (ao fun _=>rfl)
   h__law_bits:=E_zr.at (ao fun _=>rfl)
   h__law_closed:=E_zs.at (ao fun _=>rfl)
   h__law_changed:=E_zt.at (ao fun _=>rfl)
   h__law_first_marks:=E_zu.at (ao fun _=>rfl)
   h__law_stands:=E_zv.at (ao fun _=>rfl)
   h_zw:=E_zw.at (ao fun _=>rfl)
   n_z09:=⟨C.c_z09,C.l_z09.cls,_,_,_,M_zQ,(gr fun _=>rfl),B_zQ⟩
   n_z0e:=⟨C.c_z0e,C.l_z0e.cls,_,_,_,M_zT,(gr fun _=>rfl),B_zT⟩
   n_z0d:=⟨C.c_z0d,C.l_z0d.cls,_,_,_,M_zS,(gr fun _=>rfl),B_zS⟩
   n_z0b:=⟨C.c_z0b,C.l_z0b.cls,_,_,_,M_zR,(gr fun _=>rfl),B_zR⟩
   m_bars:=(au (.(mc C.l_z0f M_zL_20 (ao fun _=>rfl) B_zL)) (.(nf "bars" 20)) (au (.(mc C.l_z0g M_zN_21 (ao fun _=>rfl) B_zN)) (.(nf "bars" 21)) (au (.(mc C.l_z0h M_zL_22 (ao fun _=>rfl) B_zL)) (.(nf "bars" 22)) (au (.(mc C.l_z0i M_zL_23 (ao fun _=>rfl) B_zL)) (.(nf "bars" 23)) bT))))
   m_goes_on_within:=(au (.(mc C.l_z0a M_zI_15 (ao fun _=>rfl) B_zI)) (.(nf "goes_on_within" 15)) bT)
   m_good:=(au (.(mc C.l_z09 M_zE_14 (ao fun _=>rfl) B_zE)) (.(nf "good" 14)) bT)
   m_holds:=(au (.(mc C.l_zW M_zy_1 (ao fun _=>rfl) B_zy)) (.(nf "holds" 1)) (au (.(mc C.l_zX M_zz_2 (ao fun _=>rfl) B_zz)) (.(nf "holds" 2)) (au (.(mc C.l_zY M_zA_3 (ao fun _=>rfl) B_zA)) (.(nf "holds" 3)) (au (.(mc C.l_zZ M_zB_4 (ao fun _=>rfl) B_zB)) (.(nf "holds" 4)) (au (.(mc C.l_z00 M_zC_5 (ao fun _=>rfl) B_zC)) (.(nf "holds" 5)) (au (.(mc C.l_z01 M_zD_6 (ao fun _=>rfl) B_zD)) (.(nf "holds" 6)) bT))))))
   m_is_closed:=(au (.(mc C.l_z0a M_zH_15 (ao fun _=>rfl) B_zH)) (.(nf "is_closed" 15)) bT)
   m_later_mask:=(au (.(mc C.l_z0f M_zM_20 (ao fun _=>rfl) B_zM)) (.(nf "later_mask" 20)) (au (.(mc C.l_z0g M_zM_21 (ao fun _=>rfl) B_zM)) (.(nf "later_mask" 21)) (au (.(mc C.l_z0h M_zO_22 (ao fun _=>rfl) B_zO)) (.(nf "later_mask" 22)) (au (.(mc C.l_z0i M_zP_23 (ao fun _=>rfl) B_zP)) (.(nf "later_mask" 23)) bT))))
   m_mask:=(au (.(mc C.l_zV M_zx_0 (ao fun _=>rfl) B_zx)) (.(nf "mask" 0)) (au (.(mc C.l_zW M_zx_1 (ao fun _=>rfl) B_zx)) (.(nf "mask" 1)) (au (.(mc C.l_zX M_zx_2 (ao fun _=>rfl) B_zx)) (.(nf "mask" 2)) (au (.(mc C.l_zY M_zx_3 (ao fun _=>rfl) B_zx)) (.(nf "mask" 3)) (au (.(mc C.l_zZ M_zx_4 (ao fun _=>rfl) B_zx)) (.(nf "mask" 4)) (au (.(mc C.l_z00 M_zx_5 (ao fun _=>rfl) B_zx)) (.(nf "mask" 5)) (au (.(mc C.l_z01 M_zx_6 (ao fun _=>rfl) B_zx)) (.(nf "mask" 6)) bT)))))))
   m_search:=(au (.(mc C.l_z0a M_zG_15 (ao fun _=>rfl) B_zG)) (.(nf "search" 15)) bT)
   m_stands:=(au (.(mc C.l_z0c M_zJ_17 (ao fun _=>rfl) B_zJ)) (.(nf "stands" 17)) (au (.(mc C.l_z0d M_zK_18 (ao fun _=>rfl) B_zK)) (.(nf "stands" 18)) bT))
   m_ways:=(au (.(mc C.l_z09 M_zF_14 (ao fun _=>rfl) B_zF)) (.(nf "ways" 14)) bT)
  }
 |n+1=>by
  show Cc P w K mg base cA (n+1)
  have I:=pI C F n
  obtain⟨f_z0,fd_z0,E_z0⟩:=F.F_z0
  obtain⟨f_z1,fd_z1,E_z1⟩:=F.F_z1
  obtain⟨f_z2,fd_z2,E_z2⟩:=F.F_z2
  obtain⟨f_z3,fd_z3,E_z3⟩:=F.F_z3
  obtain⟨f_z4,fd_z4,E_z4⟩:=F.F_z4
  obtain⟨f_z5,fd_z5,E_z5⟩:=F.F_z5
  obtain⟨f_z6,fd_z6,E_z6⟩:=F.F_z6
  obtain⟨f_z7,fd_z7,E_z7⟩:=F.F_z7
  obtain⟨f_z8,fd_z8,E_z8⟩:=F.F_z8
  obtain⟨f_z9,fd_z9,E_z9⟩:=F.F_z9
  obtain⟨f_za,fd_za,E_za⟩:=F.F_za
  obtain⟨f_zb,fd_zb,E_zb⟩:=F.F_zb
  obtain⟨f_zc,fd_zc,E_zc⟩:=F.F_zc
  obtain⟨f_zd,fd_zd,E_zd⟩:=F.F_zd
  obtain⟨f_ze,fd_ze,E_ze⟩:=F.F_ze
  obtain⟨f_zf,fd_zf,E_zf⟩:=F.F_zf
  obtain⟨f_zg,fd_zg,c_zg,p_zg,E_zg,T_zg⟩:=F.F_zg
  obtain⟨f_zh,fd_zh,E_zh⟩:=F.F_zh
  obtain⟨f_zi,fd_zi,E_zi⟩:=F.F_zi
  obtain⟨f_zj,fd_zj,E_zj⟩:=F.F_zj
  obtain⟨f_zk,fd_zk,E_zk⟩:=F.F_zk
  obtain⟨f_zl,fd_zl,E_zl⟩:=F.F_zl
  obtain⟨f_zm,fd_zm,E_zm⟩:=F.F_zm
  obtain⟨f_zn,fd_zn,E_zn⟩:=F.F_zn
  obtain⟨f_zo,fd_zo,E_zo⟩:=F.F_zo
  obtain⟨f_zp,fd_zp,E_zp⟩:=F.F_zp
  obtain⟨f_zq,fd_zq,E_zq⟩:=F.F_zq
  obtain⟨f_zr,fd_zr,E_zr⟩:=F.F_zr
  obtain⟨f_zs,fd_zs,E_zs⟩:=F.F_zs
  obtain⟨f_zt,fd_zt,E_zt⟩:=F.F_zt
  obtain⟨f_zu,fd_zu,E_zu⟩:=F.F_zu
  obtain⟨f_zv,fd_zv,E_zv⟩:=F.F_zv
  obtain⟨f_zw,fd_zw,E_zw⟩:=F.F_zw
  obtain⟨f_zx,fd_zx,F_zx,B_zx,M_zx_0,M_zx_1,M_zx_2,M_zx_3,M_zx_4,M_zx_5,M_zx_6⟩:=F.F_zx
  obtain⟨f_zy,fd_zy,F_zy,B_zy,M_zy_1⟩:=F.F_zy
  obtain⟨f_zz,fd_zz,F_zz,B_zz,M_zz_2⟩:=F.F_zz
  obtain⟨f_zA,fd_zA,F_zA,B_zA,M_zA_3⟩:=F.F_zA
  obtain⟨f_zB,fd_zB,F_zB,B_zB,M_zB_4⟩:=F.F_zB
  obtain⟨f_zC,fd_zC,F_zC,B_zC,M_zC_5⟩:=F.F_zC
  obtain⟨f_zD,fd_zD,F_zD,B_zD,M_zD_6⟩:=F.F_zD
  obtain⟨f_zE,fd_zE,F_zE,B_zE,M_zE_14⟩:=F.F_zE
  obtain⟨f_zF,fd_zF,F_zF,B_zF,M_zF_14⟩:=F.F_zF
  obtain⟨f_zG,fd_zG,F_zG,B_zG,M_zG_15⟩:=F.F_zG
  obtain⟨f_zH,fd_zH,F_zH,B_zH,M_zH_15⟩:=F.F_zH
  obtain⟨f_zI,fd_zI,F_zI,B_zI,M_zI_15⟩:=F.F_zI
  obtain⟨f_zJ,fd_zJ,F_zJ,B_zJ,M_zJ_17⟩:=F.F_zJ
  obtain⟨f_zK,fd_zK,F_zK,B_zK,M_zK_18⟩:=F.F_zK
  obtain⟨f_zL,fd_zL,F_zL,B_zL,M_zL_20,M_zL_22,M_zL_23⟩:=F.F_zL
  obtain⟨f_zM,fd_zM,F_zM,B_zM,M_zM_20,M_zM_21⟩:=F.F_zM
  obtain⟨f_zN,fd_zN,F_zN,B_zN,M_zN_21⟩:=F.F_zN
  obtain⟨f_zO,fd_zO,F_zO,B_zO,M_zO_22⟩:=F.F_zO
  obtain⟨f_zP,fd_zP,F_zP,B_zP,M_zP_23⟩:=F.F_zP
  obtain⟨f_zQ,fd_zQ,F_zQ,B_zQ,M_zQ⟩:=F.F_zQ
  obtain⟨f_zR,fd_zR,F_zR,B_zR,M_zR⟩:=F.F_zR
  obtain⟨f_zS,fd_zS,F_zS,B_zS,M_zS⟩:=F.F_zS
  obtain⟨f_zT,fd_zT,F_zT,B_zT,M_zT⟩:=F.F_zT
  exact {
   cl:=(qy (Bh (n:=sy) rfl zS rfl (fun _ _ _ _ _ _ _ us hl=>match us,hl with|[_,_],_=>rfl) fun _ _ _ _ _ _ _ _ _ hr=>Jy C I hr) vp)
   h_z0:=.(ha E_z0 Fn II)
   h_z1:=.(ha E_z1 Fo IJ)
   h_z2:=.(ha E_z2 qI IK)
   h_z3:=.(ha E_z3 wK IL)
   h_z4:=.(ha E_z4 qJ IM)
   h_z5:=.(ha E_z5 ol IN)
   h_z6:=.(ha E_z6 qK IO)
   h_z7:=.(ha E_z7 Fp IP)
   h_z8:=.(ha E_z8 Fq IQ)
   h_z9:=.(ha E_z9 Ft IR)
   h_za:=.(ha E_za wL IS)
   h_zb:=.(ha E_zb qL IT)
   h_zc:=.(ha E_zc wM IU)
   h_zd:=.(ha E_zd Fu IV)
   h_ze:=.(ha E_ze Fv IW)
   h_zf:=.(ha E_zf wN IX)
   h_zg:=E_zg.at ((Bl E_zg.F (by rw[C.tb];exact T_zg) wO rfl fun _ _ _ _ _ hr mk=>IY C I hr mk))
   h__law_cell_at:=.(ha E_zh Fw IZ)
   h__law_mixed:=.(ha E_zi qM J0)
   h__law_guard:=.(ha E_zj Fx J1)
   h__law_guard_test:=.(ha E_zk wQ J2)
   h__law_leaf:=.(ha E_zl Fy J3)
   h__law_tree:=.(ha E_zm kf J4)
   h__law_made:=.(ha E_zn Fz J5)
   h__law_saying:=.(ha E_zo qN J6)
   h__law_sayings:=.(ha E_zp FA J7)
   h__law_drawn:=.(ha E_zq iy J8)
   h__law_bits:=.(ha E_zr FB J9)
   h__law_closed:=.(ha E_zs ln Ja)
   h__law_changed:=.(ha E_zt om Jb)
   h__law_first_marks:=.(ha E_zu qO Jc)
   h__law_stands:=.(ha E_zv wR Jd)
   h_zw:=.(ha E_zw fT FS)
   n_z09:=⟨C.c_z09,C.l_z09.cls,_,_,_,M_zQ,(mi F_zQ FN rfl (by decide) rfl fun _ _ _ _ _ _ hr=>Ju C I hr),B_zQ⟩
   n_z0e:=⟨C.c_z0e,C.l_z0e.cls,_,_,_,M_zT,(mi F_zT FQ rfl (by decide) rfl fun _ _ _ _ _ _ hr=>Jx C I hr),B_zT⟩
   n_z0d:=⟨C.c_z0d,C.l_z0d.cls,_,_,_,M_zS,(mi F_zS FP rfl (by decide) rfl fun _ _ _ _ _ _ hr=>Jw C I hr),B_zS⟩
   n_z0b:=⟨C.c_z0b,C.l_z0b.cls,_,_,_,M_zR,(mi F_zR FO rfl (by decide) rfl fun _ _ _ _ _ _ hr=>Jv C I hr),B_zR⟩
   m_bars:=(au (.(mc C.l_z0f M_zL_20 (.(fk F_zL wT Cd)) B_zL)) (.(nf "bars" 20)) (au (.(mc C.l_z0g M_zN_21 (.(fk F_zN FL Jr)) B_zN)) (.(nf "bars" 21)) (au (.(mc C.l_z0h M_zL_22 (.(fk F_zL wT Cd)) B_zL)) (.(nf "bars" 22)) (au (.(mc C.l_z0i M_zL_23 (.(fk F_zL wT Cd)) B_zL)) (.(nf "bars" 23)) bT))))
   m_goes_on_within:=(au (.(mc C.l_z0a M_zI_15 (.(fk F_zI zO Jo)) B_zI)) (.(nf "goes_on_within" 15)) bT)
   m_good:=(au (.(mc C.l_z09 M_zE_14 (.(fk F_zE FI Jk)) B_zE)) (.(nf "good" 14)) bT)
   m_holds:=(au (.(mc C.l_zW M_zy_1 (.(fk F_zy FC Je)) B_zy)) (.(nf "holds" 1)) (au (.(mc C.l_zX M_zz_2 (.(fk F_zz FD Jf)) B_zz)) (.(nf "holds" 2)) (au (.(mc C.l_zY M_zA_3 (.(fk F_zA FE Jg)) B_zA)) (.(nf "holds" 3)) (au (.(mc C.l_zZ M_zB_4 (.(fk F_zB FF Jh)) B_zB)) (.(nf "holds" 4)) (au (.(mc C.l_z00 M_zC_5 (.(fk F_zC FG Ji)) B_zC)) (.(nf "holds" 5)) (au (.(mc C.l_z01 M_zD_6 (.(fk F_zD FH Jj)) B_zD)) (.(nf "holds" 6)) bT))))))
   m_is_closed:=(au (.(mc C.l_z0a M_zH_15 (.(fk F_zH qP Jn)) B_zH)) (.(nf "is_closed" 15)) bT)
   m_later_mask:=(au (.(mc C.l_z0f M_zM_20 (.(fk F_zM zQ FU)) B_zM)) (.(nf "later_mask" 20)) (au (.(mc C.l_z0g M_zM_21 (.(fk F_zM zQ FU)) B_zM)) (.(nf "later_mask" 21)) (au (.(mc C.l_z0h M_zO_22 (.(fk F_zO FM Js)) B_zO)) (.(nf "later_mask" 22)) (au (.(mc C.l_z0i M_zP_23 (.(fk F_zP zR Jt)) B_zP)) (.(nf "later_mask" 23)) bT))))
   m_mask:=(au (.(mc C.l_zV M_zx_0 (.(fk F_zx gJ pH)) B_zx)) (.(nf "mask" 0)) (au (.(mc C.l_zW M_zx_1 (.(fk F_zx gJ pH)) B_zx)) (.(nf "mask" 1)) (au (.(mc C.l_zX M_zx_2 (.(fk F_zx gJ pH)) B_zx)) (.(nf "mask" 2)) (au (.(mc C.l_zY M_zx_3 (.(fk F_zx gJ pH)) B_zx)) (.(nf "mask" 3)) (au (.(mc C.l_zZ M_zx_4 (.(fk F_zx gJ pH)) B_zx)) (.(nf "mask" 4)) (au (.(mc C.l_z00 M_zx_5 (.(fk F_zx gJ pH)) B_zx)) (.(nf "mask" 5)) (au (.(mc C.l_z01 M_zx_6 (.(fk F_zx gJ pH)) B_zx)) (.(nf "mask" 6)) bT)))))))
   m_search:=(au (.(mc C.l_z0a M_zG_15 (.(fk F_zG jf Jm)) B_zG)) (.(nf "search" 15)) bT)
   m_stands:=(au (.(mc C.l_z0c M_zJ_17 (.(fk F_zJ FK Jp)) B_zJ)) (.(nf "stands" 17)) (au (.(mc C.l_z0d M_zK_18 (.(fk F_zK zP Jq)) B_zK)) (.(nf "stands" 18)) bT))
   m_ways:=(au (.(mc C.l_z09 M_zF_14 (.(fk F_zF FJ Jl)) B_zF)) (.(nf "ways" 14)) bT)
  }
end M62
end
noncomputable section
namespace M62
open PySem L2 DN
inductive Tr where
 |yes|no|named (c:Str)|neg (t:Tr)|both (l r:Tr)|either (l r:Tr)
def Tr.pv:Tr->PV
 |.yes=> .obj 1 [] | .no=> .obj 2 [] | .named c=> .obj 3 [.str c] | .neg t=> .obj 4 [t.pv] | .both l r=> .obj 5 [l.pv,r.pv] | .either l r=> .obj 6 [l.pv,r.pv]
def Tr.depth:Tr->Nat
 |.yes=>0 | .no=>0 | .named _=>0 | .neg t=>t.depth+1 | .both l r=>max l.depth r.depth+1 | .either l r=>max l.depth r.depth+1
def Tr.size:Tr->Nat
 |.yes=>1 | .no=>1 | .named _=>1 | .neg t=>t.size+1 | .both l r=>l.size+r.size+1 | .either l r=>l.size+r.size+1
def mJ(c:Str):Prop:=c="a"\/c="b"\/c="c"\/c="d"
def Tr.ok:Tr->Prop
 |.yes=>True | .no=>True | .named c=>mJ c | .neg t=>t.ok | .both l r=>l.ok/\r.ok | .either l r=>l.ok/\r.ok
def ixL(c:Str):Nat:=if c="a" then 0 else if c="b" then 1 else if c="c" then 2 else 3
def Tr.at:Tr->Int->Bool
 |.yes,_=>true
 |.no,_=>false
 |.named c,s=>Builtin.bitAnd (s / 2 ^ ((ixL c:Nat):Int).toNat) 1 == 1
 |.neg t,s=> !t.at s
 |.both l r,s=>l.at s && r.at s
 |.either l r,s=>l.at s || r.at s
theorem cg:∀(t:Tr) (n:Nat) (s:Int),t.ok->t.depth<n->bp aK (gF n) t.pv [.int s]= .ok (.bl (t.at s))
 |.yes,n+1,s,_,_=>rfl
 |.no,n+1,s,_,_=>rfl
 |.named c,n+1,s,h,_=>by
  rcases h with rfl|rfl|rfl|rfl <;> rfl
 |.neg t,n+1,s,h,hd=>by
  have ih:=cg t n s h (Nat.lt_of_succ_lt_succ hd)
  have e:bp aK (gF (n+1)) (Tr.neg t).pv [.int s]=fin ((((bp aK (gF n) t.pv [.int s]).bind fun x=>match x with | .bl k=>Rx.ok (PV.bl (!k))|_=> .bad)).st fun w=> .ret w):=rfl
  rw[e,ih];rfl
 |.both l r,n+1,s,h,hd=>by
  have hd':max l.depth r.depth+1<n+1:=hd
  have i1:=cg l n s h.1 (by omega)
  have i2:=cg r n s h.2 (by omega)
  have e:bp aK (gF (n+1)) (Tr.both l r).pv [.int s]=fin ((((bp aK (gF n) l.pv [.int s]).bind fun x=>match x with | .bl true=>bp aK (gF n) r.pv [.int s] | .bl false=> .ok (.bl false)|_=> .bad)).st fun w=> .ret w):=rfl
  rw[e,i1,i2]
  show _=Rx.ok (PV.bl (l.at s && r.at s))
  cases l.at s <;> rfl
 |.either l r,n+1,s,h,hd=>by
  have hd':max l.depth r.depth+1<n+1:=hd
  have i1:=cg l n s h.1 (by omega)
  have i2:=cg r n s h.2 (by omega)
  have e:bp aK (gF (n+1)) (Tr.either l r).pv [.int s]=fin ((((bp aK (gF n) l.pv [.int s]).bind fun x=>match x with | .bl true=> .ok (.bl true) | .bl false=>bp aK (gF n) r.pv [.int s]|_=> .bad)).st fun w=> .ret w):=rfl
  rw[e,i1,i2]
  show _=Rx.ok (PV.bl (l.at s || r.at s))
  cases l.at s <;> rfl
def Tr.f(t:Tr)(i:Nat):Bool:=t.at (i:Int)
def Tr.mk(t:Tr):Nat:=maskN t.f 16
theorem lq(f:Nat->Bool):∀n,(List.range n).foldl (fun(b:Int) (i:Nat)=>if f i=true then b+1*2 ^ i else b) 0=(maskN f n:Nat)
 |0=>rfl
 |n+1=>by
  rw[List.range_succ,List.foldl_append,lq f n]
  show(if f n=true then _ else _)=(((2 ^ n*(f n).toNat+maskN f n:Nat)):Int)
  cases h:f n
  ·simp
  ·simp[Int.add_comm]
theorem jw(t:Tr)(n:Nat)(h:t.ok)(hd:t.depth<n):bp gS (gF (n+1)) t.pv []= .ok (.int (t.mk:Nat)):=by
 have e:bp gS (gF (n+1)) t.pv []=aH [false] 3 (wS (gF n)) [t.pv]:=by cases t <;> rfl
 rw[e,aB rfl]
 have ei:nT [false] 3 [t.pv]=[.v t.pv,.no,.no]:=rfl
 rw[ei]
 unfold wS
 have er:bA (ae (dC (.int 16)) ah) [.v t.pv,.v (.int 0),.no]= .ok (ig 0 16):=rfl
 have fo:=l9 (g:=aD 2) (body:=cO (aU (aO aK (gF n) (af 0) (ae (af 2) ah))) (jo 1 (fun i j=>i+j) (d2 gL (dC (.int 1)) (ag 2))) aQ)
  .(Af) (fun b=>[.v t.pv,.v (.int b.1),b.2]) (ig 0 16) (0,.no) (fun b w hw=>by
   obtain⟨i,hi,rfl⟩:∃i:Nat,i<16/\w= .int (0+(i:Int)):=by
    unfold ig at hw
    obtain⟨i,hi,e⟩:=List.mem_map.mp hw
    exact⟨i,List.mem_range.mp hi,e.symm⟩
   refine⟨_,rfl,.inl ?_⟩
   rw[cZ,fV,jT]
   show(((Rx.ok t.pv).bind fun x=>vb aK (gF n) x (.ok [.int (0+(i:Int))])).bind _).st _=_
   rw[aq,vc,cg t n _ h hd,aq,br]
   dsimp only
   by_cases hb:t.at (0+(i:Int))=true
   ·rw[if_pos hb,if_pos hb]
    have e2:d2 gL (dC (.int 1)) (ag 2) ([.v t.pv,.v (.int b.1),.v (.int (0+(i:Int)))]:aX)= .ok (.int (1*2 ^ (0+(i:Int)).toNat)):=by
     show(if 0<=(0+(i:Int))/\(0+(i:Int))<=1000000/\(1:Int).natAbs<2 ^ 64 then Rx.ok (PV.int (1*2 ^ (0+(i:Int)).toNat)) else .bad)=_
     rw[if_pos ⟨by omega,by omega,by decide⟩]
    show((d2 gL (dC (.int 1)) (ag 2) [.v t.pv,.v (.int b.1),.v (.int (0+(i:Int)))]).st _)=_
    rw[e2];rfl
   ·rw[if_neg hb,if_neg hb];rfl)
 have hf:(ig 0 16).foldl .(Af) (0,.no)=(((t.mk:Nat):Int),Sl.v (.int 15)):=by
  have gen:∀n,((ig 0 n).foldl .(Af) (0,.no)).1=(maskN t.f n:Nat):=by
   intro n
   rw[<-lq]
   unfold ig
   induction n with
   |zero=>rfl
   |succ n ih =>
    rw[List.range_succ,List.map_append,List.foldl_append,List.foldl_append]
    show(if t.at (0+(n:Int))=true then _ else _)=(if t.f n=true then _ else _)
    rw[ih]
    have:(0+(n:Int))=(n:Int):=by omega
    rw[this]
    rfl
  have g16:=gen 16
  have sn:((ig 0 16).foldl .(Af) (0,.no)).2= .v (.int 15):=rfl
  exact Prod.ext g16 sn
 rw[hf]at fo
 show fin ((match (bS (aD 2) (cO (aU (aO aK (gF n) (af 0) (ae (af 2) ah))) (jo 1 (fun i j=>i+j) (d2 gL (dC (.int 1)) (ag 2))) aQ) (ig 0 16) [.v t.pv,.v (.int 0),.no])with | .nx ps'=>aJ (af 1) ps'|r=>r))=_
 rw[fo];rfl
theorem jx(m k:Nat):(Builtin.bitAnd ((m:Int) / 2 ^ k) 1 == 1)=m.testBit k:=by
 have e:((m:Int) / 2 ^ k)=((m / 2 ^ k:Nat):Int):=by
  rw[Int.natCast_ediv];simp
 rw[e,show(1:Int)=((1:Nat):Int) from rfl,bW,Nat.testBit_eq_decide_div_mod_eq,Nat.and_one_is_mod]
 generalize m / 2 ^ k % 2=r
 by_cases h:r=1
 ·simp[h]
 ·have:¬((r:Int)=1):=by omega
  simp[h,this]
theorem Ce(a:Tr):(((Tr.neg a).mk:Nat):Int)=65535-(a.mk:Nat):=by
 have:=iP a.f 16
 have e:(Tr.neg a).mk=maskN (fun i=> !a.f i) 16:=rfl
 rw[e]
 have e2:a.mk=maskN a.f 16:=rfl
 rw[e2]
 have:(2:Nat) ^ 16=65536:=rfl
 omega
inductive St where
 |skip|stop|deed (c:Str)|row (h t:St)|choice (g:Tr) (y n:St)|loop (g:Tr) (b:St)
def St.pv:St->PV
 |.skip=> .obj 8 [] | .stop=> .obj 9 [] | .deed c=> .obj 10 [.str c] | .row h t=> .obj 11 [h.pv,t.pv] | .choice g y n=> .obj 12 [g.pv,y.pv,n.pv] | .loop g b=> .obj 13 [g.pv,b.pv]
def St.depth:St->Nat
 |.skip=>0 | .stop=>0 | .deed _=>0 | .row h t=>max h.depth t.depth+1 | .choice g y n=>max g.depth (max y.depth n.depth)+1 | .loop g b=>max g.depth b.depth+1
def St.size:St->Nat
 |.skip=>1 | .stop=>1 | .deed _=>1 | .row h t=>h.size+t.size+1 | .choice g y n=>g.size+y.size+n.size+1 | .loop g b=>g.size+b.size+1
def cy(c:Str):Prop:=c="P"\/c="Q"\/c="R"\/c="S"\/c="T"
def St.ok:St->Prop
 |.skip=>True | .stop=>True | .deed c=>cy c | .row h t=>h.ok/\t.ok | .choice g y n=>g.ok/\y.ok/\n.ok | .loop g b=>g.ok/\b.ok
def St.first:St->Int->Str×Option St
 |.skip,_=>("done",none)
 |.stop,_=>("stopped",none)
 |.deed c,_=>(c,some .skip)
 |.row h t,s=>if (h.first s).1="done" then t.first s else((h.first s).1,(h.first s).2.map fun l=> .row l t)
 |.choice g y n,s=>if g.at s=true then y.first s else n.first s
 |.loop g b,s=>if g.at s=true then(if (b.first s).1="done" then("hung",none) else((b.first s).1,(b.first s).2.map fun l=> .row l (.loop g b))) else("done",none)
def yT(r:Str×Option St):Prop:=((r.1="done"\/r.1="stopped"\/r.1="hung")/\r.2=none)\/(cy r.1/\ ∃l,r.2=some l)
theorem dI:∀(t:St) (s:Int),t.ok->yT (t.first s)
 |.skip,s,_=> .inl ⟨.inl rfl,rfl⟩
 |.stop,s,_=> .inl ⟨.inr (.inl rfl),rfl⟩
 |.deed c,s,h=> .inr ⟨h,_,rfl⟩
 |.row h t,s,ho=>by
  have i1:=dI h s ho.1
  have i2:=dI t s ho.2
  unfold St.first
  split
  ·exact i2
  ·rename_i hd
   rcases i1 with⟨e,n⟩|⟨e,l,n⟩
   ·exact .inl ⟨e,by rw[n];rfl⟩
   ·exact .inr ⟨e,_,by rw[n];rfl⟩
 |.choice g y n,s,ho=>by
  unfold St.first
  split
  ·exact dI y s ho.2.1
  ·exact dI n s ho.2.2
 |.loop g b,s,ho=>by
  have i1:=dI b s ho.2
  unfold St.first
  split
  ·split
   ·exact .inl ⟨.inr (.inr rfl),rfl⟩
   ·rcases i1 with⟨e,n⟩|⟨e,l,n⟩
    ·exact .inl ⟨e,by rw[n];rfl⟩
    ·exact .inr ⟨e,_,by rw[n];rfl⟩
  ·exact .inl ⟨.inl rfl,rfl⟩
def St.ders:St->List St
 |.skip=>[] | .stop=>[] | .deed _=>[.skip]
 |.row h t=>h.ders.map (fun l=> .row l t)++t.ders
 |.choice _ y n=>y.ders++n.ders
 |.loop g b=>b.ders.map fun l=> .row l (.loop g b)
theorem fj:∀(t l:St),t.ok->l∈t.ders->l.ok
 |.skip,l,_,h=>by cases h
 |.stop,l,_,h=>by cases h
 |.deed c,l,_,h=>by rw[List.mem_singleton.mp h];exact True.intro
 |.row a t,l,ho,h=>by
  rcases List.mem_append.mp h with q|q
  ·obtain⟨k,hk,rfl⟩:=List.mem_map.mp q
   exact⟨fj a k ho.1 hk,ho.2⟩
  ·exact fj t l ho.2 q
 |.choice g y n,l,ho,h=>by
  rcases List.mem_append.mp h with q|q
  ·exact fj y l ho.2.1 q
  ·exact fj n l ho.2.2 q
 |.loop g b,l,ho,h=>by
  obtain⟨k,hk,rfl⟩:=List.mem_map.mp h
  exact⟨fj b k ho.2 hk,ho⟩
def wV:List Str:=["P","Q","R","S","T"]
theorem Jz{e:Str}:e∈wV ↔ cy e:=by simp[wV,cy]
def Sub(a b:Nat):Prop:=∀s,s<16->a.testBit s=true->b.testBit s=true
def ot(L:Str->Nat->Nat)(m s:Nat):Bool:=wV.all fun e=> !(L e s &&& m == 0)
def stp(L:Str->Nat->Nat)(m:Nat):Nat:=maskN (fun s=>m.testBit s && ot L m s) 16
def lastF(L:Str->Nat->Nat):Nat->Nat->Nat
 |0,m=>m
 |k+1,m=>if stp L m=m then m else lastF L k (stp L m)
theorem kj{m s:Nat}(h:m<65536)(hs:16<=s):m.testBit s=false:=Nat.testBit_lt_two_pow (Nat.lt_of_lt_of_le h (show 2 ^ 16<=2 ^ s from Nat.pow_le_pow_right (by decide) hs))
theorem yU{a b:Nat}(ha:a<65536)(hb:b<65536)(h1:Sub a b)(h2:Sub b a):a=b:=by
 apply Nat.eq_of_testBit_eq
 intro s
 by_cases hs:s<16
 ·cases e:a.testBit s
  ·cases e':b.testBit s
   ·rfl
   ·rw[h2 s hs e']at e;cases e
  ·rw[h1 s hs e]
 ·rw[kj ha (by omega),kj hb (by omega)]
theorem yV(L:Str->Nat->Nat)(m s:Nat)(hs:s<16):(stp L m).testBit s=(m.testBit s && ot L m s):=by
 unfold stp
 rw[dG]
 simp[hs]
theorem kl(L:Str->Nat->Nat)(m:Nat):stp L m<65536:=eZ _ 16
theorem yW(L:Str->Nat->Nat)(m:Nat):Sub (stp L m) m:=fun s hs h=>by
 rw[yV L m s hs,Bool.and_eq_true]at h;exact h.1
theorem Cf{a b:Nat}(ha:a<65536)(h:Sub a b):a<=b:=by
 have:a &&& b=a:=by
  apply Nat.eq_of_testBit_eq
  intro s
  rw[Nat.testBit_and]
  by_cases hs:s<16
  ·cases e:a.testBit s
   ·rfl
   ·rw[h s hs e];rfl
  ·rw[kj ha (by omega)];rfl
 rw[<-this]
 exact Nat.and_le_right
theorem qS(L:Str->Nat->Nat):∀(k m:Nat),m<65536->lastF L k m<65536
 |0,m,h=>h
 |k+1,m,h=>by
  unfold lastF
  split
  ·exact h
  ·exact qS L k _ (kl L m)
def gdF(L:Str->Nat->Nat)(u:Nat):Nat:=lastF L 65536 u
theorem qT(L:Str->Nat->Nat){u:Nat}(h:u<65536):gdF L u<65536:=qS L 65536 u h
def bt(m:Nat):List Nat:=(List.range 16).filter fun i=>m.testBit i
theorem aW{m s:Nat}:s∈bt m ↔ s<16/\m.testBit s=true:=by simp[bt]
theorem iz(m:Nat):(bt m).length<=16:=by
 have:=List.length_filter_le (fun i=>m.testBit i) (List.range 16)
 rw[List.length_range]at this
 exact this
theorem JC(t:Tr){s:Nat}(hs:s<16):t.mk.testBit s=t.f s:=by
 unfold Tr.mk
 rw[dG];simp[hs]
theorem FV(m s:Nat):Builtin.bitAnd ((m:Int) / 2 ^ s) 1=if m.testBit s=true then 1 else 0:=by
 have h:=jx m s
 have e:((m:Int) / 2 ^ s)=((m / 2 ^ s:Nat):Int):=by
  rw[Int.natCast_ediv];simp
 rw[e,show(1:Int)=((1:Nat):Int) from rfl,bW,Nat.and_one_is_mod]at h ⊢
 have h2:=Nat.mod_two_eq_zero_or_one (m / 2 ^ s)
 rw[<-h]
 rcases h2 with q|q <;> simp[q]
theorem jy{d:DP}{ps:aX}{k:Nat}(h:d ps= .ok (.int (k:Int)))(hk:k<=100000):bA (ae d ah) ps= .ok ((List.range k).map fun(i:Nat)=>PV.int (i:Int)):=by
 have e:ae d ah ps= .ok [.int (k:Int)]:=by
  show(d ps).bind _=_
  rw[h];rfl
 unfold bA
 rw[e,aq]
 have h: -(2 ^ 62)<=(k:Int)/\(k:Int)<2 ^ 62:=by omega
 simp only[h,and_self,if_true,Int.toNat_natCast]
 unfold ig
 congr 1
 apply List.map_congr_left
 intro i _
 rw[Int.zero_add]
abbrev Nd:=Nat×Nat
structure Mz where
 what:Nat->Nat->Str
 there:Nat->Nat->Nat
 brk:Nat->Nat->Bool
 wy:Str->Nat->Nat
 N:Nat
def isEnd(w:Str):Prop:=w="done"\/w="stopped"\/w="hung"
instance (w:Str):Decidable (isEnd w):=by unfold isEnd;infer_instance
structure Mz.ok(M:Mz):Prop where
 kind:∀r s,r<M.N->s<16->(isEnd (M.what r s)\/(cy (M.what r s)/\M.there r s<M.N))
 brk:∀r s,M.brk r s=true->M.what r s="done"
 wy:∀d s,M.wy d s<65536
def Mz.nx(M:Mz)(v:Nd):List Nd:=if isEnd (M.what v.1 v.2) then[] else(bt (M.wy (M.what v.1 v.2) v.2)).map fun s=>(M.there v.1 v.2,s)
def Mz.Pth(M:Mz)(B:List Nd):Nat->Nd->Prop
 |0,v=>v∈B
 |k+1,v=>∃u,M.Pth B k u/\v∈M.nx u
def Mz.In(M:Mz)(v:Nd):Prop:=v.1<M.N/\v.2<16
theorem zT{M:Mz}(h:M.ok){u v:Nd}(hu:M.In u)(hv:v∈M.nx u):M.In v:=by
 unfold Mz.nx at hv
 split at hv
 ·cases hv
 ·rename_i he
  obtain⟨s,hs,rfl⟩:=List.mem_map.mp hv
  refine⟨?_,(aW.mp hs).1⟩
  rcases h.kind _ _ hu.1 hu.2 with q|q
  ·exact absurd q he
  ·exact q.2
theorem wW{M:Mz}(h:M.ok){B:List Nd}(hB:∀b∈B,M.In b):∀k v,M.Pth B k v->M.In v
 |0,v,hv=>hB v hv
 |k+1,v,⟨u,hu,hv⟩=>zT h (wW h hB k u hu) hv
theorem wX{α :Type}[DecidableEq α]:∀(l m:List α),l.Nodup->(∀x∈l,x∈m)->l.length<=m.length
 |[],_,_,_=>Nat.zero_le _
 |x::xs,m,h,hm=>by
  have hx:=List.nodup_cons.mp h
  have:=wX xs (m.erase x) hx.2 fun y hy=>(List.mem_erase_of_ne (fun e:y=x=>hx.1 (by rw[<-e];exact hy))).mpr (hm y (List.mem_cons_of_mem _ hy))
  rw[List.length_erase_of_mem (hm x List.mem_cons_self)]at this
  have hp:=List.length_pos_of_mem (hm x List.mem_cons_self)
  simp only[List.length_cons];omega
def Cg(n:Nat):List Nd:=(List.range (16*n)).map fun i=>(i / 16,i % 16)
theorem Ch{M:Mz}{v:Nd}(h:M.In v):v∈Cg M.N:=by
 obtain⟨r,s⟩:=v
 have h1:r<M.N:=h.1
 have h2:s<16:=h.2
 refine List.mem_map.mpr ⟨16*r+s,List.mem_range.mpr (by omega),?_⟩
 have e1:(16*r+s) / 16=r:=by omega
 have e2:(16*r+s) % 16=s:=by omega
 simp[e1,e2]
theorem tJ{M:Mz}{l:List Nd}(h:l.Nodup)(hi:∀v∈l,M.In v):l.length<=16*M.N:=by
 have:=wX l (Cg M.N) h fun v hv=>Ch (hi v hv)
 simpa[Cg]using this
inductive Vs where
 |root (r s:Nat)|more (p:Vs) (r s:Nat) (d:Str)
def Vs.nd:Vs->Nd
 |.root r s=>(r,s) | .more _ r s _=>(r,s)
def Vs.dep:Vs->Nat
 |.root _ _=>0 | .more p _ _ _=>p.dep+1
def Vs.good(M:Mz)(B:List Nd):Vs->Prop
 |.root r s=>(r,s)∈B
 |.more p r s d=>p.good M B/\cy d/\(r,s)∈M.nx p.nd
theorem km{M:Mz}{B:List Nd}:∀v:Vs,v.good M B->M.Pth B v.dep v.nd
 |.root _ _,h=>h
 |.more p _ _ _,h=>⟨p.nd,km p h.1,h.2.2⟩
structure QI(M:Mz)(B:List Nd)(rc:Nat->Nat)(vs:List Vs)(i:Nat):Prop where
 le:i<=vs.length
 q1:∀v∈vs,v.good M B
 q2:∀b∈B,∃v∈vs,v.nd=b/\v.dep=0
 q3:∀j v,j<i->vs[j]? =some v->M.brk v.nd.1 v.nd.2=false/\ ∀w∈M.nx v.nd,∃u∈vs,u.nd=w/\u.dep<=v.dep+1
 q4:vs.Pairwise fun a b=>a.dep<=b.dep
 q4b:∀v,vs[i]? =some v->∀u∈vs,u.dep<=v.dep+1
 q5:∀r s,s<16->((rc r).testBit s=true ↔ ∃u∈vs,u.nd=(r,s))
 nd:(vs.map Vs.nd).Nodup
 rl:∀r,rc r<65536
theorem QI.In{M:Mz}(h:M.ok){B:List Nd}(hB:∀b∈B,M.In b){rc vs i}(q:QI M B rc vs i):∀v∈vs,M.In v.nd:=fun v hv=>wW h hB _ _ (km v (q.q1 v hv))
theorem QI.len{M:Mz}(h:M.ok){B:List Nd}(hB:∀b∈B,M.In b){rc vs i}(q:QI M B rc vs i):vs.length<=16*M.N:=by
 have:=tJ q.nd fun v hv=>by
  obtain⟨u,hu,rfl⟩:=List.mem_map.mp hv
  exact q.In h hB u hu
 simpa using this
theorem wY{l:List Vs}(h:l.Pairwise fun a b=>a.dep<=b.dep){i j:Nat}{a b:Vs}(ha:l[i]? =some a)(hb:l[j]? =some b)(hij:i<=j):a.dep<=b.dep:=by
 rcases Nat.lt_or_ge i j with q|q
 ·obtain⟨h1,rfl⟩:=List.getElem?_eq_some_iff.mp ha
  obtain⟨h2,rfl⟩:=List.getElem?_eq_some_iff.mp hb
  exact List.pairwise_iff_getElem.mp h i j h1 h2 q
 ·have:i=j:=by omega
  subst this
  rw[ha]at hb
  cases hb
  exact Nat.le_refl _
theorem QI.seen{M:Mz}{B:List Nd}{rc vs i}(q:QI M B rc vs i):∀k u,M.Pth B k u->(∀v,vs[i]? =some v->k<v.dep)->∃j w,j<i/\vs[j]? =some w/\w.nd=u/\w.dep<=k
 |0,u,hu,hk=>by
  obtain⟨w,hw,e1,e2⟩:=q.q2 u hu
  obtain⟨j,hj⟩:=List.getElem?_of_mem hw
  refine⟨j,w,?_,hj,e1,by omega⟩
  rcases Nat.lt_or_ge j i with p|p
  ·exact p
  ·have hl:i<vs.length:=by
    obtain⟨z,_⟩:=List.getElem?_eq_some_iff.mp hj;omega
   have:=wY q.q4 (List.getElem?_eq_getElem hl) hj p
   have:=hk _ (List.getElem?_eq_getElem hl)
   omega
 |k+1,u,⟨u',hu',hn⟩,hk=>by
  obtain⟨j',w',hj',hw',rfl,hd'⟩:=QI.seen q k u' hu' fun v hv=>by have:=hk v hv;omega
  obtain⟨w,hw,e1,e2⟩:=(q.q3 j' w' hj' hw').2 u hn
  obtain⟨j,hj⟩:=List.getElem?_of_mem hw
  refine⟨j,w,?_,hj,e1,by omega⟩
  rcases Nat.lt_or_ge j i with p|p
  ·exact p
  ·have hl:i<vs.length:=by
    obtain⟨z,_⟩:=List.getElem?_eq_some_iff.mp hj;omega
   have:=wY q.q4 (List.getElem?_eq_getElem hl) hj p
   have:=hk _ (List.getElem?_eq_getElem hl)
   omega
def Mz.Free(M:Mz)(B:List Nd)(k:Nat):Prop:=∀j u,j<k->M.Pth B j u->M.brk u.1 u.2=false
theorem QI.found{M:Mz}{B:List Nd}{rc vs i}(q:QI M B rc vs i){v:Vs}(hv:vs[i]? =some v):M.Free B v.dep:=fun k u hk hu=>by
 obtain⟨j,w,hj,hw,rfl,_⟩:=q.seen k u hu fun v' hv'=>by rw[hv]at hv';cases hv';exact hk
 exact(q.q3 j w hj hw).1
theorem QI.step{M:Mz}{B:List Nd}{rc vs i}(q:QI M B rc vs i){v:Vs}(hv:vs[i]? =some v)(hb:M.brk v.nd.1 v.nd.2=false)
  {ns:List Vs} (n1:∀u∈ns,u.good M B/\u.dep=v.dep+1/\ ∀w∈vs,w.nd≠u.nd) (n2:(ns.map Vs.nd).Nodup)
  (n3:∀w∈M.nx v.nd,(∃u∈vs,u.nd=w)\/ ∃u∈ns,u.nd=w) {rc':Nat->Nat} (n4:∀r s,s<16->((rc' r).testBit s=true ↔ (rc r).testBit s=true\/ ∃u∈ns,u.nd=(r,s))) (n5:∀r,rc' r<65536):QI M B rc' (vs++ns) (i+1):=by
 have hi:i<vs.length:=(List.getElem?_eq_some_iff.mp hv).1
 refine⟨?_,?_,?_,?_,?_,?_,?_,?_,n5⟩
 ·rw[List.length_append];omega
 ·intro u hu
  rcases List.mem_append.mp hu with p|p
  ·exact q.q1 u p
  ·exact(n1 u p).1
 ·intro b hb
  obtain⟨u,hu,e⟩:=q.q2 b hb
  exact⟨u,List.mem_append_left _ hu,e⟩
 ·intro j u hj hu
  have hjl:j<vs.length:=by omega
  rw[List.getElem?_append_left hjl]at hu
  rcases Nat.lt_or_ge j i with p|p
  ·obtain⟨h1,h2⟩:=q.q3 j u p hu
   exact⟨h1,fun w hw=>by obtain⟨x,hx,e⟩:=h2 w hw;exact⟨x,List.mem_append_left _ hx,e⟩⟩
  ·have:j=i:=by omega
   subst this
   rw[hv]at hu
   cases hu
   refine⟨hb,fun w hw=> ?_⟩
   rcases n3 w hw with⟨x,hx,e⟩|⟨x,hx,e⟩
   ·exact⟨x,List.mem_append_left _ hx,e,q.q4b v hv x hx⟩
   ·exact⟨x,List.mem_append_right _ hx,e,by rw[(n1 x hx).2.1];exact Nat.le_refl _⟩
 ·rw[List.pairwise_append]
  refine⟨q.q4,?_,fun a ha b hb=>by rw[(n1 b hb).2.1];exact q.q4b v hv a ha⟩
  rw[List.pairwise_iff_forall_sublist]
  intro a b hab
  have ha:=(n1 a (hab.subset (by simp))).2.1
  have hb:=(n1 b (hab.subset (by simp))).2.1
  omega
 ·intro w hw u hu
  have hd:v.dep<=w.dep:=by
   rcases Nat.lt_or_ge (i+1) vs.length with p|p
   ·rw[List.getElem?_append_left p]at hw
    exact wY q.q4 hv hw (by omega)
   ·rw[List.getElem?_append_right p]at hw
    have:=(n1 w (List.mem_of_getElem? hw)).2.1
    omega
  rcases List.mem_append.mp hu with p|p
  ·have:=q.q4b v hv u p;omega
  ·have:=(n1 u p).2.1;omega
 ·intro r s hs
  rw[n4 r s hs,q.q5 r s hs]
  constructor
  ·rintro(⟨u,hu,e⟩|⟨u,hu,e⟩)
   ·exact⟨u,List.mem_append_left _ hu,e⟩
   ·exact⟨u,List.mem_append_right _ hu,e⟩
  ·rintro⟨u,hu,e⟩
   rcases List.mem_append.mp hu with p|p
   ·exact .inl ⟨u,p,e⟩
   ·exact .inr ⟨u,p,e⟩
 ·rw[List.map_append,List.nodup_append]
  refine⟨q.nd,n2,?_⟩
  intro a ha b hb e
  obtain⟨x,hx,rfl⟩:=List.mem_map.mp ha
  obtain⟨y,hy,rfl⟩:=List.mem_map.mp hb
  exact(n1 y hy).2.2 x hx e
def frs(M:Mz)(rc:Nat->Nat)(v:Nd):Nat:=maskN (fun s=>(M.wy (M.what v.1 v.2) v.2).testBit s && !(rc (M.there v.1 v.2)).testBit s) 16
def upd(rc:Nat->Nat)(r m:Nat):Nat->Nat:=fun x=>if x=r then m else rc x
theorem yX{a b:Nat}(ha:a<65536)(hb:b<65536):a ||| b<65536:=Nat.or_lt_two_pow (n:=16) ha hb
theorem QI.next{M:Mz}(h:M.ok){B:List Nd}(hB:∀b∈B,M.In b){rc vs i}(q:QI M B rc vs i){v:Vs}(hv:vs[i]? =some v)(hb:M.brk v.nd.1 v.nd.2=false)(he:¬isEnd (M.what v.nd.1 v.nd.2)) :
  QI M B (upd rc (M.there v.nd.1 v.nd.2) (rc (M.there v.nd.1 v.nd.2) ||| frs M rc v.nd)) (vs++(bt (frs M rc v.nd)).map fun s=> .more v (M.there v.nd.1 v.nd.2) s (M.what v.nd.1 v.nd.2)) (i+1):=by
 have hm:v∈vs:=List.mem_of_getElem? hv
 have hD:cy (M.what v.nd.1 v.nd.2):=by
  rcases h.kind _ _ (q.In h hB v hm).1 (q.In h hB v hm).2 with p|p
  ·exact absurd p he
  ·exact p.1
 have hf:∀s,s<16->(frs M rc v.nd).testBit s=((M.wy (M.what v.nd.1 v.nd.2) v.nd.2).testBit s && !(rc (M.there v.nd.1 v.nd.2)).testBit s):=fun s hs=>by
  unfold frs
  rw[dG]
  simp[hs]
 refine q.step hv hb ?_ ?_ ?_ ?_ ?_
 ·intro u hu
  obtain⟨s,hs,rfl⟩:=List.mem_map.mp hu
  obtain⟨h1,h2⟩:=aW.mp hs
  rw[hf s h1,Bool.and_eq_true,Bool.not_eq_true']at h2
  refine⟨⟨q.q1 v hm,hD,?_⟩,rfl,?_⟩
  ·unfold Mz.nx
   rw[if_neg he]
   exact List.mem_map.mpr ⟨s,aW.mpr ⟨h1,h2.1⟩,rfl⟩
  ·intro w hw e
   have:=(q.q5 (M.there v.nd.1 v.nd.2) s h1).mpr ⟨w,hw,e⟩
   rw[h2.2]at this
   cases this
 ·rw[List.map_map]
  have:(Vs.nd ∘ fun s=>Vs.more v (M.there v.nd.1 v.nd.2) s (M.what v.nd.1 v.nd.2))=fun s=>(M.there v.nd.1 v.nd.2,s):=rfl
  rw[this]
  have hn:(bt (frs M rc v.nd)).Nodup:=List.Nodup.sublist List.filter_sublist List.nodup_range
  exact List.Pairwise.map _ (fun a b hab e=>hab (Prod.mk.inj e).2) hn
 ·intro w hw
  unfold Mz.nx at hw
  rw[if_neg he]at hw
  obtain⟨s,hs,rfl⟩:=List.mem_map.mp hw
  obtain⟨h1,h2⟩:=aW.mp hs
  cases e:(rc (M.there v.nd.1 v.nd.2)).testBit s
  ·exact .inr ⟨_,List.mem_map.mpr ⟨s,aW.mpr ⟨h1,by rw[hf s h1,h2,e];rfl⟩,rfl⟩,rfl⟩
  ·exact .inl ((q.q5 _ s h1).mp e)
 ·intro r s hs
  unfold upd
  by_cases hr:r=M.there v.nd.1 v.nd.2
  ·subst hr
   rw[if_pos rfl,Nat.testBit_or,Bool.or_eq_true]
   constructor
   ·rintro(p|p)
    ·exact .inl p
    ·exact .inr ⟨_,List.mem_map.mpr ⟨s,aW.mpr ⟨hs,p⟩,rfl⟩,rfl⟩
   ·rintro(p|⟨u,hu,e⟩)
    ·exact .inl p
    ·obtain⟨s',hs',rfl⟩:=List.mem_map.mp hu
     have:s'=s:=(Prod.mk.inj e).2
     subst this
     exact .inr (aW.mp hs').2
  ·rw[if_neg hr]
   constructor
   ·exact .inl
   ·rintro(p|⟨u,hu,e⟩)
    ·exact p
    ·obtain⟨s',hs',rfl⟩:=List.mem_map.mp hu
     exact absurd (Prod.mk.inj e).1.symm hr
 ·intro r
  unfold upd
  split
  ·exact yX (q.rl _) (eZ _ 16)
  ·exact q.rl r
theorem QI.still{M:Mz}{B:List Nd}{rc vs i}(q:QI M B rc vs i){v:Vs}(hv:vs[i]? =some v)(hb:M.brk v.nd.1 v.nd.2=false)(he:isEnd (M.what v.nd.1 v.nd.2)):QI M B rc vs (i+1):=by
 have:=q.step hv hb (ns:=[]) (rc':=rc) (fun u hu=>by cases hu) List.nodup_nil (fun w hw=>by unfold Mz.nx at hw;rw[if_pos he]at hw;cases hw) (fun r s hs=>by simp) q.rl
 simpa using this
theorem QI.start{M:Mz}(st:Nat)(hst:st<65536):QI M ((bt st).map fun s=>(0,s)) (upd (fun _=>0) 0 st) ((bt st).map fun s=> .root 0 s) 0:=by
 refine⟨Nat.zero_le _,?_,?_,fun j v hj=>absurd hj (Nat.not_lt_zero j),?_,?_,?_,?_,?_⟩
 ·intro v hv
  obtain⟨s,hs,rfl⟩:=List.mem_map.mp hv
  exact List.mem_map.mpr ⟨s,hs,rfl⟩
 ·intro b hb
  obtain⟨s,hs,rfl⟩:=List.mem_map.mp hb
  exact⟨_,List.mem_map.mpr ⟨s,hs,rfl⟩,rfl,rfl⟩
 ·rw[List.pairwise_iff_forall_sublist]
  intro a b hab
  obtain⟨s,_,rfl⟩:=List.mem_map.mp (hab.subset (show a∈[a,b]by simp))
  exact Nat.zero_le _
 ·intro v _ u hu
  obtain⟨s,_,rfl⟩:=List.mem_map.mp hu
  exact Nat.zero_le _
 ·intro r s hs
  unfold upd
  constructor
  ·intro p
   split at p
   ·rename_i e
    subst e
    exact⟨_,List.mem_map.mpr ⟨s,aW.mpr ⟨hs,p⟩,rfl⟩,rfl⟩
   ·simp at p
  ·rintro⟨u,hu,e⟩
   obtain⟨s',hs',rfl⟩:=List.mem_map.mp hu
   have e1:0=r:=(Prod.mk.inj e).1
   have e2:s'=s:=(Prod.mk.inj e).2
   subst e1;subst e2
   simpa using(aW.mp hs').2
 ·rw[List.map_map]
  have:(Vs.nd ∘ fun s=>Vs.root 0 s)=fun s=>((0:Nat),s):=rfl
  rw[this]
  have hn:(bt st).Nodup:=List.Nodup.sublist List.filter_sublist List.nodup_range
  exact List.Pairwise.map _ (fun a b hab e=>hab (Prod.mk.inj e).2) hn
 ·intro r
  unfold upd
  split
  ·exact hst
  ·exact Nat.zero_lt_succ _
def Mz.Near(M:Mz)(B:List Nd):Option Nat->Prop
 |some k=>M.Free B k/\ ∃v,M.Pth B k v/\M.brk v.1 v.2=true
 |none=>∀k,M.Free B k
end M62
end
noncomputable section
namespace M62
open PySem L2 DN
inductive Sy where
 |nowhere (t:Tr)|behind (b:Tr) (d:Str) (a:Tr)|through (t:Tr) (d:Str)
def Sy.pv:Sy->PV
 |.nowhere t=> .obj 21 [t.pv] | .behind b d a=> .obj 22 [b.pv,.str d,a.pv] | .through t d=> .obj 23 [t.pv,.str d]
def Sy.ok(D:Nat):Sy->Prop
 |.nowhere t=>t.ok/\t.depth<D | .behind b d a=>(b.ok/\b.depth<D)/\cy d/\(a.ok/\a.depth<D) | .through t d=>(t.ok/\t.depth<D)/\cy d
def Sy.bars:Sy->Nat->Bool
 |.nowhere t,s=>t.f s
 |_,_=>false
def Sy.lm:Sy->Str->Nat->Nat
 |.nowhere _,_,_=>65535
 |.behind b d a,e,s=>if e=d/\b.f s=true then a.mk else 65535
 |.through t d,e,s=>if e=d then(if t.f s=true then t.mk else(Tr.neg t).mk) else 65535
def letm(ys:List Sy)(e:Str)(s:Nat):Nat:=ys.foldl (fun m y=>m &&& y.lm e s) 65535
def unb(ys:List Sy):Nat:=maskN (fun s=> !(ys.any fun y=>y.bars s)) 16
def gdS(ys:List Sy):Nat:=gdF (letm ys) (unb ys)
theorem kn(ys:List Sy):unb ys<65536:=eZ _ 16
theorem ko(n m s:Nat):gF (n+1) 0 [.int (s:Int),.int (m:Int)]= .ok (.bl (m.testBit s)):=by
 rw[g_z0,aB rfl]
 show fin (sB (gF n) [.v .(R),.v .(Ab)])=_
 have h0:(0:Int)<=(s:Int):=by omega
 have hb:=jx m s
 unfold sB
 simp[h0,hb]
theorem dz(n m:Nat):gF (n+2) 1 [.int (m:Int)]= .ok (.lst ((bt m).map fun(i:Nat)=>PV.int (i:Int))):=by
 rw[g_z1,aB rfl]
 show fin (sC (gF (n+1)) [.v .(Ab)])=_
 have hc:dComp ["setting"] [("mask",0)] .(Ai) (aD 0) (aU (aj (gF (n+1) 0) (ae (af 0) (ae (af 1) ah)))) (af 0) [.v .(Ab)]= .ok ((bt m).map fun(i:Nat)=>PV.int (i:Int)):=by
  have e:bA (ae (dC (.int 16)) ah) ([.v .(Ab)]:aX)= .ok ((List.range 16).map fun(i:Nat)=>PV.int (i:Int)):=rfl
  unfold dComp
  rw[e,aq,if_pos (by rw[List.length_map,List.length_range];decide)]
  refine eG (ps0:=[.v .(Ab)]) .(W) (fun i=>m.testBit i) .(W) (List.range 16) .no fun i hi=>⟨?_,fun _=>rfl⟩
  have e1:=ko n m i
  simp[e1]
 unfold sC
 simp only[eF,cP,hc,aq,br,fK]
theorem yY(D:Nat)(y:Sy)(h:y.ok D)(n s:Nat)(hn:D<=n):bp iX (gF (n+1)) y.pv [.int (s:Int)]= .ok (.bl (y.bars s)):=by
 cases y with
 |nowhere t =>
  have e0:bp iX (gF (n+1)) (Sy.nowhere t).pv [.int (s:Int)]=aH [false,false] 2 (tE (gF n)) [.obj 21 [t.pv],.int (s:Int)]:=rfl
  rw[e0,aB rfl]
  show fin (tE (gF n) [.v (.obj 21 [t.pv]),.v .(R)])=_
  have hh:=cg t n (s:Int) h.1 (by have:=h.2;omega)
  have f1:ba cI (.obj 21 [t.pv])= .ok t.pv:=rfl
  unfold tE
  simp[f1,hh,Sy.bars,Tr.f]
 |behind b d a=>rfl
 |through t d=>rfl
theorem wZ(D:Nat)(y:Sy)(h:y.ok D)(n:Nat)(e:Str)(s:Nat)(hs:s<16)(hn:D<=n):bp cb (gF (n+2)) y.pv [.str e,.int (s:Int)]= .ok (.int (y.lm e s:Nat)):=by
 cases y with
 |nowhere t=>rfl
 |behind b d a =>
  have e0:bp cb (gF (n+2)) (Sy.behind b d a).pv [.str e,.int (s:Int)]=aH [false,false,false] 3 (tF (gF (n+1))) [.obj 22 [b.pv,.str d,a.pv],.str e,.int (s:Int)]:=rfl
  rw[e0,aB rfl]
  show fin (tF (gF (n+1)) [.v (.obj 22 [b.pv,.str d,a.pv]),.v (.str e),.v .(R)])=_
  obtain⟨⟨o1,d1⟩,_,o2,d2⟩:=h
  have hh:=cg b (n+1) (s:Int) o1 (by omega)
  have hm:=jw a n o2 (by omega)
  have f1:ba gQ (.obj 22 [b.pv,.str d,a.pv])= .ok (.str d):=rfl
  have f2:ba iw (.obj 22 [b.pv,.str d,a.pv])= .ok b.pv:=rfl
  have f3:ba jv (.obj 22 [b.pv,.str d,a.pv])= .ok a.pv:=rfl
  unfold tF Sy.lm
  by_cases he:e=d
  ·subst he
   have hh:bp aK (gF (n+1)) b.pv [.int (s:Int)]= .ok (.bl (b.f s)):=hh
   cases hb:b.f s
   ·rw[hb]at hh
    simp[f1,f2,f3,hh,hm,hb]
   ·rw[hb]at hh
    simp[f1,f2,f3,hh,hm,hb]
  ·have be:(e == d)=false:=by simpa using he
   simp[f1,be,he]
 |through t d =>
  have e0:bp cb (gF (n+2)) (Sy.through t d).pv [.str e,.int (s:Int)]=aH [false,false,false] 4 (tH (gF (n+1))) [.obj 23 [t.pv,.str d],.str e,.int (s:Int)]:=rfl
  rw[e0,aB rfl]
  show fin (tH (gF (n+1)) [.v (.obj 23 [t.pv,.str d]),.v (.str e),.v .(R),.no])=_
  obtain⟨⟨o1,d1⟩,_⟩:=h
  have hm:=jw t n o1 (by omega)
  have hi:=ko n t.mk s
  have hb:t.mk.testBit s=t.f s:=by
   unfold Tr.mk
   rw[dG];simp[hs]
  rw[hb]at hi
  have f1:ba gQ (.obj 23 [t.pv,.str d])= .ok (.str d):=rfl
  have f2:ba cI (.obj 23 [t.pv,.str d])= .ok t.pv:=rfl
  have hn:=Ce t
  unfold tH Sy.lm
  by_cases he:e=d
  ·subst he
   cases hf:t.f s
   ·rw[hf]at hi
    simp[f1,f2,hm,hi,hn,hf]
   ·rw[hf]at hi
    simp[f1,f2,hm,hi,hf]
  ·have be:(e == d)=false:=by simpa using he
   simp[f1,be,he]
theorem mK(D:Nat)(ys:List Sy)(h:∀y∈ys,y.ok D)(n:Nat)(e:Str)(s:Nat)(hs:s<16)(hn:D<=n):gF (n+3) 4 [.lst .(J),.str e,.int (s:Int)]= .ok (.int (letm ys e s:Nat)):=by
 rw[g_z4,aB rfl]
 show fin (sG (gF (n+2)) [.v .(I),.v (.str e),.v .(R),.no,.no])=_
 have lp:∀(zs:List Sy) (m:Nat) (s4:Sl),(∀y∈zs,y.ok D)->fin ((bS (aD 4) (k9 (gF (n+2))) (zs.map Sy.pv) [.v .(I),.v (.str e),.v .(R),.v .(Ab),s4]).next (aJ (af 3)))= .ok (.int ((zs.foldl (fun m y=>m &&& y.lm e s) m:Nat):Int)):=by
  intro zs
  induction zs with
  |nil=>intro m s4 _;rfl
  |cons y zs ih =>
   intro m s4 hz
   have hl:=wZ D y (hz y List.mem_cons_self) n e s hs hn
   have eg:aD 4 y.pv [.v .(I),.v (.str e),.v .(R),.v .(Ab),s4]= .ok [.v .(I),.v (.str e),.v .(R),.v .(Ab),.v y.pv]:=rfl
   have body:k9 (gF (n+2)) [.v .(I),.v (.str e),.v .(R),.v .(Ab),.v y.pv]= .nx [.v .(I),.v (.str e),.v .(R),.v (.int ((m &&& y.lm e s:Nat):Int)),.v y.pv]:=by
    unfold k9 jo
    have ea:aO cb (gF (n+2)) (af 4) (ae (af 1) (ae (af 2) ah)) [.v .(I),.v (.str e),.v .(R),.v .(Ab),.v y.pv]= .ok (.int (y.lm e s:Nat)):=hl
    have:=bW m (y.lm e s)
    show((aO cb (gF (n+2)) (af 4) (ae (af 1) (ae (af 2) ah)) [.v .(I),.v (.str e),.v .(R),.v .(Ab),.v y.pv]).st fun w=>(match w with | .int z=>Rs.nx [.v .(I),.v (.str e),.v .(R),.v (.int (Builtin.bitAnd (m:Int) z)),.v y.pv]|_=> .bad))=_
    rw[ea,br]
    show Rs.nx _=_
    rw[this]
   rw[List.map_cons,bS,eg,br,body]
   exact ih _ _ fun z hz'=>hz z (List.mem_cons_of_mem _ hz')
 have:=lp ys 65535 .no h
 unfold sG
 rw[aF]
 show fin ((bS (aD 4) (k9 (gF (n+2))) .(J) [.v .(I),.v (.str e),.v .(R),.v (.int 65535),.no]).next (aJ (af 3)))=_
 exact this
theorem mL{α :Type}(f: α ->Bool):∀l:List α,fS (l.map fun x=>PV.bl (f x))=some (l.map f)
 |[]=>rfl
 |x::l=>by
  rw[List.map_cons,fS,mL f l];rfl
theorem any_map{α :Type}(f: α ->Bool)(l:List α):yz [.lst (l.map fun x=>PV.bl (f x))]= .ok (.bl (l.any f)):=by
 show(match fS (l.map fun x=>PV.bl (f x))with|some ns=>Rx.ok (PV.bl (ns.any id))|none=> .bad)=_
 rw[mL f l]
 show Rx.ok (PV.bl ((l.map f).any id))=_
 rw[List.any_map];rfl
theorem all_map{α :Type}(f: α ->Bool)(l:List α):sj [.lst (l.map fun x=>PV.bl (f x))]= .ok (.bl (l.all f)):=by
 show(match fS (l.map fun x=>PV.bl (f x))with|some ns=>Rx.ok (PV.bl (ns.all id))|none=> .bad)=_
 rw[mL f l]
 show Rx.ok (PV.bl ((l.map f).all id))=_
 rw[List.all_map];rfl
theorem kq(f:Nat->Bool):∀n,(List.range n).foldl (fun(b:Int) (i:Nat)=>if f i=true then b-1*2 ^ i else b) 65535=65535-(maskN f n:Nat)
 |0=>rfl
 |n+1=>by
  rw[List.range_succ,List.foldl_append,kq f n]
  show(if f n=true then _ else _)=65535-(((2 ^ n*(f n).toNat+maskN f n:Nat)):Int)
  cases h:f n
  ·simp
  ·simp;omega
theorem ou(D:Nat)(ys:List Sy)(h:∀y∈ys,y.ok D)(hl:ys.length<=1000)(n:Nat)(hn:D<=n):gF (n+2) 2 [.lst .(J)]= .ok (.int (unb ys:Nat)):=by
 rw[g_z2,aB rfl]
 show fin (sE (gF (n+1)) [.v .(I),.no,.no])=_
 have lp:∀(l:List Nat) (b:Int) (s2:Sl),fin ((bS (aD 2) (mE (gF (n+1))) (l.map fun(i:Nat)=>PV.int (i:Int)) [.v .(I),.v (.int b),s2]).next (aJ (af 1)))= .ok (.int (l.foldl (fun(b:Int) (i:Nat)=>if (ys.any fun y=>y.bars i)=true then b-1*2 ^ i else b) b))\/ ∃i∈l,16<=i:=by
  intro l
  induction l with
  |nil=>intro b s2;exact .inl rfl
  |cons i l ih =>
   intro b s2
   by_cases h16:16<=i
   ·exact .inr ⟨i,List.mem_cons_self,h16⟩
   ·have hc:dComp ["saying"] [("setting",2)] (aE (ag 0)) (aD 0) bP (aO iX (gF (n+1)) (af 0) (ae (af 1) ah)) [.v .(I),.v (.int b),.v (.int (i:Int))]= .ok (ys.map fun y=>PV.bl (y.bars i)):=by
     have ei:aE (ag 0) [.v .(I),.v (.int b),.v (.int (i:Int))]= .ok .(J):=rfl
     unfold dComp
     rw[ei,aq,if_pos (by rw[List.length_map];show ys.length<=16777216;omega)]
     refine bE (ps0:=[.v (.int (i:Int))]) Sy.pv (fun y=>PV.bl (y.bars i)) ys .no fun y hy=> ?_
     exact yY D y (h y hy) n i hn
    have ha:=any_map (fun y:Sy=>y.bars i) ys
    have e2:d2 gL (dC (.int 1)) (ag 2) ([.v .(I),.v (.int b),.v (.int (i:Int))]:aX)= .ok (.int (1*2 ^ i)):=by
     show(if 0<=(i:Int)/\(i:Int)<=1000000/\(1:Int).natAbs<2 ^ 64 then Rx.ok (PV.int (1*2 ^ ((i:Int)).toNat)) else .bad)=_
     rw[if_pos ⟨by omega,by omega,by decide⟩,Int.toNat_natCast]
    have et:aU (aj yz (ae (aG (dComp ["saying"] [("setting",2)] (aE (ag 0)) (aD 0) bP (aO iX (gF (n+1)) (af 0) (ae (af 1) ah)))) ah)) [.v .(I),.v (.int b),.v (.int (i:Int))]= .ok (ys.any fun y=>y.bars i):=by
     simp only[fV,dR,bZ,cP,hc,aq,gc,dq,ha]
    have body:mE (gF (n+1)) [.v .(I),.v (.int b),.v (.int (i:Int))]= .nx [.v .(I),.v (.int (if (ys.any fun y=>y.bars i)=true then b-1*2 ^ i else b)),.v (.int (i:Int))]:=by
     unfold mE
     rw[cZ,et]
     cases (ys.any fun y=>y.bars i)
     ·rfl
     ·show((d2 gL (dC (.int 1)) (ag 2) [.v .(I),.v (.int b),.v (.int (i:Int))]).st _)=_
      rw[e2];rfl
    have eg:aD 2 (PV.int (i:Int)) [.v .(I),.v (.int b),s2]= .ok [.v .(I),.v (.int b),.v (.int (i:Int))]:=rfl
    rcases ih (if (ys.any fun y=>y.bars i)=true then b-1*2 ^ i else b) (.v (.int (i:Int)))with q|⟨j,hj,h16'⟩
    ·left
     rw[List.map_cons,bS,eg,br,body]
     exact q
    ·exact .inr ⟨j,List.mem_cons_of_mem _ hj,h16'⟩
 rcases lp (List.range 16) 65535 .no with q|⟨i,hi,h16⟩
 ·rw[kq]at q
  have eu:(65535-((maskN (fun i=>ys.any fun y=>y.bars i) 16:Nat):Int))=(unb ys:Nat):=by
   have:=iP (fun i=>ys.any fun y=>y.bars i) 16
   have e2:(2:Nat) ^ 16=65536:=rfl
   unfold unb
   omega
  rw[eu]at q
  unfold sE
  exact q
 ·have:=List.mem_range.mp hi;omega
def K5:List Key:=[.inr "P",.inr "Q",.inr "R",.inr "S",.inr "T"]
def Ci(f:Str->PV):PV:= .dic K5 (wV.map f)
theorem FW(f:Str->PV){e:Str}(h:cy e):lb (Ci f) (.str e)= .ok (f e):=by
 rcases h with rfl|rfl|rfl|rfl|rfl <;> rfl
def pJ(g:Nat->Nat):PV:= .lst ((List.range 16).map fun(i:Nat)=>PV.int ((g i:Nat):Int))
theorem qU(g:Nat->Nat){s:Nat}(h:s<16):fIx (pJ g) .(R)= .ok (.int ((g s:Nat):Int)):=by
 show(match iL ((List.range 16).map fun(i:Nat)=>PV.int ((g i:Nat):Int)) (s:Int)with|some w=>Rx.ok w|none=> .bad)=_
 rw[eJ (v:=PV.int ((g s:Nat):Int)) (by rw[List.getElem?_map,List.getElem?_range h];rfl)]
theorem yZ{i:Nat}{dk dv:DP}{ps:aX}{ks:List Key}{xs:List PV}{w:PV}{e:Str}(h1:dv ps= .ok w)(h2:dk ps= .ok (.str e))(h3:ps[i]? =some (.own (.dic ks xs)))(hz:ks.length<sizeLine) :
  jX i dk dv ps= .nx (ps.set i (.own (.dic (dU ks (.inr e)) (dE ks xs (.inr e) w)))):=by
 unfold jX
 rw[h1,br,h2,br,h3]
 exact if_pos hz
theorem FX{body:DS}{emb:Sl->Sl->aX}{i:Nat}{F:Str->PV}(hg:∀s1 s2 w,aD i w (emb s1 s2)= .ok (emb s1 (.v w)))
  (hb:∀ks xs e,cy e->ks.length<=5->body (emb (.own (.dic ks xs)) (.v (.str e)))= .nx (emb (.own (.dic (dU ks (.inr e)) (dE ks xs (.inr e) (F e)))) (.v (.str e)))) (s2:Sl) :
  bS (aD i) body (wV.map PV.str) (emb (.own (.dic [] [])) s2)= .nx (emb (.own (.dic K5 (wV.map F))) (.v (.str "T"))):=by
 show bS (aD i) body [.str "P",.str "Q",.str "R",.str "S",.str "T"] _=_
 have b0:=hb [] [] "P" (.inl rfl) (by decide)
 have b1:=hb [.inr "P"] [F "P"] "Q" (.inr (.inl rfl)) (by decide)
 have b2:=hb [.inr "P",.inr "Q"] [F "P",F "Q"] "R" (.inr (.inr (.inl rfl))) (by decide)
 have b3:=hb [.inr "P",.inr "Q",.inr "R"] [F "P",F "Q",F "R"] "S" (.inr (.inr (.inr (.inl rfl)))) (by decide)
 have b4:=hb [.inr "P",.inr "Q",.inr "R",.inr "S"] [F "P",F "Q",F "R",F "S"] "T" (.inr (.inr (.inr (.inr rfl)))) (by decide)
 rw[bS,hg,br,b0]
 show bS (aD i) body [.str "Q",.str "R",.str "S",.str "T"] (emb (.own (.dic [.inr "P"] [F "P"])) (.v (.str "P")))=_
 rw[bS,hg,br,b1]
 show bS (aD i) body [.str "R",.str "S",.str "T"] (emb (.own (.dic [.inr "P",.inr "Q"] [F "P",F "Q"])) (.v (.str "Q")))=_
 rw[bS,hg,br,b2]
 show bS (aD i) body [.str "S",.str "T"] (emb (.own (.dic [.inr "P",.inr "Q",.inr "R"] [F "P",F "Q",F "R"])) (.v (.str "R")))=_
 rw[bS,hg,br,b3]
 show bS (aD i) body [.str "T"] (emb (.own (.dic [.inr "P",.inr "Q",.inr "R",.inr "S"] [F "P",F "Q",F "R",F "S"])) (.v (.str "S")))=_
 rw[bS,hg,br,b4]
 rfl
theorem pK(D:Nat)(ys:List Sy)(h:∀y∈ys,y.ok D)(n:Nat)(hn:D<=n):gF (n+4) 3 [.lst .(J)]= .ok (Ci fun e=>pJ (letm ys e)):=by
 rw[g_z3,aB rfl]
 show fin (sF (gF (n+3)) [.v .(I),.no,.no])=_
 have lp:=FX (body:=mF (gF (n+3))) (emb:=fun s1 s2=>[.v .(I),s1,s2]) (i:=2) (F:=fun e=>pJ (letm ys e)) (fun _ _ _=>rfl) (fun ks xs e he hk=>by
  have hc:dComp ["setting"] [("sayings",0),("deed",2)] .(Ai) (aD 0) bP (aj (gF (n+3) 4) (ae (af 1) (ae (af 2) (ae (af 0) ah)))) [.v .(I),.own (.dic ks xs),.v (.str e)]= .ok ((List.range 16).map fun(i:Nat)=>PV.int ((letm ys e i:Nat):Int)):=by
   have ei:bA (ae (dC (.int 16)) ah) ([.v .(I),.own (.dic ks xs),.v (.str e)]:aX)= .ok ((List.range 16).map fun(i:Nat)=>PV.int (i:Int)):=rfl
   unfold dComp
   rw[ei,aq,if_pos (by rw[List.length_map,List.length_range];decide)]
   refine bE (ps0:=[.v .(I),.v (.str e)]) .(W) (fun(i:Nat)=>PV.int ((letm ys e i:Nat):Int)) (List.range 16) .no fun i hi=> ?_
   have e1:=mK D ys h n e i (List.mem_range.mp hi) hn
   simp[e1]
  have hz:ks.length<sizeLine:=by show ks.length<16777216;omega
  unfold mF
  have ev:aG (dComp ["setting"] [("sayings",0),("deed",2)] .(Ai) (aD 0) bP (aj (gF (n+3) 4) (ae (af 1) (ae (af 2) (ae (af 0) ah))))) [.v .(I),.own (.dic ks xs),.v (.str e)]= .ok (pJ (letm ys e)):=by
   rw[cP,hc];rfl
  exact yZ ev rfl rfl hz) .no
 unfold sF
 rw[aF]
 show fin ((bS (aD 2) (mF (gF (n+3))) (wV.map PV.str) [.v .(I),.own (.dic [] []),.no]).next (im (kC 1)))=_
 rw[lp]
 rfl
end M62
end
noncomputable section
namespace M62
open PySem L2 DN
theorem qV{α :Type}(p: α ->Bool)(g: α ->Int):∀(l:List α) (b:Int),l.foldl (fun b i=>if p i=true then b+g i else b) b=b+((l.filter p).map g).sum
 |[],b=>by simp
 |a::l,b=>by
  rw[List.foldl_cons,qV p g l]
  cases h:p a
  ·simp[h]
  ·simp[h,Int.add_assoc]
theorem lr(f:Nat->Bool):∀n,(((List.range n).filter f).map (fun(i:Nat)=>(1:Int)*2 ^ i)).sum=(maskN f n:Nat)
 |0=>rfl
 |n+1=>by
  rw[List.range_succ,List.filter_append,List.map_append,List.sum_append,lr f n]
  show _=(((2 ^ n*(f n).toNat+maskN f n:Nat)):Int)
  cases h:f n
  ·simp[h]
  ·simp[h,Int.add_comm]
theorem x4(L:Str->Nat->Nat)(m:Nat):(bt m).foldl (fun(b:Int) (i:Nat)=>if ot L m i=true then b+1*2 ^ i else b) 0=((stp L m:Nat):Int):=by
 rw[qV]
 unfold bt stp
 rw[List.filter_filter,<-lr,Int.zero_add]
 congr 2
 apply List.filter_congr
 intro i _
 rw[Bool.and_comm]
theorem z5(x:Nat):(((x:Nat):Int) == 0)=(x == 0):=by
 rw[Bool.eq_iff_iff,beq_iff_eq,beq_iff_eq]
 omega
abbrev dN(L:Str->Nat->Nat):PV:=Ci fun e=>pJ (L e)
theorem z6(L:Str->Nat->Nat)(m s:Nat)(hs:s<16)(s2:Sl):dComp ["deed"] [("mask",0),("setting",3),("let_by",1)] (fH (dC (.tup fO))) (aD 0) bP (d2 iE (d2 dj (d2 fIx (d2 lb (ag 3) (ag 0)) (ag 2)) (ag 1)) (dC (.int 0))) [.v .(Ab),.v (dN L),s2,.v .(R)]= .ok (wV.map fun e=>PV.bl (!(L e s &&& m == 0))):=by
 have ei:fH (dC (.tup fO)) [.v .(Ab),.v (dN L),s2,.v .(R)]= .ok (wV.map PV.str):=rfl
 unfold dComp
 rw[ei,aq,if_pos (by show 5<=sizeLine;decide)]
 refine bE (ps0:=[.v .(Ab),.v .(R),.v (dN L)]) PV.str (fun e=>PV.bl (!(L e s &&& m == 0))) wV .no fun e he=> ?_
 have e1:=FW (fun e=>pJ (L e)) (Jz.mp he)
 have e2:=qU (L e) hs
 have e3:=bW (L e s) m
 have e4:=z5 (L e s &&& m)
 simp[e1,e2,e3,e4]
theorem jg(n:Nat)(L:Str->Nat->Nat)(m:Nat):∀(l:List Nat) (b:Int) (s3:Sl),(∀i∈l,i<16)->∃s3',bS (aD 3) (mG (gF n)) (l.map fun(i:Nat)=>PV.int (i:Int)) [.v .(Ab),.v (dN L),.v (.int b),s3]= .nx [.v .(Ab),.v (dN L),.v (.int (l.foldl (fun(b:Int) (i:Nat)=>if ot L m i=true then b+1*2 ^ i else b) b)),s3']
 |[],b,s3,_=>⟨s3,rfl⟩
 |i::l,b,s3,h=>by
  have hi:=h i List.mem_cons_self
  obtain⟨s3',ih⟩:=jg n L m l (if ot L m i=true then b+1*2 ^ i else b) (.v (.int (i:Int))) fun j hj=>h j (List.mem_cons_of_mem _ hj)
  refine⟨s3',?_⟩
  have hc:=z6 L m i hi (.v (.int b))
  have ha:=all_map (fun e:Str=> !(L e i &&& m == 0)) wV
  have e2:d2 gL (dC (.int 1)) (ag 3) ([.v .(Ab),.v (dN L),.v (.int b),.v (.int (i:Int))]:aX)= .ok (.int (1*2 ^ i)):=by
   show(if 0<=(i:Int)/\(i:Int)<=1000000/\(1:Int).natAbs<2 ^ 64 then Rx.ok (PV.int (1*2 ^ ((i:Int)).toNat)) else .bad)=_
   rw[if_pos ⟨by omega,by omega,by decide⟩,Int.toNat_natCast]
  have et:aU (aj sj (ae (aG (dComp ["deed"] [("mask",0),("setting",3),("let_by",1)] (fH (dC (.tup fO))) (aD 0) bP (d2 iE (d2 dj (d2 fIx (d2 lb (ag 3) (ag 0)) (ag 2)) (ag 1)) (dC (.int 0))))) ah)) [.v .(Ab),.v (dN L),.v (.int b),.v (.int (i:Int))]= .ok (ot L m i):=by
   simp only[fV,dR,bZ,cP,hc,aq,gc,dq,ha]
   rfl
  have body:mG (gF n) [.v .(Ab),.v (dN L),.v (.int b),.v (.int (i:Int))]= .nx [.v .(Ab),.v (dN L),.v (.int (if ot L m i=true then b+1*2 ^ i else b)),.v (.int (i:Int))]:=by
   unfold mG
   rw[cZ,et]
   cases ot L m i
   ·rfl
   ·show((d2 gL (dC (.int 1)) (ag 3) [.v .(Ab),.v (dN L),.v (.int b),.v (.int (i:Int))]).st _)=_
    rw[e2];rfl
  have eg:aD 3 (PV.int (i:Int)) [.v .(Ab),.v (dN L),.v (.int b),s3]= .ok [.v .(Ab),.v (dN L),.v (.int b),.v (.int (i:Int))]:=rfl
  rw[List.map_cons,bS,eg,br,body]
  exact ih
theorem ox(n:Nat)(L:Str->Nat->Nat)(m:Nat)(s2 s3:Sl):∃s3',ka (gF (n+2)) [.v .(Ab),.v (dN L),s2,s3]=if stp L m=m then .ret .(Ab) else .nx [.v (.int (stp L m:Nat)),.v (dN L),.v (.int (stp L m:Nat)),s3']:=by
 obtain⟨s3',e1⟩:=jg (n+2) L m (bt m) 0 s3 fun i hi=>(aW.mp hi).1
 rw[x4]at e1
 refine⟨s3',?_⟩
 have es:=dz n m
 have ei:aE (aj (gF (n+2) 1) (ae (af 0) ah)) [.v .(Ab),.v (dN L),.v (.int 0),s3]= .ok ((bt m).map fun(i:Nat)=>PV.int (i:Int)):=by
  unfold aE
  simp[es]
 unfold ka
 rw[aF]
 show(ay (sFor _ _ _) _ [.v .(Ab),.v (dN L),.v (.int 0),s3])=_
 rw[aF,nV,ei,br,e1,ar,aF]
 by_cases hm:stp L m=m
 ·have hb:(((stp L m:Nat):Int) == (m:Int))=true:=by simp[hm]
  rw[if_pos hm,hm]
  simp
 ·have hb:(((stp L m:Nat):Int) == (m:Int))=false:=by simp;omega
  rw[if_neg hm]
  simp[hb]
theorem ls(n:Nat)(L:Str->Nat->Nat):∀(k j m:Nat) (s2 s3:Sl),m<k->m<65536->cu (fW (aU (dC (.bl true)))) (ka (gF (n+2))) (k+j) [.v .(Ab),.v (dN L),s2,s3]=some (.ret (.int (lastF L k m:Nat)))
 |0,j,m,s2,s3,h,_=>by omega
 |k+1,j,m,s2,s3,h,h2=>by
  obtain⟨s3',e1⟩:=ox n L m s2 s3
  have tt:∀ps,fW (aU (dC (.bl true))) ps= .ok (true,ps):=fun _=>rfl
  rw[show k+1+j=(k+j)+1 by omega,cu,tt]
  simp only[e1]
  unfold lastF
  by_cases hm:stp L m=m
  ·rw[if_pos hm,if_pos hm]
  ·rw[if_neg hm,if_neg hm]
   have hle:=Cf (kl L m) (yW L m)
   exact ls n L k j (stp L m) _ _ (by omega) (kl L m)
theorem pL(n:Nat)(L:Str->Nat->Nat)(m:Nat)(hm:m<65536):gF (n+3) 5 [.int (m:Int),dN L]= .ok (.int (gdF L m:Nat)):=by
 rw[g_z5,aB rfl]
 show fin (sH (gF (n+2)) [.v .(Ab),.v (dN L),.no,.no])=_
 have e:=ls n L 65536 34464 m .no .no hm hm
 have e:cu (fW (aU (dC (.bl true)))) (ka (gF (n+2))) 100000 [.v .(Ab),.v (dN L),.no,.no]=some (.ret (.int (lastF L 65536 m:Nat))):=e
 unfold sH
 rw[iu,e]
 rfl
def bB(ys:List Sy):PV:= .obj 14 [.int (unb ys:Nat),dN (letm ys),.int (gdS ys:Nat)]
theorem kr(D:Nat)(ys:List Sy)(h:∀y∈ys,y.ok D)(hl:ys.length<=1000)(n:Nat)(hn:D<=n):gF (n+5) 52 [.lst .(J)]= .ok (bB ys):=by
 have e1:=ou D ys h hl (n+2) (by omega)
 have e2:=pK D ys h n hn
 have e3:=pL (n+1) (letm ys) (unb ys) (kn ys)
 have e0:on (gF (n+4)) [.ini 14 [],.v .(I)]= .nx [.ini 14 [.int (unb ys:Nat),dN (letm ys),.int (gdS ys:Nat)],.v .(I)]:=by
  unfold on
  have f1:ba fM (.obj 14 [.int (unb ys:Nat),dN (letm ys)])= .ok (.int (unb ys:Nat)):=rfl
  have f2:ba fg (.obj 14 [.int (unb ys:Nat),dN (letm ys)])= .ok (dN (letm ys)):=rfl
  simp[e1,e2,f1,f2,e3,gdS]
 have e4:jp 14 3 [false] 2 (on (gF (n+4))) [.lst .(J)]=(match on (gF (n+4)) [.ini 14 [],.v .(I)]with | .nx ps=>(match ps[(0:Nat)]? with|some (.ini k' fs)=>if k'=14/\fs.length=3 then .ok (.obj 14 fs) else .bad|_=> .bad) | .exc c=> .exc c|_=> .bad):=rfl
 rw[g_zQ,e4,e0]
 rfl
theorem mM(ys:List Sy)(n:Nat):bp gR (gF (n+1)) (bB ys) []= .ok (.int (gdS ys:Nat)):=rfl
theorem mN(ys:List Sy)(n:Nat){e:Str}(he:cy e){s:Nat}(hs:s<16):bp cV (gF (n+1)) (bB ys) [.str e,.int (s:Int)]= .ok (.int ((letm ys e s &&& gdS ys:Nat):Int)):=by
 have e0:bp cV (gF (n+1)) (bB ys) [.str e,.int (s:Int)]=aH [false,false,false] 3 (tj (gF n)) [bB ys,.str e,.int (s:Int)]:=rfl
 rw[e0,aB rfl]
 show fin (tj (gF n) [.v (bB ys),.v (.str e),.v .(R)])=_
 have f1:ba fg (bB ys)= .ok (dN (letm ys)):=rfl
 have f2:ba ff (bB ys)= .ok (.int (gdS ys:Nat)):=rfl
 have e1:=FW (fun e=>pJ (letm ys e)) he
 have e2:=qU (letm ys e) hs
 have e3:=bW (letm ys e s) (gdS ys)
 unfold tj
 simp[f1,f2,e1,e2,e3]
end M62
end
noncomputable section
namespace M62
open PySem L2 DN
abbrev Rw:=Int->Str×Int
def mO(d:Str×Int):PV:= .tup [.str d.1,.int d.2]
def rpv(f:Rw):PV:= .lst ((List.range 16).map fun(i:Nat)=>mO (f (i:Int)))
def eV(f l:Rw):Rw:=fun s=>if (f s).1="done" then l s else f s
def ldoor(b:Bool)(d:Str×Int):Str×Int:=if b=true then(if d.1="done" then("hung",0) else d) else("done",0)
def Dr:St->Int->Rw×List Rw
 |.skip,_=>(fun _=>("done",0),[])
 |.stop,_=>(fun _=>("stopped",0),[])
 |.deed c,a=>(fun _=>(c,a+1),[fun _=>("done",0)])
 |.row h t,a=>(eV (Dr h a).1 (Dr t (a+(h.ders.length:Int))).1,(Dr h a).2.map (fun f=>eV f (Dr t (a+(h.ders.length:Int))).1)++(Dr t (a+(h.ders.length:Int))).2)
 |.choice g y n,a=>(fun s=>if g.at s=true then(Dr y a).1 s else(Dr n (a+(y.ders.length:Int))).1 s,(Dr y a).2++(Dr n (a+(y.ders.length:Int))).2)
 |.loop g b,a=>(fun s=>ldoor (g.at s) ((Dr b a).1 s),(Dr b a).2.map fun f=>eV f fun s=>ldoor (g.at s) ((Dr b a).1 s))
theorem bO:∀(t:St) (a:Int),(Dr t a).2.length=t.ders.length
 |.skip,_=>rfl
 |.stop,_=>rfl
 |.deed c,a=>rfl
 |.row h t,a=>by simp[Dr,St.ders,bO h,bO t]
 |.choice g y n,a=>by simp[Dr,St.ders,bO y,bO n]
 |.loop g b,a=>by simp[Dr,St.ders,bO b]
theorem Cj(f:Rw){s:Int}(h0:0<=s)(h1:s<16):fIx (rpv f) (.int s)= .ok (mO (f s)):=by
 obtain⟨i,rfl⟩:∃i:Nat,s=(i:Int):=⟨s.toNat,by omega⟩
 have hi:i<16:=by omega
 show(match iL ((List.range 16).map fun(i:Nat)=>mO (f (i:Int))) (i:Int)with|some w=>Rx.ok w|none=> .bad)=_
 rw[eJ (v:=mO (f (i:Int))) (by rw[List.getElem?_map,List.getElem?_range hi];rfl)]
theorem Ck(d:Str×Int):fIx (mO d) (.int 0)= .ok (.str d.1):=rfl
theorem qW(ps:aX):bA (ae (dC (.int 16)) ah) ps= .ok ((List.range 16).map fun(i:Nat)=>PV.int (0+(i:Int))):=rfl
theorem qX:((List.range 16).map fun(i:Nat)=>PV.int (0+(i:Int))).length<=sizeLine:=by
 rw[List.length_map,List.length_range];decide
theorem qY(n:Nat)(f l:Rw):gF (n+1) 14 [rpv f,rpv l]= .ok (rpv (eV f l)):=by
 rw[g_ze,aB rfl]
 show fin (sO (gF n) [.v (rpv f),.v (rpv l)])=_
 have hc:dComp ["setting"] [("later",1),("doors",0)] .(Ai) (aD 0) bP (p9 (aU (d2 cD (d2 fIx (d2 fIx (ag 2) (ag 0)) (dC (.int 0))) (dC (.str "done")))) (d2 fIx (ag 1) (ag 0)) (d2 fIx (ag 2) (ag 0))) [.v (rpv f),.v (rpv l)]= .ok ((List.range 16).map fun(i:Nat)=>mO (eV f l (i:Int))):=by
  unfold dComp
  rw[qW,aq,if_pos qX]
  refine bE (ps0:=[.v (rpv l),.v (rpv f)]) (fun(i:Nat)=>PV.int (0+(i:Int))) (fun(i:Nat)=>mO (eV f l (i:Int))) (List.range 16) .no fun i hi=> ?_
  have hi:=List.mem_range.mp hi
  have e1:=Cj f (s:=(i:Int)) (by omega) (by omega)
  have e2:=Cj l (s:=(i:Int)) (by omega) (by omega)
  by_cases hd:(f (i:Int)).1="done"
  ·have hb:((f (i:Int)).1 == "done")=true:=by simpa using hd
   simp[e1,e2,Ck,hb,eV,hd]
  ·have hb:((f (i:Int)).1 == "done")=false:=by simpa using hd
   simp[e1,e2,Ck,hb,eV,hd]
 unfold sO
 simp only[eF,cP,hc,aq,br,fK]
 rfl
theorem x5(n:Nat)(b:Bool)(d:Str×Int):gF (n+1) 13 [.bl b,mO d]= .ok (mO (ldoor b d)):=by
 rw[g_zd,aB rfl]
 show fin (sN (gF n) [.v (.bl b),.v (mO d)])=_
 unfold sN ldoor
 cases b
 ·simp[mO]
 ·by_cases hd:d.1="done"
  ·have hb:(d.1 == "done")=true:=by simpa using hd
   simp[Ck,hb]
   rw[if_pos hd]
   rfl
  ·have hb:(d.1 == "done")=false:=by simpa using hd
   simp[Ck,hb,hd]
theorem iA(x:PV)(xs:List PV):cutP (x::xs) (some 1) none=xs:=by
 have h1:HT.sIx (x::xs).length 0 (some 1)=1:=by
  unfold HT.sIx
  simp
 have h2:HT.sIx (x::xs).length (x::xs).length none=(x::xs).length:=rfl
 unfold cutP
 rw[h1,h2]
 simp
theorem oz(x:PV)(xs:List PV):fIx (.lst (x::xs)) (.int 0)= .ok x:=by
 have:iL (x::xs) ((0:Nat):Int)=some x:=eJ rfl
 show(match iL (x::xs) ((0:Nat):Int)with|some w=>Rx.ok w|none=> .bad)=_
 rw[this]
def aY(d:Rw×List Rw):PV:= .lst (rpv d.1::d.2.map rpv)
theorem ft(d:Rw×List Rw)(h:d.2.length<=100000):bR [aY d]= .ok (.int ((d.2.length:Int)+1)):=by
 show Rx.ok (PV.int (((rpv d.1::d.2.map rpv).length:Nat):Int))=_
 rw[List.length_cons,List.length_map]
 rfl
theorem fu:∀(t:St) (n:Nat) (a:Int),t.ok->2*t.depth+2<=n->t.ders.length<=1000->gF n 8 [t.pv,.int a]= .ok (aY (Dr t a))
 |.skip,n+2,a,_,_,_=>rfl
 |.stop,n+2,a,_,_,_=>rfl
 |.deed c,n+2,a,_,_,_=>rfl
 |.row h t,n+2,a,ho,hd,hl=>by
  have hd:2*(max h.depth t.depth+1)+2<=n+2:=hd
  have hl:(h.ders.map (fun l=>St.row l t)++t.ders).length<=1000:=hl
  rw[List.length_append,List.length_map]at hl
  obtain⟨k,rfl⟩:∃k,n=k+1:=⟨n-1,by omega⟩
  have i1:=fu h (k+1) a ho.1 (by omega) (by omega)
  have i2:=fu t (k+1) (a+(h.ders.length:Int)) ho.2 (by omega) (by omega)
  have l1:=bO h a
  have l2:=bO t (a+(h.ders.length:Int))
  have lh:=ft (Dr h a) (by omega)
  rw[l1]at lh
  generalize eh:Dr h a=dh at i1 l1 lh
  generalize et:Dr t (a+(h.ders.length:Int))=dt at i2 l2
  have hg:∀ps:aX,ps[2]? =some (.v (aY dh))->ps[3]? =some (.v (aY dt))->dComp ["doors"] [("tail",3)] (aE (ag 2)) (aD 0) bP (aj (gF (k+1) 14) (ae (af 0) (ae (d2 fIx (ag 1) (dC (.int 0))) ah))) ps= .ok ((dh.1::dh.2).map fun f=>rpv (eV f dt.1)):=fun ps p2 p3=>by
   have ei:aE (ag 2) ps= .ok ((dh.1::dh.2).map rpv):=by
    unfold aE ag
    rw[p2];rfl
   have ec:pc ["doors"] [("tail",3)] ps=[.no,.v (aY dt)]:=by
    show[Sl.no,((ps[3]?).getD Sl.no).out]=_
    rw[p3];rfl
   unfold dComp
   rw[ei,aq,if_pos (by rw[List.length_map,List.length_cons];show dh.2.length+1<=16777216;omega),ec]
   exact bE (ps0:=[.v (aY dt)]) rpv (fun f=>rpv (eV f dt.1)) (dh.1::dh.2) .no fun f hf=>by
    have e3:fIx (aY dt) (.int 0)= .ok (rpv dt.1):=oz _ _
    simp[qY k f dt.1,e3]
  have er:gF (k+2) 10 [(St.row h t).pv,.int a]= .ok (aY (Dr (.row h t) a)):=by
   rw[g_za,aB rfl]
   show fin (sK (gF (k+1)) [.v (.obj 11 [h.pv,t.pv]),.v (.int a),.no,.no])=_
   have f1:ba my (.obj 11 [h.pv,t.pv])= .ok h.pv:=rfl
   have f2:ba mC (.obj 11 [h.pv,t.pv])= .ok t.pv:=rfl
   have ea:a+((h.ders.length:Int)+1)-1=a+(h.ders.length:Int):=by omega
   have hg:=hg [.v (.obj 11 [h.pv,t.pv]),.v (.int a),.v (aY dh),.v (aY dt)] rfl rfl
   have ec:∀x xs,cT (ag 3) (g9 (dC (.int 1))) jn [.v x,.v xs,.v (aY dh),.v (aY dt)]= .ok (dt.2.map rpv):=fun x xs=>congrArg Rx.ok (iA _ _)
   have hz:dh.2.length+1+dt.2.length<=sizeLine:=by show _<=16777216;omega
   have hcat:dL (aG (dComp ["doors"] [("tail",3)] (aE (ag 2)) (aD 0) bP (aj (gF (k+1) 14) (ae (af 0) (ae (d2 fIx (ag 1) (dC (.int 0))) ah))))) (aG (cT (ag 3) (g9 (dC (.int 1))) jn)) [.v (.obj 11 [h.pv,t.pv]),.v (.int a),.v (aY dh),.v (aY dt)]= .ok (((dh.1::dh.2).map fun f=>rpv (eV f dt.1))++dt.2.map rpv):=by
    rw[m9]
    unfold aG
    rw[hg,ec]
    simp only[aq,List.length_map,List.length_cons]
    rw[if_pos hz]
   unfold sK
   simp only[aF,gI,dR,bZ,vd,ql,List.getElem?_cons_zero,List.getElem?_cons_succ,aq,f1,f2,gc,dq,i1,br,List.set_cons_succ,List.set_cons_zero,ar,gp,l8,B9,cq,lh,zC,ea,i2,eF,cP,hcat,fK]
   unfold Dr aY
   simp[eh,et,List.map_map,Function.comp_def]
  have e0:gF (k+3) 8 [(St.row h t).pv,.int a]=gF (k+2) 10 [(St.row h t).pv,.int a]:=by
   rw[g_z8,aB rfl]
   show fin (kH (gF (k+2)) [.v (.obj 11 [h.pv,t.pv]),.v (.int a)])=_
   have er:gF (k+2) 10 [.obj 11 [h.pv,t.pv],.int a]= .ok (aY (Dr (.row h t) a)):=er
   unfold kH
   have es:St.pv (.row h t)= .obj 11 [h.pv,t.pv]:=rfl
   simp[er,es]
  exact e0.trans er
 |.choice g y n',n+2,a,ho,hd,hl=>by
  have hd:2*(max g.depth (max y.depth n'.depth)+1)+2<=n+2:=hd
  have hl:(y.ders++n'.ders).length<=1000:=hl
  rw[List.length_append]at hl
  obtain⟨k,rfl⟩:∃k,n=k+1:=⟨n-1,by omega⟩
  have i1:=fu y (k+1) a ho.2.1 (by omega) (by omega)
  have i2:=fu n' (k+1) (a+(y.ders.length:Int)) ho.2.2 (by omega) (by omega)
  have l1:=bO y a
  have l2:=bO n' (a+(y.ders.length:Int))
  have lh:=ft (Dr y a) (by omega)
  rw[l1]at lh
  have er:gF (k+2) 11 [(St.choice g y n').pv,.int a]= .ok (aY (Dr (.choice g y n') a)):=by
   have eD:Dr (.choice g y n') a=(fun s=>if g.at s=true then(Dr y a).1 s else(Dr n' (a+(y.ders.length:Int))).1 s,(Dr y a).2++(Dr n' (a+(y.ders.length:Int))).2):=rfl
   rw[eD]
   generalize eh:Dr y a=dh at i1 l1 lh
   generalize et:Dr n' (a+(y.ders.length:Int))=dt at i2 l2
   rw[g_zb,aB rfl]
   show fin (sL (gF (k+1)) [.v (.obj 12 [g.pv,y.pv,n'.pv]),.v (.int a),.no,.no,.no])=_
   have f0:ba cI (.obj 12 [g.pv,y.pv,n'.pv])= .ok g.pv:=rfl
   have f1:ba qH (.obj 12 [g.pv,y.pv,n'.pv])= .ok y.pv:=rfl
   have f2:ba yP (.obj 12 [g.pv,y.pv,n'.pv])= .ok n'.pv:=rfl
   have ea:a+((y.ders.length:Int)+1)-1=a+(y.ders.length:Int):=by omega
   have hg:dComp ["setting"] [("yes",2),("no",3),("step",0)] .(Ai) (aD 0) bP (p9 (aU (aO aK (gF (k+1)) (aZ cI (af 3)) (ae (af 0) ah))) (d2 fIx (d2 fIx (ag 1) (dC (.int 0))) (ag 0)) (d2 fIx (d2 fIx (ag 2) (dC (.int 0))) (ag 0))) [.v (.obj 12 [g.pv,y.pv,n'.pv]),.v (.int a),.v (aY dh),.v (aY dt),.no]= .ok ((List.range 16).map fun(i:Nat)=>mO (if g.at (i:Int)=true then dh.1 (i:Int) else dt.1 (i:Int))):=by
    unfold dComp
    rw[qW,aq,if_pos qX]
    refine bE (ps0:=[.v (aY dh),.v (aY dt),.v (.obj 12 [g.pv,y.pv,n'.pv])]) (fun(i:Nat)=>PV.int (0+(i:Int))) (fun(i:Nat)=>mO (if g.at (i:Int)=true then dh.1 (i:Int) else dt.1 (i:Int))) (List.range 16) .no fun i hi=> ?_
    have hi:=List.mem_range.mp hi
    have e1:=Cj dh.1 (s:=(i:Int)) (by omega) (by omega)
    have e2:=Cj dt.1 (s:=(i:Int)) (by omega) (by omega)
    have e3:fIx (aY dh) (.int 0)= .ok (rpv dh.1):=oz _ _
    have e4:fIx (aY dt) (.int 0)= .ok (rpv dt.1):=oz _ _
    have eg:=cg g (k+1) (i:Int) ho.1 (by omega)
    cases hgs:g.at (i:Int) <;> simp[e1,e2,e3,e4,f0,eg,hgs]
   have ec1:∀x xs z,cT (ag 2) (g9 (dC (.int 1))) jn [.v x,.v xs,.v (aY dh),.v (aY dt),z]= .ok (dh.2.map rpv):=fun x xs z=>congrArg Rx.ok (iA _ _)
   have ec2:∀x xs z,cT (ag 3) (g9 (dC (.int 1))) jn [.v x,.v xs,.v (aY dh),.v (aY dt),z]= .ok (dt.2.map rpv):=fun x xs z=>congrArg Rx.ok (iA _ _)
   have hz1:1+dh.2.length<=sizeLine:=by show _<=16777216;omega
   have hz2:1+dh.2.length+dt.2.length<=sizeLine:=by show _<=16777216;omega
   have hcat:∀x z,dL (aG (dL (aG (ae (af 4) ah)) (aG (cT (ag 2) (g9 (dC (.int 1))) jn)))) (aG (cT (ag 3) (g9 (dC (.int 1))) jn)) [.v x,.v (.int a),.v (aY dh),.v (aY dt),.v z]= .ok (z::(dh.2.map rpv++dt.2.map rpv)):=fun x z=>by
    rw[m9]
    have e1:dL (aG (ae (af 4) ah)) (aG (cT (ag 2) (g9 (dC (.int 1))) jn)) [.v x,.v (.int a),.v (aY dh),.v (aY dt),.v z]= .ok (z::dh.2.map rpv):=by
     rw[m9]
     unfold aG
     rw[ec1]
     have:ae (af 4) ah [.v x,.v (.int a),.v (aY dh),.v (aY dt),.v z]= .ok [z]:=rfl
     rw[this]
     simp only[aq,List.length_map,List.length_cons,List.length_nil]
     rw[if_pos (by omega)]
     rfl
    have e2:aG (dL (aG (ae (af 4) ah)) (aG (cT (ag 2) (g9 (dC (.int 1))) jn))) [.v x,.v (.int a),.v (aY dh),.v (aY dt),.v z]= .ok (.lst (z::dh.2.map rpv)):=by
     show(dL _ _ _).bind _=_
     rw[e1];rfl
    have e3:aG (cT (ag 3) (g9 (dC (.int 1))) jn) [.v x,.v (.int a),.v (aY dh),.v (aY dt),.v z]= .ok (.lst (dt.2.map rpv)):=by
     show(cT _ _ _ _).bind _=_
     rw[ec2];rfl
    rw[e2,e3]
    simp only[aq,List.length_map,List.length_cons]
    rw[if_pos (by omega)]
    rfl
   unfold sL
   simp only[aF,gI,dR,bZ,vd,ql,List.getElem?_cons_zero,List.getElem?_cons_succ,aq,f1,f2,gc,dq,i1,br,List.set_cons_succ,List.set_cons_zero,ar,gp,l8,B9,cq,lh,zC,ea,i2,eF,cP,hg,hcat,fK]
   unfold aY rpv
   simp
  have e0:gF (k+3) 8 [(St.choice g y n').pv,.int a]=gF (k+2) 11 [(St.choice g y n').pv,.int a]:=by
   rw[g_z8,aB rfl]
   show fin (kH (gF (k+2)) [.v (.obj 12 [g.pv,y.pv,n'.pv]),.v (.int a)])=_
   have er:gF (k+2) 11 [.obj 12 [g.pv,y.pv,n'.pv],.int a]= .ok (aY (Dr (.choice g y n') a)):=er
   unfold kH
   have es:St.pv (.choice g y n')= .obj 12 [g.pv,y.pv,n'.pv]:=rfl
   simp[er,es]
  exact e0.trans er
 |.loop g b,n+2,a,ho,hd,hl=>by
  have hd:2*(max g.depth b.depth+1)+2<=n+2:=hd
  have hl:(b.ders.map (fun l=>St.row l (.loop g b))).length<=1000:=hl
  rw[List.length_map]at hl
  obtain⟨k,rfl⟩:∃k,n=k+1:=⟨n-1,by omega⟩
  have i1:=fu b (k+1) a ho.2 (by omega) (by omega)
  have l1:=bO b a
  have er:gF (k+2) 12 [(St.loop g b).pv,.int a]= .ok (aY (Dr (.loop g b) a)):=by
   have eD:Dr (.loop g b) a=(fun s=>ldoor (g.at s) ((Dr b a).1 s),(Dr b a).2.map fun f=>eV f fun s=>ldoor (g.at s) ((Dr b a).1 s)):=rfl
   rw[eD]
   generalize eh:Dr b a=dh at i1 l1
   rw[g_zc,aB rfl]
   show fin (sM (gF (k+1)) [.v (.obj 13 [g.pv,b.pv]),.v (.int a),.no,.no])=_
   have f0:ba cI (.obj 13 [g.pv,b.pv])= .ok g.pv:=rfl
   have f1:ba mx (.obj 13 [g.pv,b.pv])= .ok b.pv:=rfl
   have hg:dComp ["setting"] [("body",2),("step",0)] .(Ai) (aD 0) bP (aj (gF (k+1) 13) (ae (aO aK (gF (k+1)) (aZ cI (af 2)) (ae (af 0) ah)) (ae (d2 fIx (d2 fIx (ag 1) (dC (.int 0))) (ag 0)) ah))) [.v (.obj 13 [g.pv,b.pv]),.v (.int a),.v (aY dh),.no]= .ok ((List.range 16).map fun(i:Nat)=>mO (ldoor (g.at (i:Int)) (dh.1 (i:Int)))):=by
    unfold dComp
    rw[qW,aq,if_pos qX]
    refine bE (ps0:=[.v (aY dh),.v (.obj 13 [g.pv,b.pv])]) (fun(i:Nat)=>PV.int (0+(i:Int))) (fun(i:Nat)=>mO (ldoor (g.at (i:Int)) (dh.1 (i:Int)))) (List.range 16) .no fun i hi=> ?_
    have hi:=List.mem_range.mp hi
    have e1:=Cj dh.1 (s:=(i:Int)) (by omega) (by omega)
    have e3:fIx (aY dh) (.int 0)= .ok (rpv dh.1):=oz _ _
    have eg:=cg g (k+1) (i:Int) ho.1 (by omega)
    simp[e1,e3,f0,eg,x5]
   generalize hB:(fun s=>ldoor (g.at s) (dh.1 s))=bg
   have hg:dComp ["setting"] [("body",2),("step",0)] .(Ai) (aD 0) bP (aj (gF (k+1) 13) (ae (aO aK (gF (k+1)) (aZ cI (af 2)) (ae (af 0) ah)) (ae (d2 fIx (d2 fIx (ag 1) (dC (.int 0))) (ag 0)) ah))) [.v (.obj 13 [g.pv,b.pv]),.v (.int a),.v (aY dh),.no]= .ok ((List.range 16).map fun(i:Nat)=>mO (bg (i:Int))):=by rw[<-hB];exact hg
   have hc2:dComp ["doors"] [("begin",3)] (aE (aG (cT (ag 2) (g9 (dC (.int 1))) jn))) (aD 0) bP (aj (gF (k+1) 14) (ae (af 0) (ae (af 1) ah))) [.v (.obj 13 [g.pv,b.pv]),.v (.int a),.v (aY dh),.v (rpv bg)]= .ok (dh.2.map fun f=>rpv (eV f bg)):=by
    have ei:aE (aG (cT (ag 2) (g9 (dC (.int 1))) jn)) [.v (.obj 13 [g.pv,b.pv]),.v (.int a),.v (aY dh),.v (rpv bg)]= .ok (dh.2.map rpv):=congrArg Rx.ok (iA _ _)
    unfold dComp
    rw[ei,aq,if_pos (by rw[List.length_map];show dh.2.length<=16777216;omega)]
    exact bE (ps0:=[.v (rpv bg)]) rpv (fun f=>rpv (eV f bg)) dh.2 .no fun f hf=>by
     simp[qY k f bg]
   have hcat:dL (aG (ae (af 3) ah)) (aG (dComp ["doors"] [("begin",3)] (aE (aG (cT (ag 2) (g9 (dC (.int 1))) jn))) (aD 0) bP (aj (gF (k+1) 14) (ae (af 0) (ae (af 1) ah))))) [.v (.obj 13 [g.pv,b.pv]),.v (.int a),.v (aY dh),.v (rpv bg)]= .ok (rpv bg::dh.2.map fun f=>rpv (eV f bg)):=by
    rw[m9]
    unfold aG
    unfold aG at hc2
    rw[hc2]
    have:ae (af 3) ah [.v (.obj 13 [g.pv,b.pv]),.v (.int a),.v (aY dh),.v (rpv bg)]= .ok [rpv bg]:=rfl
    rw[this]
    simp only[aq,List.length_map,List.length_cons,List.length_nil]
    rw[if_pos (by show _<=16777216;omega)]
    rfl
   have hcat:dL (aG (ae (af 3) ah)) (aG (dComp ["doors"] [("begin",3)] (aE (aG (cT (ag 2) (g9 (dC (.int 1))) jn))) (aD 0) bP (aj (gF (k+1) 14) (ae (af 0) (ae (af 1) ah))))) [.v (.obj 13 [g.pv,b.pv]),.v (.int a),.v (aY dh),.v (.lst ((List.range 16).map fun(i:Nat)=>mO (bg (i:Int))))]= .ok (rpv bg::dh.2.map fun f=>rpv (eV f bg)):=hcat
   unfold sM
   simp only[aF,gI,dR,bZ,vd,ql,List.getElem?_cons_zero,List.getElem?_cons_succ,aq,f1,gc,dq,i1,br,List.set_cons_succ,List.set_cons_zero,ar,gp,l8,B9,cq,eF,cP,hg,hcat,fK]
   unfold aY
   simp[List.map_map,Function.comp_def]
  have e0:gF (k+3) 8 [(St.loop g b).pv,.int a]=gF (k+2) 12 [(St.loop g b).pv,.int a]:=by
   rw[g_z8,aB rfl]
   show fin (kH (gF (k+2)) [.v (.obj 13 [g.pv,b.pv]),.v (.int a)])=_
   have er:gF (k+2) 12 [.obj 13 [g.pv,b.pv],.int a]= .ok (aY (Dr (.loop g b) a)):=er
   unfold kH
   have es:St.pv (.loop g b)= .obj 13 [g.pv,b.pv]:=rfl
   simp[er,es]
  exact e0.trans er
def Gd(t:St)(a:Int)(l:St)(s:Int)(d:Str×Int):Prop:=d.1=(l.first s).1/\(((l.first s).2=none/\d.2=0)\/ ∃(j:Nat) (l':St),d.2=a+1+(j:Int)/\t.ders[j]? =some l'/\(l.first s).2=some l')
theorem qZ{h t:St}{a:Int}{l:St}{s:Int}{f k:Rw}(g1:Gd h a l s (f s))(g2:Gd t (a+(h.ders.length:Int)) t s (k s)):Gd (.row h t) a (.row l t) s (eV f k s):=by
 obtain⟨e1,q1⟩:=g1
 obtain⟨e2,q2⟩:=g2
 unfold eV Gd
 have er:(St.row l t).first s=if (l.first s).1="done" then t.first s else((l.first s).1,(l.first s).2.map fun l=> .row l t):=rfl
 rw[er]
 by_cases hd:(l.first s).1="done"
 ·rw[if_pos (e1.trans hd)]
  refine⟨by rw[if_pos hd];exact e2,?_⟩
  rw[if_pos hd]
  rcases q2 with⟨z,y⟩|⟨j,l',y,m,z⟩
  ·exact .inl ⟨z,y⟩
  ·refine .inr ⟨h.ders.length+j,l',by rw[y];omega,?_,z⟩
   show(h.ders.map (fun l=>St.row l t)++t.ders)[h.ders.length+j]? =_
   rw[List.getElem?_append_right (by rw[List.length_map];omega),List.length_map,Nat.add_sub_cancel_left]
   exact m
 ·rw[if_neg (fun z=>hd (e1.symm.trans z))]
  refine⟨by rw[if_neg hd];exact e1,?_⟩
  rw[if_neg hd]
  rcases q1 with⟨z,y⟩|⟨j,l',y,m,z⟩
  ·exact .inl ⟨by rw[z];rfl,y⟩
  ·refine .inr ⟨j,.row l' t,y,?_,by rw[z];rfl⟩
   show(h.ders.map (fun l=>St.row l t)++t.ders)[j]? =_
   have hj:=(List.getElem?_eq_some_iff.mp m).1
   rw[List.getElem?_append_left (by rw[List.length_map];exact hj),List.getElem?_map,m]
   rfl
theorem gt:∀(t:St) (a:Int),(∀s,Gd t a t s ((Dr t a).1 s))/\ ∀(k:Nat) (f:Rw) (l:St),(Dr t a).2[k]? =some f->t.ders[k]? =some l->∀s,Gd t a l s (f s)
 |.skip,a=>⟨fun s=>⟨rfl,.inl ⟨rfl,rfl⟩⟩,fun k f l h=>by cases h⟩
 |.stop,a=>⟨fun s=>⟨rfl,.inl ⟨rfl,rfl⟩⟩,fun k f l h=>by cases h⟩
 |.deed c,a=>by
  refine⟨fun s=>⟨rfl,.inr ⟨0,.skip,by show a+1=a+1+((0:Nat):Int);omega,rfl,rfl⟩⟩,fun k f l h h' s=> ?_⟩
  cases k with
  |zero=>cases h;cases h';exact⟨rfl,.inl ⟨rfl,rfl⟩⟩
  |succ k=>cases h
 |.row h t,a=>by
  obtain⟨h1,h2⟩:=gt h a
  obtain⟨t1,t2⟩:=gt t (a+(h.ders.length:Int))
  refine⟨fun s=>qZ (h1 s) (t1 s),fun k f l e1 e2 s=> ?_⟩
  have e1:((Dr h a).2.map (fun f=>eV f (Dr t (a+(h.ders.length:Int))).1)++(Dr t (a+(h.ders.length:Int))).2)[k]? =some f:=e1
  have e2:(h.ders.map (fun l=>St.row l t)++t.ders)[k]? =some l:=e2
  have hl:=bO h a
  by_cases hk:k<h.ders.length
  ·rw[List.getElem?_append_left (by rw[List.length_map,hl];exact hk),List.getElem?_map]at e1
   rw[List.getElem?_append_left (by rw[List.length_map];exact hk),List.getElem?_map]at e2
   obtain⟨f',ef,rfl⟩:=Option.map_eq_some_iff.mp e1
   obtain⟨l',el,rfl⟩:=Option.map_eq_some_iff.mp e2
   exact qZ (h2 k f' l' ef el s) (t1 s)
  ·rw[List.getElem?_append_right (by rw[List.length_map,hl];omega),List.length_map,hl]at e1
   rw[List.getElem?_append_right (by rw[List.length_map];omega),List.length_map]at e2
   obtain⟨g1,g2⟩:=t2 _ f l e1 e2 s
   refine⟨g1,?_⟩
   rcases g2 with z|⟨j,l',y,m,z⟩
   ·exact .inl z
   ·refine .inr ⟨h.ders.length+j,l',by rw[y];omega,?_,z⟩
    show(h.ders.map (fun l=>St.row l t)++t.ders)[h.ders.length+j]? =_
    rw[List.getElem?_append_right (by rw[List.length_map];omega),List.length_map,Nat.add_sub_cancel_left]
    exact m
 |.choice g y n,a=>by
  obtain⟨h1,h2⟩:=gt y a
  obtain⟨t1,t2⟩:=gt n (a+(y.ders.length:Int))
  have up1:∀{l s d},Gd y a l s d->Gd (.choice g y n) a l s d:=fun {l s d} q=>⟨q.1,q.2.imp id fun⟨j,l',e,m,z⟩=>⟨j,l',e,by
   show(y.ders++n.ders)[j]? =_
   rw[List.getElem?_append_left (List.getElem?_eq_some_iff.mp m).1];exact m,z⟩⟩
  have up2:∀{l s d},Gd n (a+(y.ders.length:Int)) l s d->Gd (.choice g y n) a l s d:=fun {l s d} q=>⟨q.1,q.2.imp id fun⟨j,l',e,m,z⟩=>⟨y.ders.length+j,l',by rw[e];omega,by
   show(y.ders++n.ders)[y.ders.length+j]? =_
   rw[List.getElem?_append_right (by omega),Nat.add_sub_cancel_left];exact m,z⟩⟩
  refine⟨fun s=> ?_,fun k f l e1 e2 s=> ?_⟩
  ·have ef:(St.choice g y n).first s=if g.at s=true then y.first s else n.first s:=rfl
   show Gd (.choice g y n) a (.choice g y n) s (if g.at s=true then(Dr y a).1 s else(Dr n (a+(y.ders.length:Int))).1 s)
   unfold Gd
   rw[ef]
   by_cases hg:g.at s=true
   ·rw[if_pos hg,if_pos hg];exact up1 (h1 s)
   ·rw[if_neg hg,if_neg hg];exact up2 (t1 s)
  ·have e1:((Dr y a).2++(Dr n (a+(y.ders.length:Int))).2)[k]? =some f:=e1
   have e2:(y.ders++n.ders)[k]? =some l:=e2
   have hl:=bO y a
   by_cases hk:k<y.ders.length
   ·rw[List.getElem?_append_left (by rw[hl];exact hk)]at e1
    rw[List.getElem?_append_left hk]at e2
    exact up1 (h2 k f l e1 e2 s)
   ·rw[List.getElem?_append_right (by rw[hl];omega),hl]at e1
    rw[List.getElem?_append_right (by omega)]at e2
    exact up2 (t2 _ f l e1 e2 s)
 |.loop g b,a=>by
  obtain⟨h1,h2⟩:=gt b a
  have up:∀s,Gd (.loop g b) a (.loop g b) s (ldoor (g.at s) ((Dr b a).1 s)):=fun s=>by
   obtain⟨e1,q1⟩:=h1 s
   unfold Gd ldoor St.first
   by_cases hg:g.at s=true
   ·rw[if_pos hg,if_pos hg]
    by_cases hd:(b.first s).1="done"
    ·rw[if_pos (e1.trans hd),if_pos hd]
     exact⟨rfl,.inl ⟨rfl,rfl⟩⟩
    ·rw[if_neg (fun z=>hd (e1.symm.trans z)),if_neg hd]
     refine⟨e1,?_⟩
     rcases q1 with⟨z,y⟩|⟨j,l',y,m,z⟩
     ·exact .inl ⟨by rw[z];rfl,y⟩
     ·refine .inr ⟨j,.row l' (.loop g b),y,?_,by rw[z];rfl⟩
      show(b.ders.map (fun l=>St.row l (.loop g b)))[j]? =_
      rw[List.getElem?_map,m];rfl
   ·rw[if_neg hg,if_neg hg]
    exact⟨rfl,.inl ⟨rfl,rfl⟩⟩
  refine⟨up,fun k f l e1 e2 s=> ?_⟩
  have e1:((Dr b a).2.map fun f=>eV f fun s=>ldoor (g.at s) ((Dr b a).1 s))[k]? =some f:=e1
  have e2:(b.ders.map (fun l=>St.row l (.loop g b)))[k]? =some l:=e2
  rw[List.getElem?_map]at e1 e2
  obtain⟨f',ef,rfl⟩:=Option.map_eq_some_iff.mp e1
  obtain⟨l',el,rfl⟩:=Option.map_eq_some_iff.mp e2
  obtain⟨g1,g2⟩:=h2 k f' l' ef el s
  have gl:=up s
  unfold Gd eV
  have er:(St.row l' (.loop g b)).first s=if (l'.first s).1="done" then(St.loop g b).first s else((l'.first s).1,(l'.first s).2.map fun l=> .row l (.loop g b)):=rfl
  rw[er]
  by_cases hd:(l'.first s).1="done"
  ·rw[if_pos (g1.trans hd),if_pos hd]
   exact gl
  ·rw[if_neg (fun z=>hd (g1.symm.trans z)),if_neg hd]
   refine⟨g1,?_⟩
   rcases g2 with⟨z,y⟩|⟨j,l2,y,m,z⟩
   ·exact .inl ⟨by rw[z];rfl,y⟩
   ·refine .inr ⟨j,.row l2 (.loop g b),y,?_,by rw[z];rfl⟩
    show(b.ders.map (fun l=>St.row l (.loop g b)))[j]? =_
    rw[List.getElem?_map,m];rfl
end M62
end
noncomputable section
namespace M62
open PySem L2 DN
def rwN(t:St):Nat->Rw
 |0=>(Dr t 0).1
 |k+1=>(Dr t 0).2.getD k fun _=>("done",0)
def mzOf(t:St)(ys:List Sy)(fit:Tr):Mz where
 what r s:=(rwN t r (s:Int)).1
 there r s:=(rwN t r (s:Int)).2.toNat
 brk r s:=decide ((rwN t r (s:Int)).1="done") && !(fit.f s)
 wy d s:=letm ys d s &&& gdS ys
 N:=t.ders.length+1
theorem mP(t:St)(ho:t.ok){r s:Nat}(hr:r<t.ders.length+1):(rwN t r (s:Int)).2=(((rwN t r (s:Int)).2.toNat:Nat):Int)/\(isEnd (rwN t r (s:Int)).1\/(cy (rwN t r (s:Int)).1/\(rwN t r (s:Int)).2.toNat<t.ders.length+1)):=by
 obtain⟨h1,h2⟩:=gt t 0
 have go:∀{l:St} {d:Str×Int},l.ok->Gd t 0 l (s:Int) d->d.2=((d.2.toNat:Nat):Int)/\(isEnd d.1\/(cy d.1/\d.2.toNat<t.ders.length+1)):=by
  intro l d hl ⟨e1,e2⟩
  have hk:=dI l (s:Int) hl
  rcases e2 with⟨z,e⟩|⟨j,l',e,m,z⟩
  ·refine⟨by rw[e];rfl,.inl ?_⟩
   rcases hk with⟨q,_⟩|⟨_,l',q⟩
   ·rw[e1];exact q
   ·rw[z]at q;cases q
  ·have hj:=(List.getElem?_eq_some_iff.mp m).1
   refine⟨by rw[e];omega,.inr ⟨?_,by rw[e];omega⟩⟩
   rcases hk with⟨_,q⟩|⟨q,_⟩
   ·rw[z]at q;cases q
   ·rw[e1];exact q
 cases r with
 |zero=>exact go ho (h1 (s:Int))
 |succ k =>
  have hk:k<t.ders.length:=by omega
  have hk':k<(Dr t 0).2.length:=by rw[bO];exact hk
  have e:rwN t (k+1)=(Dr t 0).2[k]:=by
   show(Dr t 0).2.getD k _=_
   rw[List.getD_eq_getElem?_getD,List.getElem?_eq_getElem hk'];rfl
  rw[e]
  exact go (fj t _ ho (List.getElem_mem hk)) (h2 k _ _ (List.getElem?_eq_getElem hk') (List.getElem?_eq_getElem hk) (s:Int))
theorem jh(t:St)(ho:t.ok)(ys:List Sy)(fit:Tr):.(B).ok:=by
 refine⟨fun r s hr hs=>(mP t ho hr).2,fun r s h=> ?_,fun d s=> ?_⟩
 ·have h:(decide ((rwN t r (s:Int)).1="done") && !(fit.f s))=true:=h
  rw[Bool.and_eq_true,decide_eq_true_eq]at h
  exact h.1
 ·exact Nat.lt_of_le_of_lt Nat.and_le_right (qT _ (kn ys))
theorem x6(t:St){r:Nat}(hr:r<t.ders.length+1):fIx (aY (Dr t 0)) .(Ak)= .ok (rpv (rwN t r)):=by
 cases r with
 |zero=>exact oz _ _
 |succ k =>
  have hk':k<(Dr t 0).2.length:=by rw[bO];omega
  show(match iL (rpv (Dr t 0).1::(Dr t 0).2.map rpv) ((k+1:Nat):Int)with|some w=>Rx.ok w|none=> .bad)=_
  rw[eJ (v:=rpv (rwN t (k+1))) (by
   rw[List.getElem?_cons_succ,List.getElem?_map,List.getElem?_eq_getElem hk']
   show some (rpv (Dr t 0).2[k])=some (rpv ((Dr t 0).2.getD k _))
   rw[List.getD_eq_getElem?_getD,List.getElem?_eq_getElem hk'];rfl)]
def bn(t:St):PV:= .obj 16 [t.pv,aY (Dr t 0)]
theorem iB(n:Nat)(t:St)(ho:t.ok)(hd:2*t.depth+2<=n)(hl:t.ders.length<=1000):gF (n+1) 53 [t.pv]= .ok (bn t):=by
 have e:=fu t n 0 ho hd hl
 have e0:oq (gF n) [.ini 16 [],.v t.pv]= .nx [.ini 16 [t.pv,aY (Dr t 0)],.v t.pv]:=by
  unfold oq
  simp[e]
 have e1:jp 16 2 [false] 2 (oq (gF n)) [t.pv]=(match oq (gF n) [.ini 16 [],.v t.pv]with | .nx ps=>(match ps[(0:Nat)]? with|some (.ini k' fs)=>if k'=16/\fs.length=2 then .ok (.obj 16 fs) else .bad|_=> .bad) | .exc c=> .exc c|_=> .bad):=rfl
 rw[g_zR,e1,e0]
 rfl
def x7(t:St)(fit:Tr):PV:= .clo 56 [bn t,.int (fit.mk:Nat)]
def aV(t:St)(ys:List Sy)(fit:Tr)(st:Nat):PV:= .obj 15 [bB ys,.int 0,.int (st:Int),x7 t fit]
def tell(M:Mz)(r s:Nat):PV:=if M.brk r s=true then .tup [.str "found",.int (r:Int)] else .tup [.str (M.what r s),.int (M.there r s:Nat)]
theorem r6(n:Nat)(t:St)(ho:t.ok)(ys:List Sy)(fit:Tr){r s:Nat}(hr:r<t.ders.length+1)(hs:s<16):mj tC (gF (n+2)) (x7 t fit) (.ok [.int (r:Int),.int (s:Int)])= .ok (tell .(B) r s):=by
 have a1:mj tC (gF (n+2)) (x7 t fit) (.ok [.int (r:Int),.int (s:Int)])=gF (n+2) 56 [.int (r:Int),.int (s:Int),bn t,.int (fit.mk:Nat)]:=rfl
 have e1:=x6 t hr
 have e2:=Cj (rwN t r) (s:=(s:Int)) (by omega) (by omega)
 have e3:=ko n fit.mk s
 rw[JC fit hs]at e3
 have fd:ba bK (bn t)= .ok (aY (Dr t 0)):=rfl
 have hz:=(mP t ho (s:=s) hr).1
 rw[a1,g_zU,aB rfl]
 show fin (tI (gF (n+1)) [.v .(Ak),.v .(R),.v (bn t),.v (.int (fit.mk:Nat)),.no])=_
 have hd:mO (rwN t r (s:Int))= .tup [.str (rwN t r (s:Int)).1,.int ((rwN t r (s:Int)).2.toNat:Nat)]:=by rw[<-hz];rfl
 unfold tI tell
 show _=Rx.ok (if (decide ((rwN t r (s:Int)).1="done") && !(fit.f s))=true then _ else PV.tup [.str (rwN t r (s:Int)).1,.int ((rwN t r (s:Int)).2.toNat:Nat)])
 rw[<-hd]
 by_cases hw:(rwN t r (s:Int)).1="done"
 ·have hb:((rwN t r (s:Int)).1 == "done")=true:=by simpa using hw
  cases hf:fit.f s
  ·simp[fd,e1,e2,Ck,hb,e3,hw,hf]
  ·simp[fd,e1,e2,Ck,hb,e3,hw,hf]
 ·have hb:((rwN t r (s:Int)).1 == "done")=false:=by simpa using hw
  simp[fd,e1,e2,Ck,hb,hw]
theorem iC(n:Nat)(t:St)(ys:List Sy)(bef fit:Tr)(hb:bef.ok)(hf:fit.ok)(h1:bef.depth<n)(h2:fit.depth<n):gF (n+2) 16 [bef.pv,bn t,fit.pv,bB ys]= .ok (aV t ys fit (gdS ys &&& bef.mk)):=by
 have e1:=jw fit n hf h2
 have e2:=jw bef n hb h1
 have e3:=mM ys n
 have e4:=bW (gdS ys) bef.mk
 rw[g_zg,aB rfl]
 show fin (sQ (gF (n+1)) [.v bef.pv,.v (bn t),.v fit.pv,.v (bB ys),.no,.no])=_
 unfold sQ
 have c0:jq [1,5] [.v bef.pv,.v (bn t),.v fit.pv,.v (bB ys),.no,.v (.int (fit.mk:Nat))]= .ok [bn t,.int (fit.mk:Nat)]:=rfl
 simp[e1,e2,e3,e4,c0]
 rfl
theorem oA(f g:Nat->Bool):∀n,maskN (fun s=>f s && g s) n+maskN (fun s=>f s && !g s) n=maskN f n
 |0=>rfl
 |n+1=>by
  have:=oA f g n
  unfold maskN
  cases f n <;> cases g n <;> simp <;> omega
theorem lu{m:Nat}(h:m<65536):maskN m.testBit 16=m:=yU (eZ _ 16) h (fun s hs q=>by rw[dG]at q;simpa[hs]using q) (fun s hs q=>by rw[dG];simpa[hs]using q)
theorem z7{w r:Nat}(h:w<65536):Builtin.bitAnd (w:Int) (Builtin.bitNot (r:Int))=((maskN (fun s=>w.testBit s && !r.testBit s) 16:Nat):Int):=by
 have e1:Builtin.bitAnd (w:Int) (Builtin.bitNot (r:Int))=(w:Int)-((w &&& r:Nat):Int):=by
  unfold Builtin.bitAnd Builtin.bitNot
  have h1:(0:Int)<=(w:Int):=by omega
  have h2:¬(0:Int)<= -(r:Int)-1:=by omega
  simp only[h1,h2,decide_true,decide_false]
  have:(-(-(r:Int)-1)-1).toNat=r:=by omega
  rw[this];simp
 have e2:=oA w.testBit r.testBit 16
 rw[lu h]at e2
 have e3:maskN (fun s=>w.testBit s && r.testBit s) 16=w &&& r:=by
  rw[<-lu (m:=w &&& r) (Nat.lt_of_le_of_lt Nat.and_le_left h)]
  congr 1
  funext s
  rw[Nat.testBit_and]
 rw[e3]at e2
 rw[e1];omega
theorem x8{α :Type}{k j:Key}{w: α}:∀{ks:List Key} {xs:List α},ks.length=xs.length->bL ks (List.zipWith (fun k' x=>if k'=k then w else x) ks xs) j=if j=k then(if inK ks k=true then some w else none) else bL ks xs j
 |[],xs,_=>by cases xs <;> simp[bL,inK]
 |a::ks,[],h=>by simp at h
 |a::ks,x::xs,h=>by
  have ih:=x8 (k:=k) (j:=j) (w:=w) (ks:=ks) (xs:=xs) (by simpa using h)
  rw[List.zipWith_cons_cons,bL,ih]
  by_cases ej:a=j
  ·subst ej
   by_cases ek:a=k
   ·subst ek;simp[inK]
   ·simp[ek,bL]
  ·rw[if_neg ej]
   by_cases ejk:j=k
   ·subst ejk
    have hi:inK (a::ks) j=inK ks j:=by
     unfold inK
     rw[List.any_cons,decide_eq_false ej,Bool.false_or]
    rw[if_pos rfl,if_pos rfl,hi]
   ·simp[ejk,bL,ej]
theorem r7{α :Type}{k j:Key}{w: α}:∀{ks:List Key} {xs:List α},ks.length=xs.length->k∉ks->bL (ks++[k]) (xs++[w]) j=if j=k then some w else bL ks xs j
 |[],[],_,_=>by simp[bL,eq_comm]
 |[],x::xs,h,_=>by simp at h
 |a::ks,[],h,_=>by simp at h
 |a::ks,x::xs,h,hk=>by
  have ih:=r7 (k:=k) (j:=j) (w:=w) (ks:=ks) (xs:=xs) (by simpa using h) fun m=>hk (List.mem_cons_of_mem _ m)
  rw[List.cons_append,List.cons_append,bL,ih]
  by_cases ej:a=j
  ·subst ej
   have:a≠k:=fun e=>hk (by rw[e];exact List.mem_cons_self)
   simp[this,bL]
  ·simp[ej,bL]
theorem z9{α :Type}{k j:Key}{w: α}{ks:List Key}{xs:List α}(h:ks.length=xs.length):bL (dU ks k) (dE ks xs k w) j=if j=k then some w else bL ks xs j:=by
 unfold dU dE
 by_cases e:inK ks k=true
 ·rw[if_pos e,if_pos e,x8 h,if_pos e]
 ·rw[if_neg e,if_neg e,r7 h fun m=>e (md.mpr m)]
def xu(rc:Nat->Nat)(ks:List Key)(xs:List PV):Prop:=ks.length=xs.length/\ ∀r:Nat,(bL ks xs (.inl (r:Int))).getD (.int 0)= .int (rc r:Nat)
theorem za{rc:Nat->Nat}{ks:List Key}{xs:List PV}(h:xu rc ks xs)(r m:Nat):xu (upd rc r m) (dU ks (.inl (r:Int))) (dE ks xs (.inl (r:Int)) .(Ab)):=by
 refine⟨qt h.1,fun q=> ?_⟩
 rw[z9 h.1]
 unfold upd
 by_cases e:q=r
 ·subst e;simp
 ·have:¬(Sum.inl ((q:Nat):Int):Key)= .inl ((r:Nat):Int):=fun z=>e (by have:=Sum.inl.inj z;omega)
  rw[if_neg this,if_neg e];exact h.2 q
theorem pM(ks:List Key)(k:Key):(dU ks k).length<=ks.length+1:=by
 unfold dU;split <;> simp
def Vs.d:Vs->Str
 |.root _ _=>"" |.more _ _ _ d=>d
def Vs.pv:Vs->PV
 |.root r s=> .tup [.int (r:Int),.int (s:Int),.str "",.non]
 |.more p r s d=> .tup [.int (r:Int),.int (s:Int),.str d,p.pv]
theorem JD(v:Vs):fIx v.pv (.int 0)= .ok (.int (v.nd.1:Int)):=by cases v <;> rfl
theorem FY(v:Vs):fIx v.pv (.int 1)= .ok (.int (v.nd.2:Int)):=by cases v <;> rfl
end M62
end
noncomputable section
namespace M62
open PySem L2 DN
theorem jz(M:Mz)(h:M.ok){r s:Nat}(hr:r<M.N)(hs:s<16):∃w p,tell M r s= .tup [.str w,.int p]/\fIx (tell M r s) (.int 0)= .ok (.str w)/\fIx (tell M r s) (.int 1)= .ok (.int p)/\((M.brk r s=true/\w="found")\/(M.brk r s=false/\w=M.what r s/\p=(M.there r s:Nat)/\(w == ("found":Str))=false)):=by
 unfold tell
 split
 ·rename_i hb
  exact⟨_,_,rfl,rfl,rfl,.inl ⟨hb,rfl⟩⟩
 ·rename_i hb
  refine⟨_,_,rfl,rfl,rfl,.inr ⟨by simpa using hb,rfl,rfl,?_⟩⟩
  rcases h.kind r s hr hs with q|q
  ·rcases q with q|q|q <;> rw[q] <;> decide +kernel
  ·rcases q.1 with q|q|q|q|q <;> rw[q] <;> decide +kernel
theorem Cl{w:Str}(h:isEnd w):fJ true (.str w) (.tup eU)= .ok (.bl false):=by
 rcases h with rfl|rfl|rfl <;> rfl
theorem x9{w:Str}(h:cy w):fJ true (.str w) (.tup eU)= .ok (.bl true):=by
 rcases h with rfl|rfl|rfl|rfl|rfl <;> rfl
noncomputable section
variable(n:Nat)(t:St)(ho:t.ok)(ys:List Sy)(fit:Tr)(st:Nat)
abbrev jt(ks:List Key)(xs:List PV)(vs:List Vs)(i:Nat)(s4 s5 s6:Sl):aX:=[.v .(Q),.own (.dic ks xs),.own (.lst (vs.map Vs.pv)),.v (.int (i:Int)),s4,s5,s6]
theorem FZ{vs:List Vs}{i:Nat}{v:Vs}(h:vs[i]? =some v):fIx (.lst (vs.map Vs.pv)) (.int (i:Int))= .ok v.pv:=by
 show(match iL (vs.map Vs.pv) (i:Int)with|some w=>Rx.ok w|none=> .bad)=_
 rw[eJ (v:=v.pv) (by rw[List.getElem?_map,h];rfl)]
include ho in
theorem mQ{vs:List Vs}{i:Nat}{v:Vs}(hv:vs[i]? =some v)(h1:v.nd.1<t.ders.length+1)(h2:v.nd.2<16)(ks:List Key)(xs:List PV)(s4 s5 s6:Sl)(rest:DS) :
  ay (aS 4 (d2 fIx (ag 2) (ag 3))) (ay (jo 3 (fun i j=>i+j) (dC (.int 1))) (ay (aS 5 (iU tC (gF (n+2)) gh (af 0) (ae (d2 fIx (ag 4) (dC (.int 0))) (ae (d2 fIx (ag 4) (dC (.int 1))) ah)))) rest)) (jt t ys fit st ks xs vs i s4 s5 s6)
   =rest (jt t ys fit st ks xs vs (i+1) (.v v.pv) (.v (tell .(B) v.nd.1 v.nd.2)) s6):=by
 have e1:=FZ hv
 have e2:=JD v
 have e3:=FY v
 have e4:=r6 n t ho ys fit h1 h2
 have e5:ba gh .(Q)= .ok (x7 t fit):=rfl
 have eA:jo 3 (fun i j=>i+j) (dC (.int 1)) [.v .(Q),.own (.dic ks xs),.own (.lst (vs.map Vs.pv)),.v (.int (i:Int)),.v v.pv,s5,s6]= .nx [.v .(Q),.own (.dic ks xs),.own (.lst (vs.map Vs.pv)),.v (.int ((i+1:Nat):Int)),.v v.pv,s5,s6]:=rfl
 simp[e1,e2,e3,e4,e5,eA,Ow.pv, -qm, -dD]
 rfl
include ho in
theorem pN{vs:List Vs}{i:Nat}{v:Vs}(hv:vs[i]? =some v)(h1:v.nd.1<t.ders.length+1)(h2:v.nd.2<16)(hb:.(B).brk v.nd.1 v.nd.2=true)(ks:List Key)(xs:List PV)(s4 s5 s6:Sl){w:PV}(hw:gF (n+2) 6 [v.pv]= .ok w) :
  fP (gF (n+2)) (jt t ys fit st ks xs vs i s4 s5 s6)= .ret (.tup [.dic ks xs,w]):=by
 unfold fP
 rw[mQ n t ho ys fit st hv h1 h2]
 obtain⟨z,p,e0,e1,e2,⟨_,rfl⟩|⟨q,_⟩⟩:=jz .(B) (jh t ho ys fit) h1 h2
 ·simp[e1,hw, -dD,Ow.pv]
 ·rw[hb]at q;cases q
include ho in
theorem xb{vs:List Vs}{i:Nat}{v:Vs}(hv:vs[i]? =some v)(h1:v.nd.1<t.ders.length+1)(h2:v.nd.2<16)(hb:.(B).brk v.nd.1 v.nd.2=false)(he:isEnd (.(B).what v.nd.1 v.nd.2))(ks:List Key)(xs:List PV)(s4 s5 s6:Sl) :
  ∃s4' s5',fP (gF (n+2)) (jt t ys fit st ks xs vs i s4 s5 s6)= .nx (jt t ys fit st ks xs vs (i+1) s4' s5' s6):=by
 unfold fP
 rw[mQ n t ho ys fit st hv h1 h2]
 refine⟨.v v.pv,.v (tell .(B) v.nd.1 v.nd.2),?_⟩
 obtain⟨z,p,e0,e1,e2,⟨q,_⟩|⟨_,rfl,rfl,q⟩⟩:=jz .(B) (jh t ho ys fit) h1 h2
 ·rw[hb]at q;cases q
 ·have e3:=Cl he
  simp[e1,q,e3, -dD,Ow.pv]
include ho in
theorem tK{vs:List Vs}{i:Nat}{v:Vs}{rc:Nat->Nat}(hv:vs[i]? =some v)(h1:v.nd.1<t.ders.length+1)(h2:v.nd.2<16)(hb:.(B).brk v.nd.1 v.nd.2=false)(he:¬isEnd (.(B).what v.nd.1 v.nd.2)){ks:List Key}{xs:List PV}(s4 s5 s6:Sl)(hd:xu rc ks xs)(hk:ks.length<=20000)(hvl:vs.length<=20000) :
  ∃ks' xs' s4' s5' s6',fP (gF (n+2)) (jt t ys fit st ks xs vs i s4 s5 s6)= .nx (jt t ys fit st ks' xs' (vs++(bt (frs .(B) rc v.nd)).map fun s=> .more v (.(B).there v.nd.1 v.nd.2) s (.(B).what v.nd.1 v.nd.2)) (i+1) s4' s5' s6')
   /\xu (upd rc (.(B).there v.nd.1 v.nd.2) (rc (.(B).there v.nd.1 v.nd.2) ||| frs (mzOf t ys fit) rc v.nd)) ks' xs'/\ks'.length<=ks.length+1:=by
 have hM:=jh t ho ys fit
 have hD:cy (.(B).what v.nd.1 v.nd.2):=by
  rcases hM.kind _ _ h1 h2 with q|q
  ·exact absurd q he
  ·exact q.1
 obtain⟨z,p,e0,e1,e2,⟨q,_⟩|⟨_,rfl,rfl,q⟩⟩:=jz .(B) hM h1 h2
 ·rw[hb]at q;cases q
 unfold fP
 rw[mQ n t ho ys fit st hv h1 h2]
 generalize hT:tell .(B) v.nd.1 v.nd.2=T at *
 generalize hR:.(B).there v.nd.1 v.nd.2=R at *
 have e3:=x9 hD
 have e4:bp cV (gF (n+2)) (bB ys) [.str (.(B).what v.nd.1 v.nd.2),.int (v.nd.2:Int)]= .ok (.int ((.(B).wy (.(B).what v.nd.1 v.nd.2) v.nd.2:Nat):Int)):=mN ys (n+1) hD h2
 have e5:ba cR .(Q)= .ok (bB ys):=rfl
 have e6:=hd.2 R
 have e7:Builtin.bitAnd ((.(B).wy (.(B).what v.nd.1 v.nd.2) v.nd.2:Nat):Int) (Builtin.bitNot (rc R:Nat))=((frs .(B) rc v.nd:Nat):Int):=by
  rw[z7 (hM.wy _ _),<-hR];rfl
 have e8:=rX (rc R) (frs .(B) rc v.nd)
 have e9:=dz n (frs .(B) rc v.nd)
 have hk':ks.length<sizeLine:=by show _<16777216;omega
 have v1:=FY v
 refine⟨dU ks (.inl (R:Int)),dE ks xs (.inl (R:Int)) (.int ((rc R ||| frs (mzOf t ys fit) rc v.nd:Nat):Int)),.v v.pv,.v T,.v (.int (frs (mzOf t ys fit) rc v.nd:Nat)),?_,za hd R _,pM _ _⟩
 generalize hW:.(B).what v.nd.1 v.nd.2=W at *
 generalize hF:frs .(B) rc v.nd=F at *
 have hc:∀ks' xs',dComp ["setting"] [("visit",4),("told",5)] (aE (aj (gF (n+2) 1) (ae (af 6) ah))) (aD 0) bP (eT (ae (d2 fIx (ag 2) (dC (.int 1))) (ae (af 0) (ae (d2 fIx (ag 2) (dC (.int 0))) (ae (af 1) ah))))) (jt t ys fit st ks' xs' vs (i+1) (.v v.pv) (.v T) (.v (.int (F:Nat))))= .ok ((bt F).map fun s=>(Vs.more v R s W).pv):=fun ks' xs'=>by
  unfold dComp
  have hi:aE (aj (gF (n+2) 1) (ae (af 6) ah)) (jt t ys fit st ks' xs' vs (i+1) (.v v.pv) (.v T) (.v (.int (F:Nat))))= .ok ((bt F).map fun(i:Nat)=>PV.int (i:Int)):=by
   simp[e9]
  rw[hi,aq,if_pos (by rw[List.length_map];have:=iz F;show _<=16777216;omega)]
  refine bE (ps0:=[.v v.pv,.v T]) .(W) (fun s=>(Vs.more v R s W).pv) (bt F) .no fun s hs=> ?_
  simp[e1,e2, -dD]
  rfl
 have hl:(vs.map Vs.pv).length+((bt F).map fun s=>(Vs.more v R s W).pv).length<=sizeLine:=by
  rw[List.length_map,List.length_map];have:=iz F;show _<=16777216;omega
 have hq:(W == ("found":Str))=false:=q
 simp only[aF,cZ,fV,gp,l8,B9,List.getElem?_cons_zero,List.getElem?_cons_succ,aq,cq,e1,e2]
 have c1:cD (.str W) (.str "found")= .ok (.bl false):=by
  show Rx.ok (PV.bl (W == ("found":Str)))=_
  rw[hq]
 simp only[c1,aq,cn,cr,ar]
 have c2:aU (d2 (fJ true) (d2 fIx (ag 5) (dC (.int 0))) (dC (.tup eU))) (jt t ys fit st ks xs vs (i+1) (.v v.pv) (.v T) s6)= .ok true:=by
  show((((fIx T (.int 0)).bind fun x=>(Rx.ok (PV.tup eU)).bind fun y=>fJ true x y)).bind _)=_
  rw[e1,aq,aq,e3];rfl
 have g1:cU (ag 1) .(Ah) (dC (.int 0)) (jt t ys fit st ks xs vs (i+1) (.v v.pv) (.v T) s6)= .ok (.int (rc R:Nat)):=by
  show((Rx.ok (PV.dic ks xs)).bind fun x=>((fIx T (.int 1)).bind fun y=>(Rx.ok (PV.int 0)).bind fun z=>match x,gd y with
   |.dic ks xs,some k=>if ks.length=xs.length then .ok ((bL ks xs k).getD z) else .bad
   |_,_=> .bad))=_
  rw[e2]
  show(if ks.length=xs.length then Rx.ok ((bL ks xs (.inl (R:Int))).getD (.int 0)) else .bad)=_
  rw[if_pos hd.1,e6]
 have g1':cU (ag 1) .(Ah) (dC (.int 0)) (jt t ys fit st ks xs vs (i+1) (.v v.pv) (.v T) (.v (.int (F:Int))))= .ok (.int (rc R:Nat)):=g1
 have g2:aS 6 (d2 dj (aO cV (gF (n+2)) (aZ cR (af 0)) (ae (d2 fIx (ag 5) (dC (.int 0))) (ae (d2 fIx (ag 4) (dC (.int 1))) ah))) (yH (cU (ag 1) .(Ah) (dC (.int 0))))) (jt t ys fit st ks xs vs (i+1) (.v v.pv) (.v T) s6)= .nx (jt t ys fit st ks xs vs (i+1) (.v v.pv) (.v T) (.v (.int (F:Int)))):=by
  have h0:aO cV (gF (n+2)) (aZ cR (af 0)) (ae (d2 fIx (ag 5) (dC (.int 0))) (ae (d2 fIx (ag 4) (dC (.int 1))) ah)) (jt t ys fit st ks xs vs (i+1) (.v v.pv) (.v T) s6)= .ok (.int ((.(B).wy W v.nd.2:Nat):Int)):=by
   simp[e5,e1,v1,e4, -dD]
  rw[gI,gp,h0,F8,g1,aq,cq]
  show(Rx.ok (PV.int (Builtin.bitAnd ((.(B).wy W v.nd.2:Nat):Int) (Builtin.bitNot (rc R:Nat))))).st _=_
  rw[e7]
  rfl
 have g3:jX 1 .(Ah) (d2 Eb (cU (ag 1) .(Ah) (dC (.int 0))) (ag 6)) (jt t ys fit st ks xs vs (i+1) (.v v.pv) (.v T) (.v (.int (F:Int))))= .nx (jt t ys fit st (dU ks (.inl (R:Int))) (dE ks xs (.inl (R:Int)) (.int ((rc R ||| F:Nat):Int))) vs (i+1) (.v v.pv) (.v T) (.v (.int (F:Int)))):=by
  have h0:d2 Eb (cU (ag 1) .(Ah) (dC (.int 0))) (ag 6) (jt t ys fit st ks xs vs (i+1) (.v v.pv) (.v T) (.v (.int (F:Int))))= .ok (.int ((rc R ||| F:Nat):Int)):=by
   rw[gp,g1']
   show Rx.ok (PV.int (Builtin.bitOr (rc R:Nat) (F:Nat)))=_
   rw[e8]
  have h1:d2 fIx (ag 5) (dC (.int 1)) (jt t ys fit st ks xs vs (i+1) (.v v.pv) (.v T) (.v (.int (F:Int))))= .ok (.int (R:Int)):=e2
  unfold jX
  rw[h0,br,h1,br]
  show(if ks.length<sizeLine then _ else _)=_
  rw[if_pos hk']
  rfl
 have g4:∀ks' xs',cN (vj 2 (dComp ["setting"] [("visit",4),("told",5)] (aE (aj (gF (n+2) 1) (ae (af 6) ah))) (aD 0) bP (eT (ae (d2 fIx (ag 2) (dC (.int 1))) (ae (af 0) (ae (d2 fIx (ag 2) (dC (.int 0))) (ae (af 1) ah))))))) (jt t ys fit st ks' xs' vs (i+1) (.v v.pv) (.v T) (.v (.int (F:Nat))))= .nx (jt t ys fit st ks' xs' (vs++(bt F).map fun s=> .more v R s W) (i+1) (.v v.pv) (.v T) (.v (.int (F:Nat)))):=fun ks' xs'=>by
  rw[va,EX]
  show Rx.st ((dComp _ _ _ _ _ _ _).bind _) _=_
  rw[hc ks' xs',aq,if_pos hl]
  show Rs.nx [.v .(Q),.own (.dic ks' xs'),.own (.lst (vs.map Vs.pv++(bt F).map fun s=>(Vs.more v R s W).pv)),.v (.int ((i+1:Nat):Int)),.v v.pv,.v T,.v (.int (F:Nat))]=_
  rw[show(vs.map Vs.pv++(bt F).map fun s=>(Vs.more v R s W).pv)=(vs++(bt F).map fun s=>Vs.more v R s W).map Vs.pv by rw[List.map_append,List.map_map];rfl]
 rw[cZ,c2,fe,aF,g2,ar,aF,g3,ar]
 exact g4 _ _
end
end M62
end
noncomputable section
namespace M62
open PySem L2 DN
def tV:List Str->Str
 |[]=>""
 |d::r=>d++tV r
theorem r9(x:Str):x++("":Str)=x:=PySem.Str.append_empty x
theorem zb(x:Str):("":Str)++x=x:=PySem.Str.empty_append x
def Vs.rs:Vs->List Nat
 |.root _ s=>[s] | .more p _ s _=>s::p.rs
def Vs.rd:Vs->List Str
 |.root _ _=>[] | .more p _ _ d=>d::p.rd
theorem xc:∀v:Vs,v.rd.length=v.dep
 |.root _ _=>rfl
 |.more p _ _ _=>by simp[Vs.rd,Vs.dep,xc p]
theorem ra{M:Mz}{B:List Nd}:∀v:Vs,v.good M B->∀d∈v.rd,cy d
 |.root _ _,_,d,hd=>by cases hd
 |.more p _ _ e,h,d,hd=>by
  rcases List.mem_cons.mp hd with q|q
  ·rw[q];exact h.2.1
  ·exact ra p h.1 d q
theorem xf:∀l:List Str,Txt.join "" l=tV l:=by
 have key:∀l:List Str,Str.join "" l=tV l:=by
  intro l
  induction l with
  |nil=>rfl
  |cons d r ih =>
   cases r with
   |nil=>show d=d++("":Str);rw[r9]
   |cons e r =>
    show d++("":Str)++Str.join "" (e::r)=d++tV (e::r)
    rw[ih,r9]
 intro l
 rw[<-key l]
 exact PySem.StrLaws.glued_eq_join "" l
theorem oB:∀l:List Str,gg (l.map PV.str)=some l
 |[]=>rfl
 |d::l=>by simp[gg,oB l]
theorem pO(l:List Str)(hl:l.length<=20000)(hd:∀d∈l,cy d\/d=""):nZ (.str "") (.lst (l.map PV.str))= .ok (.str (tV l)):=by
 have hj:JoinOk "" l=true:=by
  unfold JoinOk
  rw[StrLaws.joinFits (B:=1) (fun y hy=>by rcases hd y hy with(rfl|rfl|rfl|rfl|rfl)|rfl <;> decide +kernel) (by
   have:(("":Str)).length=0:=by decide +kernel
   rw[this];omega)]
  rfl
 unfold nZ
 simp only[oB,hj,if_true,xf]
theorem lw(n:Nat):∀(v:Vs) (S D:List PV) (k:Nat),S.length+v.dep<=20000->D.length+v.dep<=20000->cu (fW (aU (gG (ag 0)))) (iY (gF n)) (k+v.dep+2) [.v v.pv,.own (.lst S),.own (.lst D)]=some (.nx [.v .non,.own (.lst (S++v.rs.map fun(i:Nat)=>PV.int (i:Int))),.own (.lst (D++v.rd.map PV.str++[.str ""]))])
 |.root r s,S,D,k,h1,h2=>by
  have hS:S.length<sizeLine:=by show _<16777216;omega
  have hD:D.length<sizeLine:=by show _<16777216;omega
  have t1:fW (aU (gG (ag 0))) [.v (Vs.root r s).pv,.own (.lst S),.own (.lst D)]= .ok (true,[.v (Vs.root r s).pv,.own (.lst S),.own (.lst D)]):=rfl
  have b1:iY (gF n) [.v (Vs.root r s).pv,.own (.lst S),.own (.lst D)]= .nx [.v .non,.own (.lst (S++[.int (s:Int)])),.own (.lst (D++[.str ""]))]:=by
   have x1:fIx (Vs.root r s).pv (.int 1)= .ok .(R):=rfl
   have x2:fIx (Vs.root r s).pv (.int 2)= .ok (.str ""):=rfl
   have x3:fIx (Vs.root r s).pv (.int 3)= .ok .non:=rfl
   unfold iY
   simp[x1,x2,x3,hS,hD, -dD]
  have t2:fW (aU (gG (ag 0))) [.v .non,.own (.lst (S++[.int (s:Int)])),.own (.lst (D++[.str ""]))]= .ok (false,[.v .non,.own (.lst (S++[.int (s:Int)])),.own (.lst (D++[.str ""]))]):=rfl
  show cu _ _ ((k+0+1)+1) _=_
  rw[cu,t1]
  simp only[b1]
  rw[cu,t2]
  simp[Vs.rs,Vs.rd]
 |.more p r s d,S,D,k,h1,h2=>by
  have h1:S.length+(p.dep+1)<=20000:=h1
  have h2:D.length+(p.dep+1)<=20000:=h2
  have hS:S.length<sizeLine:=by show _<16777216;omega
  have hD:D.length<sizeLine:=by show _<16777216;omega
  have t1:fW (aU (gG (ag 0))) [.v (Vs.more p r s d).pv,.own (.lst S),.own (.lst D)]= .ok (true,[.v (Vs.more p r s d).pv,.own (.lst S),.own (.lst D)]):=rfl
  have b1:iY (gF n) [.v (Vs.more p r s d).pv,.own (.lst S),.own (.lst D)]= .nx [.v p.pv,.own (.lst (S++[.int (s:Int)])),.own (.lst (D++[.str d]))]:=by
   have x1:fIx (Vs.more p r s d).pv (.int 1)= .ok .(R):=rfl
   have x2:fIx (Vs.more p r s d).pv (.int 2)= .ok (.str d):=rfl
   have x3:fIx (Vs.more p r s d).pv (.int 3)= .ok p.pv:=rfl
   unfold iY
   simp[x1,x2,x3,hS,hD, -dD]
  have ih:=lw n p (S++[.int (s:Int)]) (D++[.str d]) k (by simp;omega) (by simp;omega)
  show cu _ _ ((k+p.dep+2)+1) _=_
  rw[cu,t1]
  simp only[b1]
  rw[ih]
  simp[Vs.rs,Vs.rd]
def Vs.ss(v:Vs):List Nat:=v.rs.reverse
def Vs.ds(v:Vs):List Str:=v.rd.reverse
def Cm(l:List Nat):PV:= .lst (l.map fun(i:Nat)=>PV.int (i:Int))
def G0(v:Vs):PV:= .tup [Cm v.ss,.str (tV v.ds)]
theorem pP(n:Nat){M:Mz}{B:List Nd}(v:Vs)(h:v.good M B)(hd:v.dep<=19000):gF (n+1) 6 [v.pv]= .ok (G0 v):=by
 have e:=lw n v [] [] (99998-v.dep) (by simp;omega) (by simp;omega)
 rw[show 99998-v.dep+v.dep+2=100000 by omega]at e
 rw[g_z6,aB rfl]
 show fin (sI (gF n) [.v v.pv,.no,.no])=_
 have o1:∀s1 s2,il 1 ah [.v v.pv,s1,s2]= .nx [.v v.pv,.own (.lst []),s2]:=fun _ _=>rfl
 have o2:∀s1 s2,il 2 ah [.v v.pv,s1,s2]= .nx [.v v.pv,s1,.own (.lst [])]:=fun _ _=>rfl
 have ej:=pO (("":Str)::v.ds) (by simp[Vs.ds,xc];omega) (fun d hd=>by
  rcases List.mem_cons.mp hd with q|q
  ·exact .inr q
  ·exact .inl (ra v h d (List.mem_reverse.mp q)))
 have ec:tV (("":Str)::v.ds)=tV v.ds:=zb _
 rw[ec]at ej
 have er:(v.rd.map PV.str++[PV.str ""]).reverse=(("":Str)::v.ds).map PV.str:=by
  rw[List.reverse_append,<-List.map_reverse];rfl
 unfold sI
 rw[aF,o1,ar,aF,o2,ar,aF,iu,e]
 simp only[Option.getD_some,ar,List.nil_append]
 have r1:∀(xs:List PV) (s0 s2:Sl),cN (pq 1) [s0,.own (.lst xs),s2]= .nx [s0,.own (.lst xs.reverse),s2]:=fun _ _ _=>rfl
 have r2:∀(xs:List PV) (s0 s1:Sl),cN (pq 2) [s0,s1,.own (.lst xs)]= .nx [s0,s1,.own (.lst xs.reverse)]:=fun _ _ _=>rfl
 rw[aF,r1,ar,aF,r2,ar,er]
 have es:(v.rs.map fun(i:Nat)=>PV.int (i:Int)).reverse=v.ss.map fun(i:Nat)=>PV.int (i:Int):=by rw[<-List.map_reverse];rfl
 rw[es]
 rw[List.map_cons]at ej
 simp[ej,Ow.pv]
 rfl
noncomputable section
variable(n:Nat)(t:St)(ho:t.ok)(ys:List Sy)(fit:Tr)(st:Nat)
abbrev tW(st:Nat):List Nd:=(bt st).map fun s=>(0,s)
theorem pQ(st:Nat):∀b∈tW st,.(B).In b:=fun b hb=>by
 obtain⟨s,hs,rfl⟩:=List.mem_map.mp hb
 exact⟨Nat.succ_pos _,(aW.mp hs).1⟩
def xg(ks:List Key)(xs:List PV)(w:PV):Prop:=(∃v:Vs,w=G0 v/\v.good .(B) (tW st)/\(mzOf t ys fit).Near (tW st) (some v.dep)/\v.dep<=17000)\/(w= .non/\ ∃rc vs,xu rc ks xs/\QI .(B) (tW st) rc vs vs.length)
include ho in
theorem gi(hl:t.ders.length<=1000)(j:Nat):∀(k i:Nat) (vs:List Vs) (rc:Nat->Nat) (ks:List Key) (xs:List PV) (s4 s5 s6:Sl),QI .(B) (tW st) rc vs i->xu rc ks xs->ks.length<=i+1->(∀v∈vs,v.dep<=i)->k+i=16*.(P)+1 ->
  ∃r,cu (fW (aU (d2 p8 (ag 3) (aj bR (ae (ag 2) ah))))) (fP (gF (n+2))) (k+j) (jt t ys fit st ks xs vs i s4 s5 s6)=some r/\ ∃ks' xs' w,ks'.length=xs'.length/\xg t ys fit st ks' xs' w/\(r= .ret (.tup [.dic ks' xs',w])\/(w= .non/\ ∃vs' i' s4' s5' s6',r= .nx (jt t ys fit st ks' xs' vs' i' s4' s5' s6')))
 |0,i,vs,rc,ks,xs,s4,s5,s6,q,hd,hk,hdep,hki=>by have:vs.length<=16*(t.ders.length+1):=q.len (jh t ho ys fit) (pQ t ys fit st);have:=q.le;omega
 |k+1,i,vs,rc,ks,xs,s4,s5,s6,q,hd,hk,hdep,hki=>by
  have hM:=jh t ho ys fit
  have hB:=pQ t ys fit st
  have hlen:vs.length<=16*.(P):=q.len hM hB
  have hle:=q.le
  have tt:fW (aU (d2 p8 (ag 3) (aj bR (ae (ag 2) ah)))) (jt t ys fit st ks xs vs i s4 s5 s6)= .ok (decide (i<vs.length),jt t ys fit st ks xs vs i s4 s5 s6):=by
   have e1:bR [.lst (vs.map Vs.pv)]= .ok (.int (vs.length:Int)):=by
    show Rx.ok (PV.int (((vs.map Vs.pv).length:Nat):Int))=_
    rw[List.length_map]
   simp[Ow.pv]
  rw[show k+1+j=(k+j)+1 by omega,cu,tt]
  rcases Nat.lt_or_ge i vs.length with hi|hi
  ·have hv:=List.getElem?_eq_getElem hi
   have hm:=List.getElem_mem hi
   obtain⟨h1,h2⟩:=q.In hM hB _ hm
   simp only[hi,decide_true]
   cases hb:.(B).brk vs[i].nd.1 vs[i].nd.2 with
   |true =>
    have hg:=q.q1 _ hm
    have hdp:=hdep _ hm
    have ew:=pP (n+1) vs[i] hg (by omega)
    rw[pN n t ho ys fit st hv h1 h2 hb ks xs s4 s5 s6 ew]
    exact⟨_,rfl,ks,xs,_,hd.1,.inl ⟨vs[i],rfl,hg,⟨q.found hv,_,km _ hg,hb⟩,by omega⟩,.inl rfl⟩
   |false =>
    by_cases he:isEnd (.(B).what vs[i].nd.1 vs[i].nd.2)
    ·obtain⟨s4',s5',e⟩:=xb n t ho ys fit st hv h1 h2 hb he ks xs s4 s5 s6
     rw[e]
     exact gi hl j k (i+1) vs rc ks xs _ _ _ (q.still hv hb he) hd (by omega) (fun v hv=>by have:=hdep v hv;omega) (by omega)
    ·obtain⟨ks',xs',s4',s5',s6',e,hd',hk'⟩:=tK n t ho ys fit st (rc:=rc) hv h1 h2 hb he s4 s5 s6 hd (by omega) (by omega)
     rw[e]
     refine gi hl j k (i+1) _ _ ks' xs' _ _ _ (q.next hM hB hv hb he) hd' (by omega) (fun v hv'=> ?_) (by omega)
     rcases List.mem_append.mp hv' with p|p
     ·have:=hdep v p;omega
     ·obtain⟨s,_,rfl⟩:=List.mem_map.mp p
      have:=hdep _ hm
      show vs[i].dep+1<=i+1
      omega
  ·have:¬i<vs.length:=by omega
   have hei:i=vs.length:=by omega
   simp only[this,decide_false]
   subst hei
   exact⟨_,rfl,ks,xs,.non,hd.1,.inr ⟨rfl,rc,vs,hd,q⟩,.inr ⟨rfl,_,_,_,_,_,rfl⟩⟩
include ho in
theorem tL(hl:t.ders.length<=1000)(hst:st<65536):∃ks xs w,bp fh (gF (n+3)) .(Q) []= .ok (.tup [.dic ks xs,w])/\ks.length=xs.length/\xg t ys fit st ks xs w:=by
 have hd:xu (upd (fun _=>0) 0 st) [.inl 0] [.int (st:Int)]:=by
  refine⟨rfl,fun r=> ?_⟩
  unfold upd
  by_cases h:r=0
  ·subst h;rfl
  ·have:¬(Sum.inl 0:Key)= .inl (r:Int):=fun z=>h (by have:=Sum.inl.inj z;omega)
   simp[bL,this,h]
 obtain⟨r,e,ks,xs,w,hkx,hw,hr⟩:=gi n t ho ys fit st hl (100000-(16*.(P)+1)) (16*.(P)+1) 0 _ _ [.inl 0] [.int (st:Int)] .no .no .no (QI.start st hst) hd (by simp) (fun v hv=>by
  obtain⟨s,_,rfl⟩:=List.mem_map.mp hv
  exact Nat.le_refl _) rfl
 rw[show 16*.(P)+1+(100000-(16*.(P)+1))=100000 by omega]at e
 refine⟨ks,xs,w,?_,hkx,hw⟩
 have a1:bp fh (gF (n+3)) .(Q) []=gF (n+3) 42 [aV t ys fit st]:=rfl
 have e9:=dz n st
 rw[a1,g_zG,aB rfl]
 show fin (tm (gF (n+2)) [.v .(Q),.no,.no,.no,.no,.no,.no])=_
 have o1:ml 1 (aZ dJ (af 0)) (aZ cx (af 0)) [.v .(Q),.no,.no,.no,.no,.no,.no]= .nx [.v .(Q),.own (.dic [.inl 0] [.int (st:Int)]),.no,.no,.no,.no,.no]:=rfl
 have hc:dComp ["setting"] [("self",0)] (aE (aj (gF (n+2) 1) (ae (aZ cx (af 0)) ah))) (aD 0) bP (eT (ae (aZ dJ (af 1)) (ae (af 0) (ae (dC (.str "")) (ae (dC .non) ah))))) [.v .(Q),.own (.dic [.inl 0] [.int (st:Int)]),.no,.no,.no,.no,.no]= .ok ((bt st).map fun s=>(Vs.root 0 s).pv):=by
  unfold dComp
  have hi:aE (aj (gF (n+2) 1) (ae (aZ cx (af 0)) ah)) [.v .(Q),.own (.dic [.inl 0] [.int (st:Int)]),.no,.no,.no,.no,.no]= .ok ((bt st).map fun(i:Nat)=>PV.int (i:Int)):=by
   have:ba cx .(Q)= .ok (.int (st:Int)):=rfl
   simp[this,e9]
  rw[hi,aq,if_pos (by rw[List.length_map];have:=iz st;show _<=16777216;omega)]
  refine bE (ps0:=[.v .(Q)]) .(W) (fun s=>(Vs.root 0 s).pv) (bt st) .no fun s hs=> ?_
  rfl
 unfold tm
 rw[aF,o1,ar,aF,EL,hc,br]
 simp only[List.length_cons,List.length_nil,Nat.reduceAdd,Nat.reduceLT,if_true,List.set_cons_succ,List.set_cons_zero,ar,aF,gI,B9,br]
 rw[show((bt st).map fun s=>(Vs.root 0 s).pv)=((bt st).map fun s=>Vs.root 0 s).map Vs.pv by rw[List.map_map];rfl,iu]
 have e:cu (fW (aU (d2 p8 (ag 3) (aj bR (ae (ag 2) ah))))) (fP (gF (n+2))) 100000 [.v .(Q),.own (.dic [.inl 0] [.int (st:Int)]),.own (.lst (((bt st).map fun s=>Vs.root 0 s).map Vs.pv)),.v (.int 0),.no,.no,.no]=some r:=e
 rw[e]
 rcases hr with rfl|⟨rfl,vs',i',s4',s5',s6',rfl⟩
 ·rfl
 ·rfl
end
theorem zc(n m:Nat):gF (n+1) 27 [.int (m:Int)]= .ok (.lst ((bt m).map fun(i:Nat)=>PV.int (i:Int))):=by
 rw[g_zr,aB rfl]
 show fin (sZ (gF n) [.v .(Ab)])=_
 unfold sZ dComp
 rw[eF,cP,qW,aq,if_pos qX]
 have:=eG (dt:=aU (d2 cD (d2 dj (d2 gw (ag 1) (ag 0)) (dC (.int 1))) (dC (.int 1)))) (de:=af 0) (ps0:=[.v .(Ab)]) (fun(i:Nat)=>PV.int (0+(i:Int))) (fun i=>m.testBit i) .(W) (List.range 16) .no fun i hi=>by
  have hi:=List.mem_range.mp hi
  have e:=jx m i
  refine⟨?_,fun _=> ?_⟩
  ·have h0:¬((i:Int)<0):=by omega
   simp[<-e]
  ·show Rx.ok (PV.int (0+(i:Int)))=_
   rw[Int.zero_add]
 exact congrArg (fun z=>fin ((z.bind fun r=>Rx.ok (PV.lst r)).st fun w=> .ret w)) this
theorem zd{w:Str}(h:isEnd w):fJ true (.str w) (.tup [.str "done",.str "stopped",.str "hung"])= .ok (.bl false):=by
 rcases h with rfl|rfl|rfl <;> rfl
theorem tM{w:Str}(h:cy w):fJ true (.str w) (.tup [.str "done",.str "stopped",.str "hung"])= .ok (.bl true):=by
 rcases h with rfl|rfl|rfl|rfl|rfl <;> rfl
end M62
end
noncomputable section
namespace M62
open PySem L2 DN
theorem tN(n:Nat)(l:List Int)(d:Str):gF (n+1) 55 [.lst .(A),.str d]= .ok (.obj 19 [.lst .(A),.str d]):=rfl
theorem jA(n:Nat)(l:List PV):gF (n+1) 54 [.lst l]= .ok (.obj 18 [.lst l]):=rfl
theorem ze(l:List Nat):Cm l= .lst ((l.map fun(i:Nat)=>(i:Int)).map PV.int):=by
 unfold Cm
 rw[List.map_map];rfl
noncomputable section
variable(n:Nat)(t:St)(ho:t.ok)(ys:List Sy)(fit:Tr)
def Cn(st:Nat)(w:PV):Prop:=(∃v:Vs,w= .obj 19 [Cm v.ss,.str (tV v.ds)]/\v.good .(B) (tW st)/\(mzOf t ys fit).Near (tW st) (some v.dep)/\v.dep<=17000)\/ ∃rc vs,w= .obj 18 [.lst (.(N).map fun(i:Nat)=>PV.int (rc i:Nat))]/\QI .(B) (tW st) rc vs vs.length
include ho in
theorem lz(hN:t.ders.length<=600)(hd:2*t.depth+2<=n+4)(D:Nat)(hys:∀y∈ys,y.ok D)(hyl:ys.length<=1000)(hD:D<=n)(bef:Tr)(hb:bef.ok)(h1:bef.depth<n+3)(hf:fit.ok)(h2:fit.depth<n+3) :
  ∃w,gF (n+6) 15 [bef.pv,t.pv,fit.pv,.lst .(J)]= .ok w/\Cn t ys fit (gdS ys &&& bef.mk) w:=by
 have e1:=iB (n+4) t ho hd (by omega)
 have e2:=kr D ys hys hyl n hD
 have e3:=iC (n+3) t ys bef fit hb hf h1 h2
 obtain⟨ks,xs,w,e4,hkx,hw⟩:=tL (n+2) t ho ys fit (gdS ys &&& bef.mk) (by omega) (Nat.lt_of_le_of_lt Nat.and_le_left (qT _ (kn ys)))
 have fd:ba bK (bn t)= .ok (aY (Dr t 0)):=rfl
 have i0:fIx (.tup [.dic ks xs,w]) (.int 0)= .ok (.dic ks xs):=rfl
 have i1:fIx (.tup [.dic ks xs,w]) (.int 1)= .ok w:=rfl
 have s1:aS 4 (aj (gF (n+5) 53) (ae (af 1) ah)) [.v bef.pv,.v t.pv,.v fit.pv,.v .(I),.no,.no]= .nx [.v bef.pv,.v t.pv,.v fit.pv,.v .(I),.v (bn t),.no]:=by
  simp[e1]
 have s2:aS 5 (aO fh (gF (n+5)) (aj (gF (n+5) 16) (ae (af 0) (ae (af 4) (ae (af 2) (ae (aj (gF (n+5) 52) (ae (af 3) ah)) ah))))) ah) [.v bef.pv,.v t.pv,.v fit.pv,.v .(I),.v (bn t),.no]= .nx [.v bef.pv,.v t.pv,.v fit.pv,.v .(I),.v (bn t),.v (.tup [.dic ks xs,w])]:=by
  have c1:aj (gF (n+5) 16) (ae (af 0) (ae (af 4) (ae (af 2) (ae (aj (gF (n+5) 52) (ae (af 3) ah)) ah)))) [.v bef.pv,.v t.pv,.v fit.pv,.v .(I),.v (bn t),.no]= .ok (aV t ys fit (gdS ys &&& bef.mk)):=by
   simp[e2,e3]
  rw[gI,jT,c1,aq]
  show((bp fh (gF (n+5)) (aV t ys fit (gdS ys &&& bef.mk)) []).st _)=_
  rw[e4]
  rfl
 rw[g_zf,aB rfl]
 show ∃w,fin (sP (gF (n+5)) [.v bef.pv,.v t.pv,.v fit.pv,.v .(I),.no,.no])=_/\_
 unfold sP
 rw[aF,s1,ar,aF,s2,ar]
 rcases hw with⟨v,rfl,hg,hn,hdp⟩|⟨rfl,rc,vs,hdr,hq⟩
 ·refine⟨.obj 19 [Cm v.ss,.str (tV v.ds)],?_,.inl ⟨v,rfl,hg,hn,hdp⟩⟩
  have j0:fIx (G0 v) (.int 0)= .ok (Cm v.ss):=rfl
  have j1:fIx (G0 v) (.int 1)= .ok (.str (tV v.ds)):=rfl
  have eb:=tN (n+4) (v.ss.map fun(i:Nat)=>(i:Int)) (tV v.ds)
  rw[<-ze]at eb
  have tt:aU (gG .(Ah)) [.v bef.pv,.v t.pv,.v fit.pv,.v .(I),.v (bn t),.v (.tup [.dic ks xs,G0 v])]= .ok true:=rfl
  rw[aF,cZ,tt,fe]
  simp[i1,j0,j1,eb, -dD]
 ·have hc:dComp ["room"] [("told",5)] (bA (ae (aj bR (ae (aZ bK (af 4)) ah)) ah)) (aD 0) bP (cU (d2 fIx (ag 1) (dC (.int 0))) (ag 0) (dC (.int 0))) [.v bef.pv,.v t.pv,.v fit.pv,.v .(I),.v (bn t),.v (.tup [.dic ks xs,.non])]= .ok (.(N).map fun(i:Nat)=>(bL ks xs (.inl (i:Int))).getD (.int 0)):=by
   unfold dComp
   have hl:=ft (Dr t 0) (by rw[bO];omega)
   have hr:bA (ae (aj bR (ae (aZ bK (af 4)) ah)) ah) [.v bef.pv,.v t.pv,.v fit.pv,.v .(I),.v (bn t),.v (.tup [.dic ks xs,.non])]= .ok (.(N).map fun(i:Nat)=>PV.int (i:Int)):=by
    refine jy (k:=t.ders.length+1) ?_ (by omega)
    have:aj bR (ae (aZ bK (af 4)) ah) [.v bef.pv,.v t.pv,.v fit.pv,.v .(I),.v (bn t),.v (.tup [.dic ks xs,.non])]=bR [aY (Dr t 0)]:=rfl
    rw[this,hl,bO];rfl
   rw[hr,aq,if_pos (by rw[List.length_map,List.length_range];show _<=16777216;omega)]
   refine bE (ps0:=[.v (.tup [.dic ks xs,.non])]) .(W) (fun(i:Nat)=>(bL ks xs (.inl (i:Int))).getD (.int 0)) .(N) .no fun i hi=> ?_
   show(if ks.length=xs.length then Rx.ok ((bL ks xs (.inl (i:Int))).getD (.int 0)) else .bad)=_
   rw[if_pos hkx]
  have ek:=jA (n+4) (.(N).map fun(i:Nat)=>(bL ks xs (.inl (i:Int))).getD (.int 0))
  have hm:(.(N).map fun(i:Nat)=>(bL ks xs (.inl (i:Int))).getD (.int 0))=.(N).map fun(i:Nat)=>PV.int (rc i:Nat):=by simp only[hdr.2]
  rw[hm]at hc ek
  refine⟨_,?_,.inr ⟨rc,vs,rfl,hq⟩⟩
  have tt:aU (gG .(Ah)) [.v bef.pv,.v t.pv,.v fit.pv,.v .(I),.v (bn t),.v (.tup [.dic ks xs,.non])]= .ok false:=rfl
  rw[aF,cZ,tt,cn,cr,ar,eF,dR,bZ,cP,hc]
  simp only[aq,gc,dq,ek,br,fK]
end
end M62
end
noncomputable section
namespace M62
open PySem L2 DN
def dA(M:Mz)(mk:Nat->Nat)(r s:Nat):Bool:= !M.brk r s && (M.nx (r,s)).all fun v=>(mk v.1).testBit v.2
def cB(a b:Nat):Bool:=a &&& b == a
theorem fQ{a b:Nat}(ha:a<65536):cB a b=true ↔ ∀s,s<16->a.testBit s=true->b.testBit s=true:=by
 unfold cB
 rw[beq_iff_eq]
 constructor
 ·intro h s hs e
  have:(a &&& b).testBit s=true:=by rw[h];exact e
  rw[Nat.testBit_and,Bool.and_eq_true]at this
  exact this.2
 ·intro h
  apply Nat.eq_of_testBit_eq
  intro s
  rw[Nat.testBit_and]
  rcases Nat.lt_or_ge s 16 with hs|hs
  ·cases e:a.testBit s with
   |false=>rfl
   |true=>rw[h s hs e];rfl
  ·rw[kj ha hs];rfl
theorem lA(n a b:Nat):gF (n+1) 7 [.int (a:Int),.int (b:Int)]= .ok (.bl (cB a b)):=by
 rw[g_z7,aB rfl]
 have e:=bW a b
 have:(((a &&& b:Nat):Int) == (a:Int))=cB a b:=by
  unfold cB
  rw[Bool.eq_iff_iff,beq_iff_eq,beq_iff_eq]
  omega
 show fin (sJ (gF n) [.v (.int (a:Int)),.v (.int (b:Int))])=_
 unfold sJ
 simp[e,this]
theorem zf{w:Str}(h:isEnd w):fJ false (.str w) (.tup eU)= .ok (.bl true):=by
 rcases h with rfl|rfl|rfl <;> rfl
theorem tO{w:Str}(h:cy w):fJ false (.str w) (.tup eU)= .ok (.bl false):=by
 rcases h with rfl|rfl|rfl|rfl|rfl <;> rfl
theorem lB{M:Mz}{mk:Nat->Nat}{r s:Nat}(hw:M.wy (M.what r s) s<65536)(hb:M.brk r s=false)(he:¬isEnd (M.what r s)):dA M mk r s=cB (M.wy (M.what r s) s) (mk (M.there r s)):=by
 unfold dA Mz.nx
 rw[if_neg he,hb,Bool.eq_iff_iff,fQ hw]
 simp only[Bool.not_false,Bool.true_and,List.all_eq_true,List.mem_map]
 constructor
 ·intro h s' hs e
  exact h (M.there r s,s') ⟨s',aW.mpr ⟨hs,e⟩,rfl⟩
 ·rintro h v ⟨s',hs,rfl⟩
  exact h s' (aW.mp hs).1 (aW.mp hs).2
theorem oC{M:Mz}{mk:Nat->Nat}{r s:Nat}(hb:M.brk r s=false)(he:isEnd (M.what r s)):dA M mk r s=true:=by
 unfold dA Mz.nx
 rw[if_pos he,hb];rfl
noncomputable section
variable(n:Nat)(t:St)(ho:t.ok)(ys:List Sy)(fit:Tr)(st:Nat)
include ho in
theorem pR{r s:Nat}(hr:r<t.ders.length+1)(hs:s<16){mk:Nat->Nat}{ks:List Key}{xs:List PV}(hd:xu mk ks xs) :
  bp cF (gF (n+3)) .(Q) [.dic ks xs,.int (r:Int),.int (s:Int)]= .ok (.bl (dA .(B) mk r s)):=by
 have hM:=jh t ho ys fit
 have a1:bp cF (gF (n+3)) .(Q) [.dic ks xs,.int (r:Int),.int (s:Int)]=gF (n+3) 44 [aV t ys fit st,.dic ks xs,.int (r:Int),.int (s:Int)]:=rfl
 have e4:=r6 n t ho ys fit hr hs
 have e5:ba gh .(Q)= .ok (x7 t fit):=rfl
 rw[a1,g_zI,aB rfl]
 show fin (tw (gF (n+2)) [.v .(Q),.v (.dic ks xs),.v .(Ak),.v .(R),.no])=_
 unfold tw
 have s1:aS 4 (iU tC (gF (n+2)) gh (af 0) (ae (af 2) (ae (af 3) ah))) [.v .(Q),.v (.dic ks xs),.v .(Ak),.v .(R),.no]= .nx [.v .(Q),.v (.dic ks xs),.v .(Ak),.v .(R),.v (tell .(B) r s)]:=by
  simp[e4,e5]
 rw[aF,s1,ar]
 obtain⟨z,p,e0,e1,e2,h⟩:=jz .(B) hM hr hs
 generalize hT:tell .(B) r s=T at *
 rcases h with⟨hb,rfl⟩|⟨hb,rfl,rfl,q⟩
 ·have:dA .(B) mk r s=false:=by unfold dA;rw[hb];rfl
  rw[this]
  simp[e1, -dD]
 ·have c1:cD (.str (.(B).what r s)) (.str "found")= .ok (.bl false):=by
   show Rx.ok (PV.bl (.(B).what r s == ("found":Str)))=_
   rw[q]
  by_cases he:isEnd (.(B).what r s)
  ·have e3:=zf he
   rw[oC hb he]
   simp only[aF,cZ,fV,gp,l8,B9,List.getElem?_cons_zero,List.getElem?_cons_succ,aq,cq,e1,c1,e3,cn,fe,cr,ar,eF,br]
   rfl
  ·have hD:cy (.(B).what r s):=by
    rcases hM.kind r s hr hs with q|q
    ·exact absurd q he
    ·exact q.1
   have e3:=tO hD
   have e6:bp cV (gF (n+2)) (bB ys) [.str (.(B).what r s),.int (s:Int)]= .ok (.int ((.(B).wy (.(B).what r s) s:Nat):Int)):=mN ys (n+1) hD hs
   have e7:ba cR .(Q)= .ok (bB ys):=rfl
   have e8:=lA (n+1) (.(B).wy (.(B).what r s) s) (mk (.(B).there r s))
   rw[lB (hM.wy _ _) hb he]
   generalize (mzOf t ys fit).what r s=W at *
   generalize (mzOf t ys fit).there r s=R at *
   have g1:cU (ag 1) (d2 fIx (ag 4) (dC (.int 1))) (dC (.int 0)) [.v .(Q),.v (.dic ks xs),.v .(Ak),.v .(R),.v T]= .ok (.int (mk R:Nat)):=by
    show((Rx.ok (PV.dic ks xs)).bind fun x=>((fIx T (.int 1)).bind fun y=>(Rx.ok (PV.int 0)).bind fun z=>match x,gd y with
     |.dic ks xs,some k=>if ks.length=xs.length then .ok ((bL ks xs k).getD z) else .bad
     |_,_=> .bad))=_
    rw[e2]
    show(if ks.length=xs.length then Rx.ok ((bL ks xs (.inl (R:Int))).getD (.int 0)) else .bad)=_
    rw[if_pos hd.1,hd.2 R]
   have g2:aO cV (gF (n+2)) (aZ cR (af 0)) (ae (d2 fIx (ag 4) (dC (.int 0))) (ae (af 3) ah)) [.v .(Q),.v (.dic ks xs),.v .(Ak),.v .(R),.v T]= .ok (.int ((.(B).wy W s:Nat):Int)):=by
    simp[e7,e1,e6, -dD]
   simp only[aF,cZ,fV,gp,l8,B9,List.getElem?_cons_zero,List.getElem?_cons_succ,aq,cq,e1,c1,e3,cn,fe,cr,ar,eF,br]
   rw[dR,bZ,g2,bZ,g1]
   simp only[aq,gc,dq,e8,br,fK]
end
theorem fw{α :Type}{g:DG}{body:DS}(emb: α ->PV)(P:aX->Prop)(f: α ->Bool):∀(L:List α) (ps:aX),P ps->(∀a∈L,∀ps,P ps->∃ps1,g (emb a) ps= .ok ps1/\((f a=true/\ ∃ps2,P ps2/\body ps1= .nx ps2)\/(f a=false/\body ps1= .ret (.bl false)))) ->
  (L.all f=true/\ ∃ps',P ps'/\bS g body (L.map emb) ps= .nx ps')\/(L.all f=false/\bS g body (L.map emb) ps= .ret (.bl false))
 |[],ps,h,_=> .inl ⟨rfl,ps,h,rfl⟩
 |a::L,ps,h,k=>by
  obtain⟨ps1,e1,z⟩:=k a List.mem_cons_self ps h
  rw[List.map_cons,bS,e1,br]
  rcases z with⟨hf,ps2,h2,e2⟩|⟨hf,e2⟩
  ·rw[e2]
   rcases fw emb P f L ps2 h2 (fun b hb=>k b (List.mem_cons_of_mem _ hb))with⟨q,r⟩|⟨q,r⟩
   ·exact .inl ⟨by rw[List.all_cons,hf,q];rfl,r⟩
   ·exact .inr ⟨by rw[List.all_cons,q,Bool.and_false],r⟩
  ·rw[e2]
   exact .inr ⟨by rw[List.all_cons,hf,Bool.false_and],rfl⟩
theorem xh:∀(n j:Nat),nK j n=(List.range' j n).map fun(i:Nat)=>(Sum.inl (i:Int):Key)
 |0,j=>rfl
 |n+1,j=>by rw[List.range'_succ,List.map_cons,<-xh n (j+1)];rfl
theorem re{α :Type}(f: α ->Key)(g: α ->PV):∀L:List α,pD (L.map f) (L.map g)=L.map fun x=>PV.tup [Bz (f x),g x]
 |[]=>rfl
 |x::L=>by
  show PV.tup [Bz (f x),g x]::pD (L.map f) (L.map g)=_
  rw[re f g L];rfl
theorem oE{α :Type}{k:Key}(f: α ->Key)(g: α ->PV):∀L:List α,(∀a∈L,∀b∈L,f a=f b->a=b)->(∀a∈L,f a=k->bL (L.map f) (L.map g) k=some (g a))/\((∀a∈L,f a≠k)->bL (L.map f) (L.map g) k=none)
 |[],_=>⟨(fun a h=>by cases h),fun _=>rfl⟩
 |x::L,inj=>by
  obtain⟨h1,h2⟩:=oE (k:=k) f g L fun a ha b hb=>inj a (List.mem_cons_of_mem _ ha) b (List.mem_cons_of_mem _ hb)
  have e:bL ((x::L).map f) ((x::L).map g) k=if f x=k then some (g x) else bL (L.map f) (L.map g) k:=rfl
  rw[e]
  refine⟨fun a ha hk=> ?_,fun h=> ?_⟩
  ·by_cases hx:f x=k
   ·rw[if_pos hx,inj a ha x List.mem_cons_self (hk.trans hx.symm)]
   ·rw[if_neg hx]
    rcases List.mem_cons.mp ha with q|q
    ·exact absurd (q ▸ hk) hx
    ·exact h1 a q hk
  ·rw[if_neg (h x List.mem_cons_self),h2 fun a ha=>h a (List.mem_cons_of_mem _ ha)]
abbrev mkL(N:Nat)(mk:Nat->Nat):List PV:=(List.range N).map fun(r:Nat)=>PV.int (mk r:Nat)
theorem KC(N:Nat):nK 0 N=(List.range N).map fun(i:Nat)=>(Sum.inl (i:Int):Key):=by rw[xh,List.range_eq_range']
theorem Co{N:Nat}{mk:Nat->Nat}(h0:∀r,N<=r->mk r=0):xu mk (nK 0 N) (mkL N mk):=by
 refine⟨by rw[mv,List.length_map,List.length_range],fun r=> ?_⟩
 rw[KC]
 obtain⟨h1,h2⟩:=oE (k:=(Sum.inl (r:Int):Key)) (fun(i:Nat)=>(Sum.inl (i:Int):Key)) (fun(r:Nat)=>PV.int (mk r:Nat)) (List.range N) fun a _ b _ e=>by have:=Sum.inl.inj e;omega
 rcases Nat.lt_or_ge r N with hr|hr
 ·rw[h1 r (List.mem_range.mpr hr) rfl];rfl
 ·rw[h2 fun a ha e=>by have:=Sum.inl.inj e;have:=List.mem_range.mp ha;omega,h0 r hr];rfl
def Cp(M:Mz)(g st:Nat)(mk:Nat->Nat):Bool:=cB st (mk 0) && (List.range M.N).all fun r=>(bt (mk r &&& g)).all fun s=>dA M mk r s
noncomputable section
variable(n:Nat)(t:St)(ho:t.ok)(ys:List Sy)(fit:Tr)(st:Nat)
include ho in
theorem zg{r:Nat}(hr:r<t.ders.length+1)(m:PV){mk:Nat->Nat}{ks:List Key}{xs:List PV}(hd:xu mk ks xs)(L:List Nat)(hL:∀s∈L,s<16)(s4:Sl) :
  (L.all (fun s=>dA .(B) mk r s)=true/\ ∃s4',bS (aD 4) (ki (gF (n+3))) (L.map fun(i:Nat)=>PV.int (i:Int)) [.v .(Q),.v (.dic ks xs),.v .(Ak),.v m,s4]= .nx [.v .(Q),.v (.dic ks xs),.v .(Ak),.v m,s4']) \/
  (L.all (fun s=>dA .(B) mk r s)=false/\bS (aD 4) (ki (gF (n+3))) (L.map fun(i:Nat)=>PV.int (i:Int)) [.v .(Q),.v (.dic ks xs),.v .(Ak),.v m,s4]= .ret (.bl false)):=by
 rcases fw (g:=aD 4) (body:=ki (gF (n+3))) .(W) (fun ps=>∃s4,ps=[.v .(Q),.v (.dic ks xs),.v .(Ak),.v m,s4]) (fun s=>dA .(B) mk r s) L _ ⟨s4,rfl⟩ (by
  rintro s hs ps ⟨s4,rfl⟩
  have e:=pR n t ho ys fit st hr (hL s hs) hd
  refine⟨[.v .(Q),.v (.dic ks xs),.v .(Ak),.v m,.v .(R)],rfl,?_⟩
  unfold ki
  cases hg:dA .(B) mk r s with
  |true =>
   rw[hg]at e
   exact .inl ⟨rfl,_,⟨.v .(R),rfl⟩,by simp[e]⟩
  |false =>
   rw[hg]at e
   exact .inr ⟨rfl,by simp[e]⟩)with⟨q,ps',⟨s4',rfl⟩,e⟩|⟨q,e⟩
 ·exact .inl ⟨q,s4',e⟩
 ·exact .inr ⟨q,e⟩
include ho in
theorem tP{mk:Nat->Nat}(h0:∀r,t.ders.length+1<=r->mk r=0) :
  bp dM (gF (n+4)) .(Q) [.dic (nK 0 .(P)) (mkL .(P) mk)]= .ok (.bl (Cp .(B) (gdS ys) st mk)):=by
 have hd:=Co (N:=t.ders.length+1) h0
 have hitP:pD (nK 0 .(P)) (mkL .(P) mk)=.(N).map fun(r:Nat)=>PV.tup [.int (r:Int),.int (mk r:Nat)]:=by rw[KC];exact re _ _ _
 generalize nK 0 .(P)=ks at *
 generalize mkL .(P) mk=xs at *
 have a1:bp dM (gF (n+4)) .(Q) [.dic ks xs]=gF (n+4) 43 [aV t ys fit st,.dic ks xs]:=rfl
 rw[a1,g_zH,aB rfl]
 show fin (tu (gF (n+3)) [.v .(Q),.v (.dic ks xs),.no,.no,.no])=_
 unfold tu
 have f1:ba cx .(Q)= .ok (.int (st:Int)):=rfl
 have f2:ba dJ .(Q)= .ok (.int 0):=rfl
 have f3:ba cR .(Q)= .ok (bB ys):=rfl
 have w0:=lA (n+2) st (mk 0)
 have g0:cU (ag 1) (aZ dJ (af 0)) (dC (.int 0)) [.v .(Q),.v (.dic ks xs),.no,.no,.no]= .ok (.int (mk 0:Nat)):=by
  show(if ks.length=xs.length then Rx.ok ((bL ks xs (.inl ((0:Nat):Int))).getD (.int 0)) else .bad)=_
  rw[if_pos hd.1,hd.2 0]
 have c0:aU (aj (gF (n+3) 7) (ae (aZ cx (af 0)) (ae (cU (ag 1) (aZ dJ (af 0)) (dC (.int 0))) ah))) [.v .(Q),.v (.dic ks xs),.no,.no,.no]= .ok (cB st (mk 0)):=by
  rw[fV,dR,bZ,bZ,g0]
  simp[f1,w0]
 unfold Cp
 rw[aF,cZ,m8,c0]
 cases hw:cB st (mk 0) with
 |false=>simp
 |true =>
  simp only[aq,Bool.not_true,cn,cr,ar,Bool.true_and]
  rw[aF,yN]
  have hit:yL (af 1) [.v .(Q),.v (.dic ks xs),.no,.no,.no]= .ok (.(N).map fun(r:Nat)=>PV.tup [.int (r:Int),.int (mk r:Nat)]):=by
   show(if ks.length=xs.length then Rx.ok (pD ks xs) else .bad)=_
   rw[if_pos hd.1,hitP]
  rw[hit,br]
  rcases fw (g:=jb 2 (ci (aD 2) (ci (aD 3) ja))) (body:=pG (gF (n+3))) (fun(r:Nat)=>PV.tup [.int (r:Int),.int (mk r:Nat)]) (fun ps=>∃s2 s3 s4,ps=[.v .(Q),.v (.dic ks xs),s2,s3,s4]) (fun r=>(bt (mk r &&& gdS ys)).all fun s=>dA .(B) mk r s) .(N) _ ⟨.no,.no,.no,rfl⟩ (by
   rintro r hr ps ⟨s2,s3,s4,rfl⟩
   refine⟨[.v .(Q),.v (.dic ks xs),.v .(Ak),.v (.int (mk r:Nat)),s4],rfl,?_⟩
   have e1:=mM ys (n+2)
   have e2:=bW (mk r) (gdS ys)
   have e3:=dz (n+1) (mk r &&& gdS ys)
   have hi:aE (aj (gF (n+3) 1) (ae (d2 dj (ag 3) (aO gR (gF (n+3)) (aZ cR (af 0)) ah)) ah)) [.v .(Q),.v (.dic ks xs),.v .(Ak),.v (.int (mk r:Nat)),s4]= .ok ((bt (mk r &&& gdS ys)).map fun(i:Nat)=>PV.int (i:Int)):=by
    simp[f3,e1,e2,e3]
   unfold pG
   rw[nV,hi,br]
   rcases zg n t ho ys fit st (List.mem_range.mp hr) (.int (mk r:Nat)) hd (bt (mk r &&& gdS ys)) (fun s hs=>(aW.mp hs).1) s4 with⟨q,s4',e⟩|⟨q,e⟩
   ·exact .inl ⟨q,_,⟨_,_,s4',rfl⟩,e⟩
   ·exact .inr ⟨q,e⟩)with⟨q,ps',⟨s2,s3,s4,rfl⟩,e⟩|⟨q,e⟩
  ·rw[e]
   have q:((List.range .(B).N).all fun r=>(bt (mk r &&& gdS ys)).all fun s=>dA .(B) mk r s)=true:=q
   rw[q];rfl
  ·rw[e]
   have q:((List.range .(B).N).all fun r=>(bt (mk r &&& gdS ys)).all fun s=>dA .(B) mk r s)=false:=q
   rw[q];rfl
end
end M62
end
noncomputable section
namespace M62
open PySem L2 DN
def iZ(l:List Int):Bool:=l.all fun z=>decide (0<=z) && decide (z<=65535)
def mkA(l:List Int)(r:Nat):Nat:=((l[r]?).getD 0).toNat
theorem xi{l:List Int}(h:iZ l=true){r:Nat}(hr:r<l.length):0<=l[r]/\l[r]<=65535:=by
 have:=List.all_eq_true.mp h l[r] (List.getElem_mem hr)
 simpa using this
theorem pS{l:List Int}(h:iZ l=true){r:Nat}(hr:r<l.length):((mkA l r:Nat):Int)=l[r]:=by
 have:=(xi h hr).1
 unfold mkA
 rw[List.getElem?_eq_getElem hr]
 show((l[r].toNat:Nat):Int)=_
 omega
theorem rf{l:List Int}{r:Nat}(h:l.length<=r):mkA l r=0:=by
 unfold mkA
 rw[List.getElem?_eq_none h];rfl
theorem Cq{l:List Int}(h:iZ l=true)(r:Nat):mkA l r<65536:=by
 rcases Nat.lt_or_ge r l.length with hr|hr
 ·have h1:=pS h hr
  have h2:=(xi h hr).2
  omega
 ·rw[rf hr];decide
theorem xj{l:List Int}(h:iZ l=true):l.map PV.int=mkL l.length (mkA l):=by
 apply List.ext_getElem?
 intro i
 rcases Nat.lt_or_ge i l.length with hi|hi
 ·rw[List.getElem?_map,List.getElem?_map,List.getElem?_range hi,List.getElem?_eq_getElem hi]
  show some (PV.int l[i])=some (PV.int (mkA l i:Nat))
  rw[pS h hi]
 ·rw[List.getElem?_eq_none (by simpa using hi),List.getElem?_eq_none (by simpa using hi)]
def stB(M:Mz)(g st:Nat)(l:List Int):Bool:=decide (l.length=M.N) && (iZ l && Cp M g st (mkA l))
noncomputable section
variable(n:Nat)(t:St)(ho:t.ok)(ys:List Sy)(fit:Tr)
include ho in
theorem ji(hN:t.ders.length<=600)(hd:2*t.depth+2<=n+4)(D:Nat)(hys:∀y∈ys,y.ok D)(hyl:ys.length<=1000)(hD:D<=n)(bef:Tr)(hb:bef.ok)(h1:bef.depth<n+3)(hf:fit.ok)(h2:fit.depth<n+3)(l:List Int)(hll:l.length<=1000) :
  bp cQ (gF (n+6)) (.obj 18 [.lst .(A)]) [bef.pv,t.pv,fit.pv,.lst .(J)]= .ok (.bl (stB .(B) (gdS ys) (gdS ys &&& bef.mk) l)):=by
 have e1:=iB (n+4) t ho hd (by omega)
 have e2:=kr D ys hys hyl n hD
 have e3:=iC (n+3) t ys bef fit hb hf h1 h2
 have a1:bp cQ (gF (n+6)) (.obj 18 [.lst .(A)]) [bef.pv,t.pv,fit.pv,.lst .(J)]=gF (n+6) 46 [.obj 18 [.lst .(A)],bef.pv,t.pv,fit.pv,.lst .(J)]:=rfl
 have fm:ba cS (.obj 18 [.lst .(A)])= .ok (.lst .(A)):=rfl
 have fd:ba bK (bn t)= .ok (aY (Dr t 0)):=rfl
 have hl:=ft (Dr t 0) (by rw[bO];omega)
 rw[bO]at hl
 rw[a1,g_zK,aB rfl]
 generalize hP:PV.obj 18 [.lst .(A)]=P at *
 generalize hY:PV.lst .(J)=Y at *
 show fin (tz (gF (n+5)) [.v P,.v bef.pv,.v t.pv,.v fit.pv,.v Y,.no])=_
 unfold tz
 have s1:aS 5 (aj (gF (n+5) 53) (ae (af 2) ah)) [.v P,.v bef.pv,.v t.pv,.v fit.pv,.v Y,.no]= .nx [.v P,.v bef.pv,.v t.pv,.v fit.pv,.v Y,.v (bn t)]:=by
  simp[e1]
 rw[aF,s1,ar]
 have c1:aU (d2 iE (aj bR (ae (aZ cS (af 0)) ah)) (aj bR (ae (aZ bK (af 5)) ah))) [.v P,.v bef.pv,.v t.pv,.v fit.pv,.v Y,.v (bn t)]= .ok (!decide (l.length=t.ders.length+1)):=by
  have m1:bR [.lst .(A)]= .ok (.int (l.length:Int)):=by
   show Rx.ok (PV.int (.(A).length:Nat))=_
   rw[List.length_map]
  have m2:((l.length:Int) == ((t.ders.length:Int)+1))=decide (l.length=t.ders.length+1):=by
   rw[Bool.eq_iff_iff,beq_iff_eq,decide_eq_true_eq];omega
  have m3:iE (.int (l.length:Int)) (.int ((t.ders.length:Int)+1))= .ok (.bl (!decide (l.length=t.ders.length+1))):=by
   rw[<-m2];rfl
  simp[fm,fd,m1,hl,m3]
 unfold stB
 rw[aF,cZ,c1]
 have hMN:.(B).N=t.ders.length+1:=rfl
 rw[hMN]
 by_cases hlen:l.length=t.ders.length+1
 ·rw[decide_eq_true hlen]
  simp only[Bool.not_true,cn,cr,ar,Bool.true_and]
  have hc:dComp ["mask"] [] (aE (aZ cS (af 0))) (aD 0) bP (iV AX AX (dC (.int 0)) (ag 0) (dC (.int (65535)))) [.v P,.v bef.pv,.v t.pv,.v fit.pv,.v Y,.v (bn t)]= .ok (l.map fun z=>PV.bl (decide (0<=z) && decide (z<=65535))):=by
   unfold dComp
   have hi:aE (aZ cS (af 0)) [.v P,.v bef.pv,.v t.pv,.v fit.pv,.v Y,.v (bn t)]= .ok .(A):=by simp[fm]
   rw[hi,aq,if_pos (by rw[List.length_map];show _<=16777216;omega)]
   refine bE (ps0:=[]) PV.int (fun z=>PV.bl (decide (0<=z) && decide (z<=65535))) l .no fun z _=> ?_
   by_cases h0:0<=z <;> simp[h0]
  have c2:aU (aj sj (ae (aG (dComp ["mask"] [] (aE (aZ cS (af 0))) (aD 0) bP (iV AX AX (dC (.int 0)) (ag 0) (dC (.int (65535)))))) ah)) [.v P,.v bef.pv,.v t.pv,.v fit.pv,.v Y,.v (bn t)]= .ok (iZ l):=by
   have ha:=all_map (fun z:Int=>decide (0<=z) && decide (z<=65535)) l
   simp only[fV,dR,bZ,cP,hc,aq,gc,dq,ha]
   rfl
  rw[aF,cZ,m8,c2]
  cases hr:iZ l with
  |false=>simp
  |true =>
   simp only[aq,Bool.not_true,cn,cr,ar,Bool.true_and]
   have hcl:=tP (n+1) t ho ys fit (gdS ys &&& bef.mk) (mk:=mkA l) fun r h=>rf (by omega)
   rw[<-hlen,<-xj hr]at hcl
   have c3:aj (gF (n+5) 16) (ae (af 1) (ae (af 5) (ae (af 3) (ae (aj (gF (n+5) 52) (ae (af 4) ah)) ah)))) [.v P,.v bef.pv,.v t.pv,.v fit.pv,.v Y,.v (bn t)]= .ok (aV t ys fit (gdS ys &&& bef.mk)):=by
    simp[e2,e3]
   have c4:GK (aZ cS (af 0)) [.v P,.v bef.pv,.v t.pv,.v fit.pv,.v Y,.v (bn t)]= .ok (.dic (nK 0 l.length) .(A)):=by
    rw[pE]
    simp[fm]
   rw[eF,jT,c3,aq,bZ,c4]
   simp only[aq,gc,dq]
   show fin ((bp dM (gF (n+5)) (aV t ys fit (gdS ys &&& bef.mk)) [.dic (nK 0 l.length) .(A)]).st _)=_
   rw[hcl];rfl
 ·rw[decide_eq_false hlen]
  simp
end
end M62
end
noncomputable section
namespace M62
open PySem L2 DN
theorem rg(xs:List Int):iE (.lst (xs.map PV.int)) (.lst [])= .ok (.bl (!xs.isEmpty)):=by
 have hd:∀l:List Int,aP .(A)=0:=by
  intro l
  induction l with
  |nil=>rfl
  |cons z l ih=>rw[List.map_cons,aP,ih];rfl
 unfold iE
 rw[if_pos (by rw[PV.depth,hd];decide)]
 cases xs with
 |nil=>rfl
 |cons z l=>rw[List.map_cons,iR,if_neg (by simp)];rfl
theorem JE{l:List Int}(h:iZ l=true){r:Nat}(hr:r<l.length):fIx (.lst .(A)) .(Ak)= .ok (.int (mkA l r:Nat)):=by
 show(match iL .(A) (r:Int)with|some w=>Rx.ok w|none=> .bad)=_
 rw[eJ (v:= .int (mkA l r:Nat)) (by rw[List.getElem?_map,List.getElem?_eq_getElem hr,pS h hr];rfl)]
theorem xk(m:Nat){s:Nat}(hs:s<16):gw .(Ab) .(R)= .ok (.int ((m:Int) / 2 ^ s)):=by
 have h0:¬((s:Int)<0):=by omega
 simp[gw,h0]
theorem xl(a b:Nat):bt (a &&& b)=(bt b).filter fun s=>a.testBit s:=by
 unfold bt
 rw[List.filter_filter]
 congr 1
 funext s
 rw[Nat.testBit_and]
theorem mR{g:Nat}(hg:g<65536)(bef:Tr)(m:Nat):cB (g &&& bef.mk) m=((bt g).filter fun s=>bef.f s && !m.testBit s).isEmpty:=by
 rw[Bool.eq_iff_iff,fQ (Nat.lt_of_le_of_lt Nat.and_le_left hg),List.isEmpty_iff,List.filter_eq_nil_iff]
 constructor
 ·intro h s hs q
  obtain⟨h1,h2⟩:=aW.mp hs
  rw[Bool.and_eq_true,Bool.not_eq_true']at q
  have:=h s h1 (by rw[Nat.testBit_and,h2,JC bef h1,q.1];rfl)
  rw[q.2]at this;cases this
 ·intro h s hs q
  rw[Nat.testBit_and,Bool.and_eq_true,JC bef hs]at q
  have:=h s (aW.mpr ⟨hs,q.1⟩)
  rw[q.2]at this
  simpa using this
theorem tQ{w m:Nat}(hw:w<65536)(hm:m<65536):(Builtin.bitAnd (w:Int) (65535-(m:Int)) == 0)=cB w m:=by
 have e:(65535-(m:Int))=((65535-m:Nat):Int):=by omega
 rw[e,bW,Bool.eq_iff_iff,fQ hw,beq_iff_eq]
 have hx:∀s,s<16->(65535-m).testBit s= !m.testBit s:=fun s hs=>by
  have h3:=Nat.testBit_two_pow_sub_succ (n:=16) (x:=m) hm s
  rw[show(2:Nat) ^ 16-(m+1)=65535-m by omega,decide_eq_true hs,Bool.true_and]at h3
  exact h3
 constructor
 ·intro h s hs q
  have h0:w &&& (65535-m)=0:=by omega
  have:(w &&& (65535-m)).testBit s=false:=by rw[h0];exact Nat.zero_testBit s
  rw[Nat.testBit_and,q,hx s hs]at this
  simpa using this
 ·intro h
  have h0:w &&& (65535-m)=0:=by
   apply Nat.eq_of_testBit_eq
   intro s
   rw[Nat.zero_testBit,Nat.testBit_and]
   rcases Nat.lt_or_ge s 16 with hs|hs
   ·rw[hx s hs]
    cases q:w.testBit s with
    |false=>rfl
    |true=>rw[h s hs q];rfl
   ·rw[kj hw hs];rfl
  rw[h0];rfl
noncomputable section
variable(n:Nat)(t:St)(ho:t.ok)(ys:List Sy)(fit:Tr)(hf:fit.ok)(hfd:fit.depth<n+2)
abbrev kJ(L b:PV)(s6 s7 s8 s9:Sl):aX:=[.v L,.v b,.v (aY (Dr t 0)),.v fit.pv,.v (bB ys),.v (Cm (bt (gdS ys))),s6,s7,s8,s9]
include ho hf hfd in
theorem xm(b:PV){l:List Int}(hl:l.length=t.ders.length+1)(hr0:iZ l=true){r s:Nat}(hr:r<t.ders.length+1)(hs:s<16)(s8 s9:Sl) :
  (dA .(B) (mkA l) r s=true/\ ∃s8' s9',kh (gF (n+2)) (kJ t ys fit (.lst .(A)) b (.v .(Ak)) (.v .(R)) s8 s9)= .nx (kJ t ys fit (.lst .(A)) b (.v .(Ak)) (.v .(R)) s8' s9')) \/
  (dA .(B) (mkA l) r s=false/\kh (gF (n+2)) (kJ t ys fit (.lst .(A)) b (.v .(Ak)) (.v .(R)) s8 s9)= .ret (.bl false)):=by
 have hM:=jh t ho ys fit
 have e1:=x6 t hr
 have e2:=Cj (rwN t r) (s:=(s:Int)) (by omega) (by omega)
 have hz:=(mP t ho (s:=s) hr).1
 have hd:mO (rwN t r (s:Int))= .tup [.str (.(B).what r s),.int (.(B).there r s:Nat)]:=by
  show PV.tup [.str (rwN t r (s:Int)).1,.int (rwN t r (s:Int)).2]= .tup [.str (rwN t r (s:Int)).1,.int ((rwN t r (s:Int)).2.toNat:Nat)]
  rw[<-hz]
 have e3:bp aK (gF (n+2)) fit.pv [.int (s:Int)]= .ok (.bl (fit.f s)):=cg fit (n+2) (s:Int) hf hfd
 have hb:.(B).brk r s=(decide (.(B).what r s="done") && !(fit.f s)):=rfl
 have a1:se (jb 2 (ci (aD 8) (ci (aD 9) ja))) (d2 fIx (d2 fIx (ag 2) (ag 6)) (ag 7)) (kJ t ys fit (.lst .(A)) b (.v .(Ak)) (.v .(R)) s8 s9)= .nx (kJ t ys fit (.lst .(A)) b (.v .(Ak)) (.v .(R)) (.v (.str (.(B).what r s))) (.v (.int (.(B).there r s:Nat)))):=by
  show(((fIx (aY (Dr t 0)) .(Ak)).bind fun x=>fIx x .(R)).st _)=_
  rw[e1,aq,e2,br,hd]
  rfl
 have kd:=hM.kind r s hr hs
 have gm:∀(hbb:.(B).brk r s=false) (he:¬isEnd (.(B).what r s)),dA .(B) (mkA l) r s=cB (.(B).wy (.(B).what r s) s) (mkA l (.(B).there r s)):=fun hbb he=>lB (hM.wy _ _) hbb he
 have ge:∀(hbb:.(B).brk r s=false) (he:isEnd (.(B).what r s)),dA .(B) (mkA l) r s=true:=fun hbb he=>oC hbb he
 have gb:.(B).brk r s=true->dA .(B) (mkA l) r s=false:=fun hbb=>by unfold dA;rw[hbb];rfl
 generalize hW:.(B).what r s=W at *
 generalize hT:.(B).there r s=T at *
 unfold kh
 rw[aF,a1,ar,aF,cZ]
 have tt:f8 (aU (d2 cD (ag 8) (dC (.str "done")))) (f9 (aU (aO aK (gF (n+2)) (af 3) (ae (af 7) ah)))) (kJ t ys fit (.lst .(A)) b (.v .(Ak)) (.v .(R)) (.v (.str W)) (.v (.int (T:Nat))))= .ok (.(B).brk r s):=by
  rw[hb]
  by_cases h:W="done"
  ·have h':(W == ("done":Str))=true:=by simpa using h
   simp[h',e3,h]
  ·have h':(W == ("done":Str))=false:=by simpa using h
   simp[h',h]
 rw[tt]
 cases hbb:.(B).brk r s with
 |true=>exact .inr ⟨gb hbb,rfl⟩
 |false =>
  rw[cn,cr,ar,cZ]
  by_cases he:isEnd W
  ·refine .inl ⟨ge hbb he,.v (.str W),.v (.int (T:Nat)),?_⟩
   rw[pk]
   show ED (yt ((fJ true (.str W) (.tup [.str "done",.str "stopped",.str "hung"])).bind _) _ _) _ _ _=_
   rw[zd he]
   rfl
  ·rcases kd with q|⟨q,hT16⟩
   ·exact absurd q he
   ·have e4:bp cV (gF (n+2)) (bB ys) [.str W,.int (s:Int)]= .ok (.int ((.(B).wy W s:Nat):Int)):=mN ys (n+1) q hs
    have e5:=JE hr0 (r:=T) (by rw[hl];exact hT16)
    have e6:=tQ (w:=.(B).wy W s) (hM.wy _ _) (Cq hr0 T)
    have c2:aU (d2 iE (d2 dj (aO cV (gF (n+2)) (af 4) (ae (af 8) (ae (af 7) ah))) (d2 kA (dC (.int 65535)) (d2 fIx (ag 0) (ag 9)))) (dC (.int 0))) (kJ t ys fit (.lst .(A)) b (.v .(Ak)) (.v .(R)) (.v (.str W)) (.v (.int (T:Nat))))= .ok (!cB (.(B).wy W s) (mkA l T)):=by
     have m1:aO cV (gF (n+2)) (af 4) (ae (af 8) (ae (af 7) ah)) (kJ t ys fit (.lst .(A)) b (.v .(Ak)) (.v .(R)) (.v (.str W)) (.v (.int (T:Nat))))= .ok (.int ((.(B).wy W s:Nat):Int)):=e4
     have m2:d2 fIx (ag 0) (ag 9) (kJ t ys fit (.lst .(A)) b (.v .(Ak)) (.v .(R)) (.v (.str W)) (.v (.int (T:Nat))))= .ok (.int (mkA l T:Nat)):=e5
     have m3:d2 dj (aO cV (gF (n+2)) (af 4) (ae (af 8) (ae (af 7) ah))) (d2 kA (dC (.int 65535)) (d2 fIx (ag 0) (ag 9))) (kJ t ys fit (.lst .(A)) b (.v .(Ak)) (.v .(R)) (.v (.str W)) (.v (.int (T:Nat))))= .ok (.int (Builtin.bitAnd ((.(B).wy W s:Nat):Int) (65535-((mkA l T:Nat):Int)))):=by
      rw[gp,m1,gp,m2];rfl
     rw[fV,gp,m3]
     show Rx.ok (!(Builtin.bitAnd ((.(B).wy W s:Nat):Int) (65535-((mkA l T:Nat):Int)) == 0))=_
     rw[e6]
    have c1:aU (d2 (fJ true) (ag 8) (eT (ae (dC (.str "done")) (ae (dC (.str "stopped")) (ae (dC (.str "hung")) ah))))) (kJ t ys fit (.lst .(A)) b (.v .(Ak)) (.v .(R)) (.v (.str W)) (.v (.int (T:Nat))))= .ok true:=by
     show((fJ true (.str W) (.tup [.str "done",.str "stopped",.str "hung"])).bind _)=_
     rw[tM q];rfl
    rw[pk,c1,v8,c2,gm hbb he]
    cases cB (.(B).wy W s) (mkA l T) with
    |true=>exact .inl ⟨rfl,_,_,rfl⟩
    |false=>exact .inr ⟨rfl,rfl⟩
include ho hf hfd in
theorem pT(hN:t.ders.length<=600)(bef:Tr)(hb:bef.ok)(h1:bef.depth<n+2)(l:List Int)(hll:l.length<=1000) :
  gF (n+3) 28 [.lst .(A),bef.pv,aY (Dr t 0),fit.pv,bB ys]= .ok (.bl (stB .(B) (gdS ys) (gdS ys &&& bef.mk) l)):=by
 have hgl:gdS ys<65536:=qT _ (kn ys)
 have hl:=ft (Dr t 0) (by rw[bO];omega)
 rw[bO]at hl
 rw[g_zs,aB rfl]
 show fin (t6 (gF (n+2)) [.v (.lst .(A)),.v bef.pv,.v (aY (Dr t 0)),.v fit.pv,.v (bB ys),.no,.no,.no,.no,.no])=_
 unfold t6
 have c1:aU (d2 iE (aj bR (ae (ag 0) ah)) (aj bR (ae (ag 2) ah))) [.v (.lst .(A)),.v bef.pv,.v (aY (Dr t 0)),.v fit.pv,.v (bB ys),.no,.no,.no,.no,.no]= .ok (!decide (l.length=t.ders.length+1)):=by
  have m1:bR [.lst .(A)]= .ok (.int (l.length:Int)):=by
   show Rx.ok (PV.int (.(A).length:Nat))=_
   rw[List.length_map]
  have m2:((l.length:Int) == ((t.ders.length:Int)+1))=decide (l.length=t.ders.length+1):=by
   rw[Bool.eq_iff_iff,beq_iff_eq,decide_eq_true_eq];omega
  have m3:iE (.int (l.length:Int)) (.int ((t.ders.length:Int)+1))= .ok (.bl (!decide (l.length=t.ders.length+1))):=by
   rw[<-m2];rfl
  simp[m1,hl,m3]
 have hMN:.(B).N=t.ders.length+1:=rfl
 unfold stB
 rw[hMN,aF,cZ,zB,c1]
 by_cases hlen:l.length=t.ders.length+1
 ·rw[decide_eq_true hlen,Bool.not_true,EI,Bool.true_and]
  have hc:dComp ["_law_mark"] [] (aE (ag 0)) (aD 0) (iQ (aU (d2 p8 (ag 0) (dC (.int 0)))) (aU (d2 uN (ag 0) (dC (.int 65535))))) (af 0) [.v (.lst .(A)),.v bef.pv,.v (aY (Dr t 0)),.v fit.pv,.v (bB ys),.no,.no,.no,.no,.no]= .ok ((l.filter fun z=> !(decide (0<=z) && decide (z<=65535))).map PV.int):=by
   unfold dComp
   have hi:aE (ag 0) [.v (.lst .(A)),.v bef.pv,.v (aY (Dr t 0)),.v fit.pv,.v (bB ys),.no,.no,.no,.no,.no]= .ok .(A):=rfl
   rw[hi,aq,if_pos (by rw[List.length_map];show _<=16777216;omega)]
   refine eG (ps0:=[]) PV.int (fun z=> !(decide (0<=z) && decide (z<=65535))) PV.int l .no fun z _=>⟨?_,fun _=>rfl⟩
   by_cases h0:z<0
   ·have:¬0<=z:=by omega
    simp[h0,this]
   ·have hz0:0<=z:=by omega
    by_cases h5:z<=65535
    ·have hz1:¬65535<z:=by omega
     simp[h0,hz0,hz1,h5]
    ·have hz1:65535<z:=by omega
     simp[h0,hz0,hz1,h5]
  have c2:aU (d2 iE (aG (dComp ["_law_mark"] [] (aE (ag 0)) (aD 0) (iQ (aU (d2 p8 (ag 0) (dC (.int 0)))) (aU (d2 uN (ag 0) (dC (.int 65535))))) (af 0))) (aG ah)) [.v (.lst .(A)),.v bef.pv,.v (aY (Dr t 0)),.v fit.pv,.v (bB ys),.no,.no,.no,.no,.no]= .ok (!iZ l):=by
   have ha:=rg (l.filter fun z=> !(decide (0<=z) && decide (z<=65535)))
   have hz:(l.filter fun z=> !(decide (0<=z) && decide (z<=65535))).isEmpty=iZ l:=by
    unfold iZ
    rw[Bool.eq_iff_iff,List.isEmpty_iff,List.filter_eq_nil_iff,List.all_eq_true]
    simp only[Bool.not_eq_true',Bool.not_eq_false]
   rw[hz]at ha
   rw[fV,gp,cP,hc,cP]
   simp only[aq,gc,cq,ha]
  rw[c2]
  cases hr0:iZ l with
  |false=>simp
  |true =>
   have e1:=mM ys (n+1)
   have e2:=zc (n+1) (gdS ys)
   have s1:aS 5 (aj (gF (n+2) 27) (ae (aO gR (gF (n+2)) (af 4) ah) ah)) [.v (.lst .(A)),.v bef.pv,.v (aY (Dr t 0)),.v fit.pv,.v (bB ys),.no,.no,.no,.no,.no]= .nx (kJ t ys fit (.lst .(A)) bef.pv .no .no .no .no):=by
    simp[e1,e2]
    rfl
   rw[Bool.not_true,cn,cr,ar,aF,s1,ar,Bool.true_and]
   have hx0:=JE hr0 (r:=0) (by omega)
   have hi5:∀s6 s7 s8 s9,aE (ag 5) (kJ t ys fit (.lst .(A)) bef.pv s6 s7 s8 s9)= .ok ((bt (gdS ys)).map fun(i:Nat)=>PV.int (i:Int)):=fun _ _ _ _=>rfl
   have hl16:((bt (gdS ys)).map fun(i:Nat)=>PV.int (i:Int)).length<=sizeLine:=by rw[List.length_map];have:=iz (gdS ys);show _<=16777216;omega
   have hc3:dComp ["_law_setting"] [("_law_before",1),("_law_marks",0)] (aE (ag 5)) (aD 0) (f8 (aU (aO aK (gF (n+2)) (af 1) (ae (af 0) ah))) (aU (d2 cD (d2 dj (d2 gw (d2 fIx (ag 2) (dC (.int 0))) (ag 0)) (dC (.int 1))) (dC (.int 0))))) (af 0) (kJ t ys fit (.lst .(A)) bef.pv .no .no .no .no)= .ok (((bt (gdS ys)).filter fun s=>bef.f s && !(mkA l 0).testBit s).map fun(i:Nat)=>PV.int (i:Int)):=by
    unfold dComp
    rw[hi5,aq,if_pos hl16]
    refine eG (ps0:=[.v bef.pv,.v (.lst .(A))]) .(W) (fun s=>bef.f s && !(mkA l 0).testBit s) .(W) (bt (gdS ys)) .no fun s hs=>⟨?_,fun _=>rfl⟩
    have hs16:=(aW.mp hs).1
    have e3:bp aK (gF (n+2)) bef.pv [.int (s:Int)]= .ok (.bl (bef.f s)):=cg bef (n+2) (s:Int) hb h1
    have x1:d2 fIx (ag 2) (dC (.int 0)) [.v .(R),.v bef.pv,.v (.lst .(A))]= .ok (.int (mkA l 0:Nat)):=hx0
    have x2:aU (d2 cD (d2 dj (d2 gw (d2 fIx (ag 2) (dC (.int 0))) (ag 0)) (dC (.int 1))) (dC (.int 0))) [.v .(R),.v bef.pv,.v (.lst .(A))]= .ok (!(mkA l 0).testBit s):=by
     rw[fV,gp,gp,gp,x1]
     show((jc (jc (jc (Rx.ok (PV.int (mkA l 0:Nat))) (Rx.ok (PV.int (s:Int))) gw) (Rx.ok (PV.int 1)) dj) (Rx.ok (PV.int 0)) cD).bind _)=_
     rw[cq,xk _ hs16]
     show Rx.ok (Builtin.bitAnd (((mkA l 0:Nat):Int) / 2 ^ s) 1 == 0)=_
     rw[FV]
     cases (mkA l 0).testBit s <;> rfl
    have x3:aU (aO aK (gF (n+2)) (af 1) (ae (af 0) ah)) [.v .(R),.v bef.pv,.v (.lst .(A))]= .ok (bef.f s):=by
     rw[fV]
     show((bp aK (gF (n+2)) bef.pv [.int (s:Int)]).bind _)=_
     rw[e3];rfl
    rw[pk,x3]
    cases bef.f s
    ·rfl
    ·rw[v8,x2];rfl
   have c3:aU (d2 iE (aG (dComp ["_law_setting"] [("_law_before",1),("_law_marks",0)] (aE (ag 5)) (aD 0) (f8 (aU (aO aK (gF (n+2)) (af 1) (ae (af 0) ah))) (aU (d2 cD (d2 dj (d2 gw (d2 fIx (ag 2) (dC (.int 0))) (ag 0)) (dC (.int 1))) (dC (.int 0))))) (af 0))) (aG ah)) (kJ t ys fit (.lst .(A)) bef.pv .no .no .no .no)= .ok (!cB (gdS ys &&& bef.mk) (mkA l 0)):=by
    have ha:=rg ((((bt (gdS ys)).filter fun s=>bef.f s && !(mkA l 0).testBit s).map fun(i:Nat)=>(i:Int)))
    rw[List.map_map]at ha
    have hz:(((bt (gdS ys)).filter fun s=>bef.f s && !(mkA l 0).testBit s).map fun(i:Nat)=>(i:Int)).isEmpty=cB (gdS ys &&& bef.mk) (mkA l 0):=by
     rw[mR hgl,List.isEmpty_map]
    rw[hz]at ha
    rw[fV,gp,cP,hc3,cP]
    simp only[aq,gc,cq]
    show((iE (.lst (((bt (gdS ys)).filter fun s=>bef.f s && !(mkA l 0).testBit s).map (PV.int ∘ fun(i:Nat)=>(i:Int)))) (.lst [])).bind _)=_
    rw[ha];rfl
   unfold Cp
   rw[aF,cZ,c3]
   cases hw:cB (gdS ys &&& bef.mk) (mkA l 0) with
   |false=>simp
   |true =>
    rw[Bool.not_true,cn,cr,ar,Bool.true_and,aF,nV]
    have hrg:bA (ae (aj bR (ae (ag 2) ah)) ah) (kJ t ys fit (.lst .(A)) bef.pv .no .no .no .no)= .ok (.(N).map fun(i:Nat)=>PV.int (i:Int)):=by
     refine jy (k:=t.ders.length+1) ?_ (by omega)
     show bR [aY (Dr t 0)]=_
     rw[hl];rfl
    rw[hrg,br]
    rcases fw (g:=aD 6) (body:=pF (gF (n+2))) .(W) (fun ps=>∃s6 s7 s8 s9,ps=kJ t ys fit (.lst .(A)) bef.pv s6 s7 s8 s9) (fun r=>(bt (mkA l r &&& gdS ys)).all fun s=>dA .(B) (mkA l) r s) .(N) _ ⟨.no,.no,.no,.no,rfl⟩ (by
     rintro r hr ps ⟨s6,s7,s8,s9,rfl⟩
     have hr:=List.mem_range.mp hr
     refine⟨kJ t ys fit (.lst .(A)) bef.pv (.v .(Ak)) s7 s8 s9,rfl,?_⟩
     have hxr:=JE hr0 (r:=r) (by omega)
     have hc4:dComp ["_law_one"] [("_law_marks",0),("_law_room",6)] (aE (ag 5)) (aD 0) (aU (d2 cD (d2 dj (d2 gw (d2 fIx (ag 1) (ag 2)) (ag 0)) (dC (.int 1))) (dC (.int 1)))) (af 0) (kJ t ys fit (.lst .(A)) bef.pv (.v .(Ak)) s7 s8 s9)= .ok (((bt (gdS ys)).filter fun s=>(mkA l r).testBit s).map fun(i:Nat)=>PV.int (i:Int)):=by
      unfold dComp
      rw[hi5,aq,if_pos hl16]
      refine eG (ps0:=[.v (.lst .(A)),.v .(Ak)]) .(W) (fun s=>(mkA l r).testBit s) .(W) (bt (gdS ys)) .no fun s hs=>⟨?_,fun _=>rfl⟩
      have hs16:=(aW.mp hs).1
      have x1:d2 fIx (ag 1) (ag 2) [.v .(R),.v (.lst .(A)),.v .(Ak)]= .ok (.int (mkA l r:Nat)):=hxr
      rw[fV,gp,gp,gp,x1]
      show((jc (jc (jc (Rx.ok (PV.int (mkA l r:Nat))) (Rx.ok (PV.int (s:Int))) gw) (Rx.ok (PV.int 1)) dj) (Rx.ok (PV.int 1)) cD).bind _)=_
      rw[cq,xk _ hs16]
      show Rx.ok (Builtin.bitAnd (((mkA l r:Nat):Int) / 2 ^ s) 1 == 1)=_
      rw[jx]
     unfold pF
     rw[nV,yx,cP,hc4,<-xl]
     simp only[aq,br]
     rcases fw (g:=aD 7) (body:=kh (gF (n+2))) .(W) (fun ps=>∃s7 s8 s9,ps=kJ t ys fit (.lst .(A)) bef.pv (.v .(Ak)) s7 s8 s9) (fun s=>dA .(B) (mkA l) r s) (bt (mkA l r &&& gdS ys)) _ ⟨s7,s8,s9,rfl⟩ (by
      rintro s hs ps ⟨s7,s8,s9,rfl⟩
      refine⟨kJ t ys fit (.lst .(A)) bef.pv (.v .(Ak)) (.v .(R)) s8 s9,rfl,?_⟩
      rcases xm n t ho ys fit hf hfd bef.pv hlen hr0 hr (aW.mp hs).1 s8 s9 with⟨q,s8',s9',e⟩|⟨q,e⟩
      ·exact .inl ⟨q,_,⟨_,s8',s9',rfl⟩,e⟩
      ·exact .inr ⟨q,e⟩)with⟨q,ps',⟨s7',s8',s9',rfl⟩,e⟩|⟨q,e⟩
     ·exact .inl ⟨q,_,⟨_,s7',s8',s9',rfl⟩,e⟩
     ·exact .inr ⟨q,e⟩)with⟨q,ps',⟨s6,s7,s8,s9,rfl⟩,e⟩|⟨q,e⟩
    ·rw[e]
     have q:((List.range .(B).N).all fun r=>(bt (mkA l r &&& gdS ys)).all fun s=>dA .(B) (mkA l) r s)=true:=q
     rw[q];rfl
    ·rw[e]
     have q:((List.range .(B).N).all fun r=>(bt (mkA l r &&& gdS ys)).all fun s=>dA .(B) (mkA l) r s)=false:=q
     rw[q];rfl
 ·rw[decide_eq_false hlen]
  simp
end
end M62
end
noncomputable section
namespace M62
open PySem L2 DN
theorem rh{j:Int}(h0:0<=j)(h1:j<4):∃c,fIx (.str "abcd") (.int j)= .ok (.str c)/\mJ c:=by
 have:j=0\/j=1\/j=2\/j=3:=by omega
 rcases this with rfl|rfl|rfl|rfl
 ·exact⟨⟨#[97]⟩,rfl,.inl .(Y)⟩
 ·exact⟨⟨#[98]⟩,rfl,.inr (.inl .(Y))⟩
 ·exact⟨⟨#[99]⟩,rfl,.inr (.inr (.inl .(Y)))⟩
 ·exact⟨⟨#[100]⟩,rfl,.inr (.inr (.inr .(Y)))⟩
theorem oF{j:Int}(h0:0<=j)(h1:j<5):∃c,fIx (.str "PQRST") (.int j)= .ok (.str c)/\cy c:=by
 have:j=0\/j=1\/j=2\/j=3\/j=4:=by omega
 rcases this with rfl|rfl|rfl|rfl|rfl
 ·exact⟨⟨#[80]⟩,rfl,.inl .(Y)⟩
 ·exact⟨⟨#[81]⟩,rfl,.inr (.inl .(Y))⟩
 ·exact⟨⟨#[82]⟩,rfl,.inr (.inr (.inl .(Y)))⟩
 ·exact⟨⟨#[83]⟩,rfl,.inr (.inr (.inr (.inl .(Y))))⟩
 ·exact⟨⟨#[84]⟩,rfl,.inr (.inr (.inr (.inr .(Y))))⟩
def Cr(g:PV):Prop:=∃i x y,g= .tup [.int i,.str x,.str y]/\0<=i/\i<6/\mJ x/\mJ y
inductive lC:PV->Nat->Prop where
 |skip:lC (.tup [.str "skip"]) 1
 |stop:lC (.tup [.str "stop"]) 1
 |deed {c:Str} (h:cy c):lC (.tup [.str "deed",.str c]) 1
 |row {a b:PV} {m k:Nat} (h1:lC a m) (h2:lC b k):lC (.tup [.str "row",a,b]) (m+k+1)
 |ite {g a b:PV} {m k:Nat} (hg:Cr g) (h1:lC a m) (h2:lC b k):lC (.tup [.str "if",g,a,b]) (m+k+1)
 |whl {g a:PV} {m:Nat} (hg:Cr g) (h1:lC a m):lC (.tup [.str "while",g,a]) (m+1)
theorem kt(n:Nat)(z:Int):∃g,gF (n+1) 19 [.int z]= .ok g/\Cr g:=by
 rw[g_zj,aB rfl]
 show ∃g,fin (sS (gF n) [.v (.int z)])= .ok g/\Cr g
 obtain⟨x,ex,hx⟩:=rh (j:=z / 6 % 4) (by omega) (by omega)
 obtain⟨y,ey,hy⟩:=rh (j:=z / 24 % 4) (by omega) (by omega)
 unfold sS
 exact⟨.tup [.int (z % 6),.str x,.str y],by simp[ex,ey],z % 6,x,y,rfl,by omega,by omega,hx,hy⟩
theorem eW(n:Nat){g:PV}(h:Cr g):∃t:Tr,gF (n+1) 20 [g]= .ok t.pv/\t.ok/\t.depth<=2/\t.size<=4:=by
 obtain⟨i,x,y,rfl,h0,h6,hx,hy⟩:=h
 rw[g_zk,aB rfl]
 have j0:fIx (.tup [.int i,.str x,.str y]) (.int 0)= .ok (.int i):=rfl
 have j1:fIx (.tup [.int i,.str x,.str y]) (.int 1)= .ok (.str x):=rfl
 have j2:fIx (.tup [.int i,.str x,.str y]) (.int 2)= .ok (.str y):=rfl
 show ∃t:Tr,fin (sT (gF n) [.v (.tup [.int i,.str x,.str y]),.no,.no])= .ok t.pv/\_
 unfold sT
 have hi:i=0\/i=1\/i=2\/i=3\/i=4\/i=5:=by omega
 rcases hi with rfl|rfl|rfl|rfl|rfl|rfl
 ·exact⟨.named x,by simp[j0,j1,j2, -dD];rfl,hx,by simp[Tr.depth],by simp[Tr.size]⟩
 ·exact⟨.neg (.named x),by simp[j0,j1,j2, -dD];rfl,hx,by simp[Tr.depth],by simp[Tr.size]⟩
 ·exact⟨.both (.named x) (.neg (.named y)),by simp[j0,j1,j2, -dD];rfl,⟨hx,hy⟩,by simp[Tr.depth],by simp[Tr.size]⟩
 ·exact⟨.either (.named x) (.named y),by simp[j0,j1,j2, -dD];rfl,⟨hx,hy⟩,by simp[Tr.depth],by simp[Tr.size]⟩
 ·exact⟨.neg (.either (.named x) (.named y)),by simp[j0,j1,j2, -dD];rfl,⟨hx,hy⟩,by simp[Tr.depth],by simp[Tr.size]⟩
 ·rcases hx with rfl|rfl|rfl|rfl
  ·exact⟨.yes,by rfl,True.intro,by decide,by decide⟩
  ·exact⟨.yes,by rfl,True.intro,by decide,by decide⟩
  ·exact⟨.no,by rfl,True.intro,by decide,by decide⟩
  ·exact⟨.no,by rfl,True.intro,by decide,by decide⟩
theorem xn(n:Nat)(z:Int):∃v,gF (n+1) 21 [.int z]= .ok v/\lC v 1:=by
 rw[g_zl,aB rfl]
 show ∃v,fin (sU (gF n) [.v (.int z)])= .ok v/\lC v 1
 unfold sU
 by_cases h4:z % 5=4
 ·have hj:z / 5 % 3=0\/z / 5 % 3=1\/z / 5 % 3=2:=by omega
  rcases hj with hj|hj|hj
  ·exact⟨.tup [.str "skip"],by simp[h4,hj, -qm];rfl,.skip⟩
  ·exact⟨.tup [.str "stop"],by simp[h4,hj, -qm];rfl,.stop⟩
  ·exact⟨.tup [.str "skip"],by simp[h4,hj, -qm];rfl,.skip⟩
 ·obtain⟨c,e,hc⟩:=oF (j:=z / 5 % 5) (by omega) (by omega)
  have hb:(z % 5 == 4)=false:=by simpa using h4
  exact⟨.tup [.str "deed",.str c],by simp[hb,e],.deed hc⟩
def rj(xs:List PV)(s:Nat):Prop:=∃l:List (PV×Nat),xs=l.map (·.1)/\(∀p∈l,lC p.1 p.2)/\(l.map (·.2)).sum=s
theorem rj.push{xs:List PV}{s m:Nat}{v:PV}(h:rj xs s)(hv:lC v m):rj (xs++[v]) (s+m):=by
 obtain⟨l,rfl,h1,rfl⟩:=h
 refine⟨l++[(v,m)],by simp,fun p hp=> ?_,by simp⟩
 rcases List.mem_append.mp hp with z|z
 ·exact h1 p z
 ·rw[List.mem_singleton.mp z];exact hv
theorem rj.pop{xs:List PV}{s:Nat}(h:rj xs s)(hn:xs≠[]):∃ys v t m,xs=ys++[v]/\rj ys t/\lC v m/\t+m=s:=by
 obtain⟨l,rfl,h1,rfl⟩:=h
 have hl:l≠[]:=by intro z;subst z;exact hn rfl
 obtain⟨l',p,rfl⟩:∃l' p,l=l'++[p]:=⟨l.dropLast,l.getLast hl,(List.dropLast_concat_getLast hl).symm⟩
 exact⟨l'.map (·.1),p.1,(l'.map (·.2)).sum,p.2,by simp,⟨l',rfl,fun q hq=>h1 q (by simp[hq]),rfl⟩,h1 p (by simp),by simp⟩
theorem gu{k:Nat}(h:k<=1000):k<sizeLine:=by show k<16777216;omega
theorem Cr.depth{g:PV}(h:Cr g):g.depth=1:=by
 obtain⟨i,x,y,rfl,_⟩:=h
 simp[PV.depth,aP]
theorem lC.depth{v:PV}{m:Nat}(h:lC v m):v.depth<=m+1:=by
 induction h with
 |skip=>simp[PV.depth,aP]
 |stop=>simp[PV.depth,aP]
 |deed h=>simp[PV.depth,aP]
 |row _ _ i1 i2=>simp[PV.depth,aP];omega
 |ite hg _ _ i1 i2=>simp[PV.depth,aP,hg.depth];omega
 |whl hg h1 i1=>simp[PV.depth,aP,hg.depth];omega
theorem rj.depth:∀{xs:List PV} {s:Nat},rj xs s->aP xs<=s+1:=by
 rintro xs s ⟨l,rfl,h1,rfl⟩
 induction l with
 |nil=>simp[aP]
 |cons p l ih =>
  have i1:=ih fun q hq=>h1 q (List.mem_cons_of_mem _ hq)
  have i2:=(h1 p List.mem_cons_self).depth
  simp only[List.map_cons,aP,List.sum_cons]
  omega
theorem xo{xs:List PV}(h:aP xs<90):cD (.lst xs) (.lst [])= .ok (.bl xs.isEmpty):=by
 unfold cD
 rw[if_pos (by rw[PV.depth];omega),iR]
 cases xs with
 |nil=>rfl
 |cons x xs=>rw[if_neg (by simp)];rfl
abbrev oG(zs:List Int)(xs:List PV)(s2 s3 s4:Sl):aX:=[.v (.lst (zs.map PV.int)),.own (.lst xs),s2,s3,s4]
theorem tR(n:Nat)(zs:List Int){xs:List PV}{s k:Nat}(z:Int)(s3 s4:Sl)(hlen:xs.length<=k)(hS:rj xs s)(hs:s<=k)(hk:k<63) :
  ∃xs' s' s3' s4',kg (gF (n+1)) (oG zs xs (.v (.int z)) s3 s4)= .nx (oG zs xs' (.v (.int z)) s3' s4')/\xs'.length<=k+1/\rj xs' s'/\s'<=k+1/\xs'≠[]:=by
 have eqn:=xo (xs:=xs) (by have:=hS.depth;omega)
 have hl0:xs.length<sizeLine:=gu (by omega)
 have t1:aU (d2 cD (ag 1) (aG ah)) (oG zs xs (.v (.int z)) (.v (.int (z % 8))) s4)= .ok xs.isEmpty:=by
  show((cD (.lst xs) (.lst [])).bind _)=_
  rw[eqn];rfl
 have tt:iQ (aU (d2 cD (ag 1) (aG ah))) (iQ (aU (d2 p8 (ag 3) (dC (.int 3)))) (f8 (aU (d2 uN (ag 3) (dC (.int 3)))) (aU (d2 cD (aj bR (ae (ag 1) ah)) (dC (.int 1)))))) (oG zs xs (.v (.int z)) (.v (.int (z % 8))) s4)= .ok (xs.isEmpty || (decide (z % 8<3) || (decide (z % 8>3) && decide (xs.length=1)))):=by
  rw[zB,t1]
  cases he:xs.isEmpty with
  |true=>rfl
  |false =>
   by_cases w0:z % 8<3
   ·simp[w0]
   ·by_cases w3:z % 8>3
    ·have:(((xs.length:Nat):Int) == 1)=decide (xs.length=1):=by rw[Bool.eq_iff_iff,beq_iff_eq,decide_eq_true_eq];omega
     have w3':3<z % 8:=w3
     have hbl:bR [.lst xs]= .ok (.int (xs.length:Int)):=rfl
     by_cases w1:xs.length=1
     ·have w1':((xs.length:Nat):Int)=1:=by omega
      simp[w0,w3',w1',Ow.pv,w1]
     ·have w1':¬((xs.length:Nat):Int)=1:=by omega
      simp[w0,w3',w1',Ow.pv,w1]
    ·have w3':¬3<z % 8:=w3
     simp[w0,w3']
 have st3:aS 3 (d2 bD (ag 2) (dC (.int 8))) (oG zs xs (.v (.int z)) s3 s4)= .nx (oG zs xs (.v (.int z)) (.v (.int (z % 8))) s4):=by
  simp
 unfold kg
 rw[aF,st3,ar,cZ,tt]
 cases hc:(xs.isEmpty || (decide (z % 8<3) || (decide (z % 8>3) && decide (xs.length=1)))) with
 |true =>
  obtain⟨v,ev,hv⟩:=xn n (z / 8)
  refine⟨xs++[v],_,.v (.int (z % 8)),s4,?_,by simp;omega,hS.push hv,by omega,by simp⟩
  rw[fe]
  simp[ev,hl0]
 |false =>
  rw[Bool.or_eq_false_iff,Bool.or_eq_false_iff]at hc
  obtain⟨h1,h2,h3⟩:=hc
  have hne:xs≠[]:=by intro q;subst q;cases h1
  have w0:¬z % 8<3:=by simpa using h2
  rw[cn]
  by_cases w3:z % 8=3
  ·obtain⟨ys,v,t,m,rfl,hT,hv,rfl⟩:=hS.pop hne
   obtain⟨g,eg,hg⟩:=kt n (z / 8)
   have hl:ys.length<sizeLine:=gu (by simp at hlen;omega)
   refine⟨ys++[.tup [.str "while",g,v]],_,.v (.int (z % 8)),s4,?_,by simp at hlen ⊢;omega,hT.push (.whl hg hv),by omega,by simp⟩
   simp[w3,eg,hl]
  ·have w3':z % 8>3:=by omega
   have b3:(z % 8 == 3)=false:=by simpa using w3
   have w1:xs.length≠1:=by
    intro q
    rw[decide_eq_true w3',decide_eq_true q]at h3;cases h3
   obtain⟨ys,v2,t,m,rfl,hT,hv2,rfl⟩:=hS.pop hne
   have hn:ys≠[]:=by intro q;subst q;exact w1 rfl
   obtain⟨us,v1,t',m',rfl,hT',hv1,rfl⟩:=hT.pop hn
   have hl:us.length<sizeLine:=gu (by simp at hlen;omega)
   by_cases w6:z % 8<6
   ·refine⟨us++[.tup [.str "row",v1,v2]],_,.v (.int (z % 8)),.v v2,?_,by simp at hlen ⊢;omega,hT'.push (.row hv1 hv2),by omega,by simp⟩
    simp[b3,w6,hl,jV,jW, -List.append_assoc]
   ·obtain⟨g,eg,hg⟩:=kt n (z / 8)
    refine⟨us++[.tup [.str "if",g,v1,v2]],_,.v (.int (z % 8)),.v v2,?_,by simp at hlen ⊢;omega,hT'.push (.ite hg hv1 hv2),by omega,by simp⟩
    simp[b3,w6,hl,eg,jV,jW, -List.append_assoc]
theorem lD(n:Nat)(zs:List Int):∀(l:List Int) (k s:Nat) (xs:List PV) (s2 s3 s4:Sl),xs.length<=k->rj xs s->s<=k->k+l.length<=63 ->
  ∃xs' s' s2' s3' s4',bS (aD 2) (kg (gF (n+1))) .(A) (oG zs xs s2 s3 s4)= .nx (oG zs xs' s2' s3' s4')/\xs'.length<=k+l.length/\rj xs' s'/\s'<=k+l.length
 |[],k,s,xs,s2,s3,s4,h1,h2,h3,_=>⟨xs,s,s2,s3,s4,rfl,h1,h2,h3⟩
 |z::l,k,s,xs,s2,s3,s4,h1,h2,h3,h4=>by
  have h4:k+(l.length+1)<=63:=h4
  have eg:aD 2 (PV.int z) (oG zs xs s2 s3 s4)= .ok (oG zs xs (.v (.int z)) s3 s4):=rfl
  obtain⟨xs',s',s3',s4',e,e1,e2,e3,_⟩:=tR n zs z s3 s4 h1 h2 h3 (by omega)
  obtain⟨xs'',s'',t2,t3,t4,f,f1,f2,f3⟩:=lD n zs l (k+1) s' xs' (.v (.int z)) s3' s4' e1 e2 e3 (by omega)
  refine⟨xs'',s'',t2,t3,t4,?_,by simp;omega,f2,by simp;omega⟩
  rw[List.map_cons,bS,eg,br,e]
  exact f
theorem lE(n:Nat)(zs:List Int)(j:Nat):∀(k:Nat) (xs:List PV) (s:Nat) (s2 s3 s4:Sl),xs.length<=k+1->k<=63->rj xs s ->
  ∃xs' s' s4',cu (fW (aU (d2 uN (aj bR (ae (ag 1) ah)) (dC (.int 1))))) (mH (gF (n+1))) (k+1+j) (oG zs xs s2 s3 s4)=some (.nx (oG zs xs' s2 s3 s4'))/\xs'.length<=1/\rj xs' s'/\s'<=s+k
 |k,xs,s,s2,s3,s4,h1,h2,hS=>by
  have tt:fW (aU (d2 uN (aj bR (ae (ag 1) ah)) (dC (.int 1)))) (oG zs xs s2 s3 s4)= .ok (decide (1<xs.length),oG zs xs s2 s3 s4):=by
   have:decide ((1:Int)<((xs.length:Nat):Int))=decide (1<xs.length):=by
    rw[decide_eq_decide];omega
   simp[Ow.pv]
   omega
  rw[show k+1+j=(k+j)+1 by omega,cu,tt]
  by_cases h:1<xs.length
  ·rw[decide_eq_true h]
   dsimp only
   obtain⟨ys,v2,t,m,rfl,hT,hv2,rfl⟩:=hS.pop (by intro q;subst q;simp at h)
   obtain⟨us,v1,t',m',rfl,hT',hv1,rfl⟩:=hT.pop (by intro q;subst q;simp at h)
   have hl:us.length<sizeLine:=gu (by simp at h1;omega)
   have eb:mH (gF (n+1)) (oG zs (us++[v1]++[v2]) s2 s3 s4)= .nx (oG zs (us++[.tup [.str "row",v1,v2]]) s2 s3 (.v v2)):=by
    unfold mH
    simp[hl,jV,jW, -List.append_assoc]
   rw[eb]
   obtain⟨k,rfl⟩:∃k',k=k'+1:=⟨k-1,by simp at h1 h;omega⟩
   obtain⟨xs',s',s4',e,e1,e2,e3⟩:=lE n zs j k (us++[.tup [.str "row",v1,v2]]) _ s2 s3 (.v v2) (by simp at h1 ⊢;omega) (by omega) (hT'.push (.row hv1 hv2))
   exact⟨xs',s',s4',e,e1,e2,by omega⟩
  ·rw[decide_eq_false h]
   exact⟨xs,s,s4,rfl,by omega,hS,by omega⟩
termination_by k=>k
theorem zh(n:Nat)(zs:List Int)(hz:zs.length<=63):∃v m,gF (n+2) 22 [.lst (zs.map PV.int)]= .ok v/\lC v m/\m<=2*zs.length+1:=by
 rw[g_zm,aB rfl]
 show ∃v m,fin (sV (gF (n+1)) [.v (.lst (zs.map PV.int)),.no,.no,.no,.no])= .ok v/\_
 obtain⟨xs,s,s2,s3,s4,e1,f1,f2,f3⟩:=lD n zs zs 0 0 [] .no .no .no .(Ao) ⟨[],rfl,(fun p hp=>by cases hp),rfl⟩ .(Ao) (by omega)
 obtain⟨xs',s',s4',e2,g1,g2,g3⟩:=lE n zs (99999-zs.length) zs.length xs s s2 s3 s4 (by omega) hz f2
 rw[show zs.length+1+(99999-zs.length)=100000 by omega]at e2
 have e1:sFor (aE (af 0)) (aD 2) (kg (gF (n+1))) [.v (.lst (zs.map PV.int)),.own (.lst []),.no,.no,.no]= .nx (oG zs xs s2 s3 s4):=e1
 have o1:il 1 ah [.v (.lst (zs.map PV.int)),.no,.no,.no,.no]= .nx [.v (.lst (zs.map PV.int)),.own (.lst []),.no,.no,.no]:=rfl
 unfold sV
 rw[aF,o1,ar,aF,e1,ar,aF,iu,e2]
 simp only[Option.getD_some,ar]
 match xs',g1,g2 with
 |[],_,_ =>
  refine⟨.tup [.str "deed",.str "P"],1,?_,.deed (.inl rfl),by omega⟩
  rfl
 |[v],_,g2 =>
  obtain⟨ys,v',t,m,e,hT,hv,hm⟩:=g2.pop (by simp)
  have:ys=[]:=by
   have:=congrArg List.length e
   simp at this
   exact this
  subst this
  have:v=v':=by simpa using e
  subst this
  refine⟨v,m,?_,hv,by omega⟩
  rfl
 |_::_::_,g1,_=>simp at g1
theorem zi:∀{v:PV} {m:Nat},lC v m->∀n,m+1<n->∃t:St,gF n 23 [v]= .ok t.pv/\t.ok/\t.depth<=m+2/\t.size<=5*m/\t.ders.length<=m:=by
 intro v m h
 induction h with
 |skip =>
  intro n hn
  obtain⟨k,rfl⟩:∃k,n=k+1:=⟨n-1,by omega⟩
  exact⟨.skip,rfl,True.intro,by decide,by decide,by decide⟩
 |stop =>
  intro n hn
  obtain⟨k,rfl⟩:∃k,n=k+1:=⟨n-1,by omega⟩
  exact⟨.stop,rfl,True.intro,by decide,by decide,by decide⟩
 |deed h =>
  intro n hn
  obtain⟨k,rfl⟩:∃k,n=k+1:=⟨n-1,by omega⟩
  exact⟨.deed _,rfl,h,by simp[St.depth],by simp[St.size],by simp[St.ders]⟩
 | @row a b m k h1 h2 i1 i2 =>
  intro n hn
  obtain⟨j,rfl⟩:∃j,n=j+1:=⟨n-1,by omega⟩
  obtain⟨t1,e1,o1,d1,s1,r1⟩:=i1 j (by omega)
  obtain⟨t2,e2,o2,d2,s2,r2⟩:=i2 j (by omega)
  refine⟨.row t1 t2,?_,⟨o1,o2⟩,by show max t1.depth t2.depth+1<=_;omega,by show t1.size+t2.size+1<=_;omega,by simp[St.ders];omega⟩
  rw[g_zn,aB rfl]
  show fin (kI (gF j) [.v (.tup [.str "row",a,b])])=_
  have j0:fIx (.tup [.str "row",a,b]) (.int 0)= .ok (.str "row"):=rfl
  have j1:fIx (.tup [.str "row",a,b]) (.int 1)= .ok a:=rfl
  have j2:fIx (.tup [.str "row",a,b]) (.int 2)= .ok b:=rfl
  have n1:(("row":Str) == "skip")=false:=by decide +kernel
  have n2:(("row":Str) == "stop")=false:=by decide +kernel
  have n3:(("row":Str) == "deed")=false:=by decide +kernel
  unfold kI
  simp[j0,j1,j2, -dD,n1,n2,n3,e1,e2,St.pv]
 | @ite g a b m k hg h1 h2 i1 i2 =>
  intro n hn
  obtain⟨j,rfl⟩:∃j,n=j+2:=⟨n-2,by omega⟩
  obtain⟨t1,e1,o1,d1,s1,r1⟩:=i1 (j+1) (by omega)
  obtain⟨t2,e2,o2,d2,s2,r2⟩:=i2 (j+1) (by omega)
  obtain⟨t0,e0,o0,d0,s0⟩:=eW j hg
  refine⟨.choice t0 t1 t2,?_,⟨o0,o1,o2⟩,by show max t0.depth (max t1.depth t2.depth)+1<=_;omega,by show t0.size+t1.size+t2.size+1<=_;omega,by simp[St.ders];omega⟩
  rw[g_zn,aB rfl]
  show fin (kI (gF (j+1)) [.v (.tup [.str "if",g,a,b])])=_
  have j0:fIx (.tup [.str "if",g,a,b]) (.int 0)= .ok (.str "if"):=rfl
  have j1:fIx (.tup [.str "if",g,a,b]) (.int 1)= .ok g:=rfl
  have j2:fIx (.tup [.str "if",g,a,b]) (.int 2)= .ok a:=rfl
  have j3:fIx (.tup [.str "if",g,a,b]) (.int 3)= .ok b:=rfl
  have n1:(("if":Str) == "skip")=false:=by decide +kernel
  have n2:(("if":Str) == "stop")=false:=by decide +kernel
  have n3:(("if":Str) == "deed")=false:=by decide +kernel
  have n4:(("if":Str) == "row")=false:=by decide +kernel
  unfold kI
  simp[j0,j1,j2,j3, -dD,n1,n2,n3,n4,e0,e1,e2,St.pv]
 | @whl g a m hg h1 i1 =>
  intro n hn
  obtain⟨j,rfl⟩:∃j,n=j+2:=⟨n-2,by omega⟩
  obtain⟨t1,e1,o1,d1,s1,r1⟩:=i1 (j+1) (by omega)
  obtain⟨t0,e0,o0,d0,s0⟩:=eW j hg
  refine⟨.loop t0 t1,?_,⟨o0,o1⟩,by show max t0.depth t1.depth+1<=_;omega,by show t0.size+t1.size+1<=_;omega,by simp[St.ders];omega⟩
  rw[g_zn,aB rfl]
  show fin (kI (gF (j+1)) [.v (.tup [.str "while",g,a])])=_
  have j0:fIx (.tup [.str "while",g,a]) (.int 0)= .ok (.str "while"):=rfl
  have j1:fIx (.tup [.str "while",g,a]) (.int 1)= .ok g:=rfl
  have j2:fIx (.tup [.str "while",g,a]) (.int 2)= .ok a:=rfl
  have n1:(("while":Str) == "skip")=false:=by decide +kernel
  have n2:(("while":Str) == "stop")=false:=by decide +kernel
  have n3:(("while":Str) == "deed")=false:=by decide +kernel
  have n4:(("while":Str) == "row")=false:=by decide +kernel
  have n5:(("while":Str) == "if")=false:=by decide +kernel
  unfold kI
  simp[j0,j1,j2, -dD,n1,n2,n3,n4,n5,e0,e1,St.pv]
theorem jB(n:Nat)(ns:List Int)(k:Nat):∃z,gF (n+1) 17 [.lst .(Ae),.int (k:Int)]= .ok (.int z):=by
 rw[g_zh,aB rfl]
 show ∃z,fin (sR (gF n) [.v (.lst .(Ae)),.v (.int (k:Int))])= .ok (.int z)
 unfold sR
 by_cases h:k<ns.length
 ·have hi:iL .(Ae) (k:Int)=some (PV.int ns[k]):=by
   rw[eJ (by rw[List.getElem?_map,List.getElem?_eq_getElem h];rfl)]
  exact⟨ns[k],by simp[h,hi]⟩
 ·exact⟨0,by simp[h]⟩
end M62
end
noncomputable section
namespace M62
open PySem L2 DN
theorem ku(n:Nat)(z k:Int)(h0:0<=k):∃y,gF (n+1) 18 [.int z,.int k]= .ok (.int y):=by
 rw[g_zi,aB rfl]
 have ei:nT [false,false] 3 [.int z,.int k]=[.v (.int z),.v (.int k),.no]:=rfl
 rw[ei]
 unfold wP
 generalize hw:(Builtin.bitAnd z 2147483647+7919*k+1)*48271 % 2147483647=w
 have w1:0<=w/\w<2147483647:=by omega
 generalize hv:w*(w / 1009+69621) % 2147483647=v
 have v1:0<=v/\v<2147483647:=by omega
 have b1:(-18446744073709551616<w/\w<18446744073709551616):=by omega
 have b2:(-18446744073709551616<v/\v<18446744073709551616):=by omega
 have b3:0<=31*k+31:=by omega
 exact⟨_,by simp[hw,b1,hv,b2,b3];rfl⟩
theorem iD(n:Nat)(z:Int):∃t:Tr,(∃g,gF (n+1) 19 [.int z]= .ok g/\gF (n+1) 20 [g]= .ok t.pv)/\t.ok/\t.depth<=2:=by
 obtain⟨g,e,hg⟩:=kt n z
 obtain⟨t,e2,h1,h2,_⟩:=eW n hg
 exact⟨t,⟨g,e,e2⟩,h1,h2⟩
theorem tS(n:Nat)(z:Int):∃y:Sy,gF (n+2) 24 [.int z]= .ok y.pv/\y.ok 3:=by
 obtain⟨a,⟨ga,ea1,ea2⟩,oa,da⟩:=iD n (z / 4)
 obtain⟨b,⟨gb,eb1,eb2⟩,ob,db⟩:=iD n (z / 384)
 obtain⟨c,ec,hc⟩:=oF (j:=z / 36864 % 5) (by omega) (by omega)
 rw[g_zo,aB rfl]
 show ∃y:Sy,fin (sW (gF (n+1)) [.v (.int z),.no,.no,.no])=_/\_
 unfold sW
 by_cases h0:z % 4=0
 ·exact⟨.nowhere a,by simp[ea1,ea2,eb1,eb2,ec,h0];rfl,by simp[Sy.ok, *];omega⟩
 ·have q0:(z % 4 == 0)=false:=by simpa using h0
  by_cases h1:z % 4=1
  ·exact⟨.through a c,by simp[ea1,ea2,eb1,eb2,ec,q0,h1];rfl,by simp[Sy.ok, *];omega⟩
  ·have q1:(z % 4 == 1)=false:=by simpa using h1
   exact⟨.behind a c b,by simp[ea1,ea2,eb1,eb2,ec,q0,q1];rfl,by simp[Sy.ok, *];omega⟩
theorem pU(n:Nat)(l:List Int)(hl:l.length<=1000)(m:Int):∃ys:List Sy,gF (n+3) 25 [.lst .(A),.int m]= .ok .(I)/\(∀y∈ys,y.ok 3)/\ys.length<=l.length:=by
 obtain⟨ms,em,hm⟩:=ma l none (some m)
 have hml:ms.length<=l.length:=by omega
 have hf:∀z:Int,∃y:Sy,gF (n+2) 24 [.int z]= .ok y.pv/\y.ok 3:=tS n
 refine⟨ms.map fun z=>Classical.choose (hf z),?_,?_,by simpa using hml⟩
 ·rw[g_zp,aB rfl]
  show fin (sX (gF (n+2)) [.v (.lst .(A)),.v (.int m)])=_
  unfold sX
  have hc:dComp ["_law_cell"] [] (aE (aG (cT (ag 0) jn (g9 (af 1))))) (aD 0) bP (aj (gF (n+2) 24) (ae (af 0) ah)) [.v (.lst .(A)),.v (.int m)]= .ok (ms.map fun z=>(Classical.choose (hf z)).pv):=by
   unfold dComp
   have hi:aE (aG (cT (ag 0) jn (g9 (af 1)))) [.v (.lst .(A)),.v (.int m)]= .ok (ms.map PV.int):=by
    have:aE (aG (cT (ag 0) jn (g9 (af 1)))) [.v (.lst .(A)),.v (.int m)]= .ok (cutP .(A) none (some m)):=rfl
    rw[this,em]
   rw[hi,aq,if_pos (by rw[List.length_map];show _<=16777216;omega)]
   refine bE (ps0:=[]) PV.int (fun z=>(Classical.choose (hf z)).pv) ms .no fun z _=> ?_
   exact(Classical.choose_spec (hf z)).1
  rw[eF,cP,hc,List.map_map]
  rfl
 ·intro y hy
  obtain⟨z,_,rfl⟩:=List.mem_map.mp hy
  exact(Classical.choose_spec (hf z)).2
def G1(bef:Tr)(t:St)(fit:Tr)(ys:List Sy):Prop:=bef.ok/\bef.depth<=2/\fit.ok/\fit.depth<=2/\t.ok/\t.depth<=13/\t.ders.length<=11/\(∀y∈ys,y.ok 3)/\ys.length<=8
theorem xp(n:Nat)(hn:20<=n)(ns:List Int)(h63:ns.length<=63):∃bef t fit ys,gF (n+4) 26 [.lst .(Ae)]= .ok (.tup [bef.pv,t.pv,fit.pv,.lst .(J)])/\G1 bef t fit ys:=by
 obtain⟨zs,ez,hz⟩:=ma ns (some 2) (some 7)
 have hz5:zs.length<=5:=by
  have e2:HT.sIx ns.length ns.length (some 7)<=7:=by unfold HT.sIx;simp <;> omega
  have e1:HT.sIx ns.length 0 (some 2)=min 2 ns.length:=by unfold HT.sIx;simp <;> omega
  rw[e1]at hz
  omega
 obtain⟨v,m,et,hv,hm⟩:=zh (n+1) zs (by omega)
 obtain⟨t,em,o1,d1,s1,r1⟩:=zi hv (n+3) (by omega)
 obtain⟨z0,c0⟩:=jB (n+2) ns 0
 obtain⟨z1,c1⟩:=jB (n+2) ns 1
 have c0:gF (n+3) 17 [.lst .(Ae),.int 0]= .ok (.int z0):=c0
 have c1:gF (n+3) 17 [.lst .(Ae),.int 1]= .ok (.int z1):=c1
 obtain⟨z,ez9⟩:=ku (n+2) z0 9 (by decide)
 obtain⟨a,⟨ga,ea1,ea2⟩,oa,da⟩:=iD (n+2) (z / 4)
 obtain⟨b,⟨gb,eb1,eb2⟩,ob,db⟩:=iD (n+2) (z / 384)
 have hmx:∀k:Nat,∃y,gF (n+3) 18 [.int z1,.int (k:Int)]= .ok (.int y):=fun k=>ku (n+2) z1 k (by omega)
 obtain⟨bef,ob',db',eb'⟩:∃bef:Tr,bef.ok/\bef.depth<=2/\bef=if z / 36864 % 3=0 then .yes else a:=⟨_,by split;exact True.intro;exact oa,by split;exact Nat.zero_le _;exact da,rfl⟩
 obtain⟨ys,es,oy,ly⟩:=pU n ((List.range 3).map fun k=>Classical.choose (hmx k)) (by simp) (z % 4)
 rw[List.map_map]at es
 rw[g_zq,aB rfl]
 show ∃bef t fit ys,fin (sY (gF (n+3)) [.v (.lst .(Ae)),.no,.no,.no,.no,.no,.no])=_/\_
 unfold sY
 have s1:aS 1 (aj (gF (n+3) 23) (ae (aj (gF (n+3) 22) (ae (aG (cT (ag 0) (g9 (dC (.int 2))) (g9 (dC (.int 7))))) ah)) ah)) [.v (.lst .(Ae)),.no,.no,.no,.no,.no,.no]= .nx [.v (.lst .(Ae)),.v t.pv,.no,.no,.no,.no,.no]:=by
  simp[ez,et,em]
 have s2:aS 2 (aj (gF (n+3) 18) (ae (aj (gF (n+3) 17) (ae (af 0) (ae (dC (.int 0)) ah))) (ae (dC (.int 9)) ah))) [.v (.lst .(Ae)),.v t.pv,.no,.no,.no,.no,.no]= .nx [.v (.lst .(Ae)),.v t.pv,.v (.int z),.no,.no,.no,.no]:=by
  simp[c0,ez9]
 have s3:aS 3 (aj (gF (n+3) 20) (ae (aj (gF (n+3) 19) (ae (d2 bV (ag 2) (dC (.int 4))) ah)) ah)) [.v (.lst .(Ae)),.v t.pv,.v (.int z),.no,.no,.no,.no]= .nx [.v (.lst .(Ae)),.v t.pv,.v (.int z),.v a.pv,.no,.no,.no]:=by
  simp[ea1,ea2]
 have s4:aS 4 (aj (gF (n+3) 20) (ae (aj (gF (n+3) 19) (ae (d2 bV (ag 2) (dC (.int 384))) ah)) ah)) [.v (.lst .(Ae)),.v t.pv,.v (.int z),.v a.pv,.no,.no,.no]= .nx [.v (.lst .(Ae)),.v t.pv,.v (.int z),.v a.pv,.v b.pv,.no,.no]:=by
  simp[eb1,eb2]
 have s5:cO (aU (d2 cD (d2 bD (d2 bV (ag 2) (dC (.int 36864))) (dC (.int 3))) (dC (.int 0)))) (aS 3 (dC (.obj 1 []))) aQ [.v (.lst .(Ae)),.v t.pv,.v (.int z),.v a.pv,.v b.pv,.no,.no]= .nx [.v (.lst .(Ae)),.v t.pv,.v (.int z),.v bef.pv,.v b.pv,.no,.no]:=by
  subst eb'
  by_cases h:z / 36864 % 3=0
  ·simp[h];rfl
  ·have hb:(z / 36864 % 3 == 0)=false:=by simpa using h
   simp[hb,h]
 have hc:dComp ["_law_k"] [("_law_script",0)] (bA (ae (dC (.int 3)) ah)) (aD 0) bP (aj (gF (n+3) 18) (ae (aj (gF (n+3) 17) (ae (af 1) (ae (dC (.int 1)) ah))) (ae (af 0) ah))) [.v (.lst .(Ae)),.v t.pv,.v (.int z),.v bef.pv,.v b.pv,.no,.no]= .ok ((List.range 3).map (PV.int ∘ fun k=>Classical.choose (hmx k))):=by
  unfold dComp
  rw[jy (k:=3) rfl (by decide),aq,if_pos (by rw[List.length_map];decide)]
  refine bE (ps0:=[.v (.lst .(Ae))]) .(W) (PV.int ∘ fun k=>Classical.choose (hmx k)) (List.range 3) .no fun k _=> ?_
  have h0:aj (gF (n+3) 17) (ae (af 1) (ae (dC (.int 1)) ah)) [.v (.int (k:Int)),.v (.lst .(Ae))]= .ok (.int z1):=c1
  rw[dR,bZ,h0]
  exact Classical.choose_spec (hmx k)
 have s6:aS 5 (aj (gF (n+3) 25) (ae (aG (dComp ["_law_k"] [("_law_script",0)] (bA (ae (dC (.int 3)) ah)) (aD 0) bP (aj (gF (n+3) 18) (ae (aj (gF (n+3) 17) (ae (af 1) (ae (dC (.int 1)) ah))) (ae (af 0) ah))))) (ae (d2 bD (ag 2) (dC (.int 4))) ah))) [.v (.lst .(Ae)),.v t.pv,.v (.int z),.v bef.pv,.v b.pv,.no,.no]= .nx [.v (.lst .(Ae)),.v t.pv,.v (.int z),.v bef.pv,.v b.pv,.v .(I),.no]:=by
  rw[gI,dR,bZ,cP,hc]
  show(((ae (d2 bD (ag 2) (dC (.int 4))) ah [.v (.lst .(Ae)),.v t.pv,.v (.int z),.v bef.pv,.v b.pv,.no,.no]).bind fun x=>Rx.ok (PV.lst ((List.range 3).map (PV.int ∘ fun k=>Classical.choose (hmx k)))::x)).bind _).st _=_
  have:ae (d2 bD (ag 2) (dC (.int 4))) ah [.v (.lst .(Ae)),.v t.pv,.v (.int z),.v bef.pv,.v b.pv,.no,.no]= .ok [.int (z % 4)]:=by simp
  rw[this,aq,aq,es]
  rfl
 rw[aF,s1,ar,aF,s2,ar,aF,s3,ar,aF,s4,ar,aF,s5,ar,aF,s6,ar,aF]
 have hly:ys.length<=3:=by simpa using ly
 by_cases h:z / 110592 % 4=1
 ·refine⟨bef,t,b,[.nowhere .no,.through .yes "P",.behind .no "Q" bef,.behind b "R" .yes]++[.through .no "T"]++ys,?_,ob',db',ob,db,o1,by omega,by omega,?_,by simp;omega⟩
  ·have hz1:(5:Nat)<=sizeLine:=by decide
   have hz2:5+ys.length<=sizeLine:=by show _<=16777216;omega
   have hz3:ys.length+1+1+1+1+1<=sizeLine:=by show _<=16777216;omega
   simp[h,hz1,hz2,hz3,Nat.add_comm,Nat.add_left_comm];exact⟨rfl,rfl,rfl,rfl,rfl⟩
  ·intro y hy
   simp only[List.append_assoc,List.cons_append,List.nil_append,List.mem_cons]at hy
   rcases hy with rfl|rfl|rfl|rfl|rfl|hy
   ·exact⟨True.intro,by decide⟩
   ·exact⟨⟨True.intro,by decide⟩,.inl rfl⟩
   ·exact⟨⟨True.intro,by decide⟩,.inr (.inl rfl),ob',by omega⟩
   ·exact⟨⟨ob,by omega⟩,.inr (.inr (.inl rfl)),True.intro,by decide⟩
   ·exact⟨⟨True.intro,by decide⟩,.inr (.inr (.inr (.inr rfl)))⟩
   ·exact oy y hy
 ·have hb:(z / 110592 % 4 == 1)=false:=by simpa using h
  refine⟨bef,t,b,ys,?_,ob',db',ob,db,o1,by omega,by omega,oy,by omega⟩
  simp[hb]
end M62
end
noncomputable section
namespace M62
open PySem L2 DN
theorem tT{M:Mz}(hM:M.ok){g st:Nat}{mk:Nat->Nat}(hs:∀s,s<16->st.testBit s=true->g.testBit s=true)(hst:st<65536)(hw:∀d s s',s'<16->(M.wy d s).testBit s'=true->g.testBit s'=true)(hB:∀b∈tW st,M.In b)(hc:Cp M g st mk=true) :
  (∀r s,r<M.N->s<16->(mk r).testBit s=true->g.testBit s=true->dA M mk r s=true)/\ ∀k u,M.Pth (tW st) k u->M.In u/\(mk u.1).testBit u.2=true/\g.testBit u.2=true:=by
 unfold Cp at hc
 rw[Bool.and_eq_true,fQ hst,List.all_eq_true]at hc
 obtain⟨h1,h2⟩:=hc
 have go:∀r s,r<M.N->s<16->(mk r).testBit s=true->g.testBit s=true->dA M mk r s=true:=fun r s hr hs' e1 e2 =>
  List.all_eq_true.mp (h2 r (List.mem_range.mpr hr)) s (aW.mpr ⟨hs',by rw[Nat.testBit_and,e1,e2];rfl⟩)
 refine⟨go,fun k=> ?_⟩
 induction k with
 |zero =>
  intro u hu
  have hi:=hB u hu
  obtain⟨s,hs',rfl⟩:=List.mem_map.mp hu
  obtain⟨q1,q2⟩:=aW.mp hs'
  exact⟨hi,h1 s q1 q2,hs s q1 q2⟩
 |succ k ih =>
  rintro v ⟨u,hu,hv⟩
  obtain⟨hi,e1,e2⟩:=ih u hu
  have hg:=go u.1 u.2 hi.1 hi.2 e1 e2
  unfold dA at hg
  rw[Bool.and_eq_true,List.all_eq_true]at hg
  refine⟨zT hM hi hv,hg.2 v hv,?_⟩
  unfold Mz.nx at hv
  split at hv
  ·cases hv
  ·obtain⟨s,hs',rfl⟩:=List.mem_map.mp hv
   obtain⟨q1,q2⟩:=aW.mp hs'
   exact hw _ _ s q1 q2
theorem oH{M:Mz}(hM:M.ok){g st:Nat}{mk:Nat->Nat}(hs:∀s,s<16->st.testBit s=true->g.testBit s=true)(hst:st<65536)(hw:∀d s s',s'<16->(M.wy d s).testBit s'=true->g.testBit s'=true)(hB:∀b∈tW st,M.In b)(hc:Cp M g st mk=true){k:Nat}(hn:M.Near (tW st) (some k)):False:=by
 obtain⟨go,h⟩:=tT hM hs hst hw hB hc
 obtain⟨_,v,hv,hb⟩:=hn
 obtain⟨hi,e1,e2⟩:=h k v hv
 have:=go v.1 v.2 hi.1 hi.2 e1 e2
 unfold dA at this
 rw[hb]at this
 cases this
noncomputable section
variable(n:Nat)(hn:30<=n){bef:Tr}{t:St}{fit:Tr}{ys:List Sy}(hD:G1 bef t fit ys)
include hD hn in
theorem gT(l:List Int)(hl:l.length<=1000):gF (n+7) 31 [.lst .(A),bef.pv,t.pv,fit.pv,.lst .(J)]= .ok (.bl true):=by
 obtain⟨h1,h2,h3,h4,h5,h6,h7,h8,h9⟩:=hD
 have e1:=jA (n+5) .(A)
 have e2:=ji n t h5 ys fit (by omega) (by omega) 3 h8 (by omega) (by omega) bef h1 (by omega) h3 (by omega) l hl
 have e3:=iB (n+5) t h5 (by omega) (by omega)
 have e4:=kr 3 ys h8 (by omega) (n+1) (by omega)
 have e5:=pT (n+3) t h5 ys fit h3 (by omega) (by omega) bef h1 (by omega) l hl
 obtain⟨w,e6,hw⟩:=lz n t h5 ys fit (by omega) (by omega) 3 h8 (by omega) (by omega) bef h1 (by omega) h3 (by omega)
 have fd:ba bK (bn t)= .ok (aY (Dr t 0)):=rfl
 have hgl:gdS ys<65536:=qT _ (kn ys)
 have key:stB .(B) (gdS ys) (gdS ys &&& bef.mk) l=true->iT i_z0d (kd w)= .ok (.bl true):=fun hq=>by
  unfold stB at hq
  rw[Bool.and_eq_true,Bool.and_eq_true]at hq
  rcases hw with⟨v,rfl,hg,hN,hdp⟩|⟨rc,vs,rfl,hQ⟩
  ·exfalso
   refine oH (jh t h5 ys fit) (fun s hs q=> ?_) (Nat.lt_of_le_of_lt Nat.and_le_left hgl) (fun d s s' hs q=> ?_) (pQ t ys fit _) hq.2.2 hN
   ·rw[Nat.testBit_and,Bool.and_eq_true]at q;exact q.1
   ·have q:(letm ys d s &&& gdS ys).testBit s'=true:=q
    rw[Nat.testBit_and,Bool.and_eq_true]at q;exact q.2
  ·rfl
 rw[g_zv,aB rfl]
 generalize hY:PV.lst .(J)=Y at *
 generalize hL:PV.lst .(A)=L at *
 generalize stB .(B) (gdS ys) (gdS ys &&& bef.mk) l=q at *
 show fin (t9 (gF (n+6)) [.v L,.v bef.pv,.v t.pv,.v fit.pv,.v Y,.no,.no])=_
 unfold t9
 have s1:aS 5 (aO cQ (gF (n+6)) (aj (gF (n+6) 54) (ae (ag 0) ah)) (ae (af 1) (ae (af 2) (ae (af 3) (ae (af 4) ah))))) [.v L,.v bef.pv,.v t.pv,.v fit.pv,.v Y,.no,.no]= .nx [.v L,.v bef.pv,.v t.pv,.v fit.pv,.v Y,.v (.bl q),.no]:=by
  have c:aj (gF (n+6) 54) (ae (ag 0) ah) [.v L,.v bef.pv,.v t.pv,.v fit.pv,.v Y,.no,.no]= .ok (.obj 18 [L]):=e1
  rw[gI,jT,c,aq]
  show((bp cQ (gF (n+6)) (.obj 18 [L]) [bef.pv,t.pv,fit.pv,Y]).st _)=_
  rw[e2];rfl
 have s2:aS 6 (aj (gF (n+6) 28) (ae (af 0) (ae (af 1) (ae (aZ bK (aj (gF (n+6) 53) (ae (af 2) ah))) (ae (af 3) (ae (aj (gF (n+6) 52) (ae (af 4) ah)) ah)))))) [.v L,.v bef.pv,.v t.pv,.v fit.pv,.v Y,.v (.bl q),.no]= .nx [.v L,.v bef.pv,.v t.pv,.v fit.pv,.v Y,.v (.bl q),.v (.bl q)]:=by
  simp[e3,e4,e5,fd]
 rw[aF,s1,ar,aF,s2,ar]
 have c1:iQ (f9 (aU (gM i_bool (ag 5)))) (aU (d2 iE (ag 5) (ag 6))) [.v L,.v bef.pv,.v t.pv,.v fit.pv,.v Y,.v (.bl q),.v (.bl q)]= .ok false:=by
  cases q <;> rfl
 rw[aF,cZ,c1,cn,cr,ar]
 have c2:aj (gF (n+6) 15) (ae (af 1) (ae (af 2) (ae (af 3) (ae (af 4) ah)))) [.v L,.v bef.pv,.v t.pv,.v fit.pv,.v Y,.v (.bl q),.v (.bl q)]= .ok w:=e6
 cases q with
 |false=>rfl
 |true =>
  have k1:=key rfl
  rw[eF,EJ]
  show fin ((yu (Rx.ok (PV.bl false)) _ _).st _)=_
  have k2:gM i_z0d (aj (gF (n+6) 15) (ae (af 1) (ae (af 2) (ae (af 3) (ae (af 4) ah))))) [.v L,.v bef.pv,.v t.pv,.v fit.pv,.v Y,.v (.bl true),.v (.bl true)]= .ok (.bl true):=by
   unfold gM
   rw[c2,aq]
   exact k1
  show fin ((gM i_z0d (aj (gF (n+6) 15) (ae (af 1) (ae (af 2) (ae (af 3) (ae (af 4) ah))))) [.v L,.v bef.pv,.v t.pv,.v fit.pv,.v Y,.v (.bl true),.v (.bl true)]).st _)=_
  rw[k2];rfl
end
end M62
end
noncomputable section
namespace M62
open PySem L2 DN
theorem JF(l:List Int)(m:Nat)(z:Int):.(A).set m (.int z)=(l.set m z).map PV.int:=(List.map_set ..).symm
theorem Cs(l:List Int)(m:Nat):.(A).eraseIdx m=(l.eraseIdx m).map PV.int:=by
 induction l generalizing m with
 |nil=>rfl
 |cons z l ih=>cases m with
  |zero=>rfl
  |succ m=>show PV.int z::.(A).eraseIdx m=_;rw[ih];rfl
theorem JH{l:List Int}{j:Int}(h0:0<=j)(h1:j<l.length):∃(m:Nat) (z:Int),j=(m:Int)/\m<l.length/\fIx (.lst .(A)) (.int j)= .ok (.int z)/\oT .(A).length j=some m:=by
 obtain⟨m,rfl⟩:∃m:Nat,j=(m:Int):=⟨j.toNat,by omega⟩
 have hm:m<l.length:=by omega
 refine⟨m,l[m],rfl,hm,?_,?_⟩
 ·show(match iL .(A) (m:Int)with|some w=>Rx.ok w|none=> .bad)=_
  rw[eJ (v:= .int l[m]) (by rw[List.getElem?_map,List.getElem?_eq_getElem hm];rfl)]
 ·unfold oT
  rw[if_pos h0,if_pos (by rw[List.length_map];exact h1)]
  simp
abbrev kK(L:PV)(z:Int)(l:List Int)(r s w:Int):aX:=[.v L,.v (.int z),.own (.lst .(A)),.v (.int r),.v (.int s),.v (.int w)]
theorem pV(n:Nat)(l:List Int)(hl:l.length<=100)(z:Int):∃l':List Int,gF (n+1) 29 [.lst .(A),.int z]= .ok (.lst (l'.map PV.int))/\l'.length<=l.length+1:=by
 rw[g_zt,aB rfl]
 show ∃l':List Int,fin (t7 (gF n) [.v (.lst .(A)),.v (.int z),.no,.no,.no,.no])=_/\_
 unfold t7
 have o1:il 2 (fG j8 (ae (ag 0) ah)) [.v (.lst .(A)),.v (.int z),.no,.no,.no,.no]= .nx [.v (.lst .(A)),.v (.int z),.own (.lst .(A)),.no,.no,.no]:=rfl
 rw[aF,o1,ar]
 have hd:∀l:List Int,aP .(A)=0:=by
  intro l
  induction l with
  |nil=>rfl
  |cons z l ih=>rw[List.map_cons,aP,ih];rfl
 have c1:aU (d2 cD (ag 2) (aG ah)) [.v (.lst .(A)),.v (.int z),.own (.lst .(A)),.no,.no,.no]= .ok l.isEmpty:=by
  have:=xo (xs:=l.map PV.int) (by rw[hd];decide)
  show((cD (.lst .(A)) (.lst [])).bind _)=_
  rw[this,List.isEmpty_map];rfl
 rw[aF,cZ,c1]
 cases l with
 |nil=>exact⟨[z % 65536],by simp,by simp⟩
 |cons y l0 =>
 generalize hl1:y::l0=l at *
 have hpos:0<l.length:=by rw[<-hl1];simp
 have he:l.isEmpty=false:=by rw[<-hl1];rfl
 rw[he,cn,cr,ar]
 generalize hL:PV.lst .(A)=L
 have hm0:0<=z / 8 % (l.length:Int):=Int.emod_nonneg _ (by omega)
 have hm1:z / 8 % (l.length:Int)<l.length:=Int.emod_lt_of_pos _ (by omega)
 obtain⟨m,x,hm,hml,hx,hix⟩:=JH hm0 hm1
 have s3:aS 3 (d2 bD (d2 bV (ag 1) (dC (.int 8))) (aj bR (ae (ag 2) ah))) [.v L,.v (.int z),.own (.lst .(A)),.no,.no,.no]= .nx [.v L,.v (.int z),.own (.lst .(A)),.v .(Ab),.no,.no]:=by
  have e1:aj bR (ae (ag 2) ah) [.v L,.v (.int z),.own (.lst .(A)),.no,.no,.no]= .ok (.int (l.length:Int)):=by
   show Rx.ok (PV.int (.(A).length:Nat))=_
   rw[List.length_map]
  have e2:bD (.int (z / 8)) (.int (l.length:Int))= .ok (.int (z / 8 % (l.length:Int))):=by
   have hne:l≠[]:=by rw[<-hl1];simp
   simp[bD,hne]
  rw[gI,gp,e1]
  show(((bD (.int (z / 8)) (.int (l.length:Int)))).st _)=_
  rw[e2,hm];rfl
 have s4:∀w,aS 4 (d2 bD (d2 bV (ag 1) (dC (.int 104))) (dC (.int 16))) [.v L,.v (.int z),.own (.lst .(A)),.v .(Ab),.no,w]= .nx [.v L,.v (.int z),.own (.lst .(A)),.v .(Ab),.v (.int (z / 104 % 16)),w]:=fun w=>rfl
 have s5:aS 5 (d2 bD (ag 1) (dC (.int 8))) [.v L,.v (.int z),.own (.lst .(A)),.v .(Ab),.v (.int (z / 104 % 16)),.no]= .nx (kK L z l (m:Int) (z / 104 % 16) (z % 8)):=rfl
 rw[aF,s3,ar,aF,s4,ar,aF,s5,ar]
 have hs0:0<=z / 104 % 16:=by omega
 have hs1:z / 104 % 16<16:=by omega
 rw[hm]at hx hix
 generalize hsv:z / 104 % 16=s at *
 have fx:∀w,d2 fIx (ag 2) (ag 3) (kK L z l (m:Int) s w)= .ok (.int x):=fun w=>hx
 have sh:∀w,d2 gL (dC (.int 1)) (ag 4) (kK L z l (m:Int) s w)= .ok (.int (1*2 ^ s.toNat)):=fun w=>by
  show(if 0<=s/\s<=1000000/\(1:Int).natAbs<2 ^ 64 then Rx.ok (PV.int (1*2 ^ s.toNat)) else .bad)=_
  rw[if_pos ⟨hs0,by omega,by decide⟩]
 have st:∀(w:Int) (d:DP) (v:Int),d (kK L z l (m:Int) s w)= .ok (.int v)->jd 2 (af 3) d (kK L z l (m:Int) s w)= .nx (kK L z (l.set m v) (m:Int) s w):=fun w d v h=>by
  unfold jd
  rw[h,br]
  show(match oT .(A).length (m:Int)with|some k=>Rs.nx ((kK L z l (m:Int) s w).set 2 (.own (.lst (.(A).set k (.int v)))))|none=> .bad)=_
  rw[hix]
  show Rs.nx _=_
  rw[JF]
  rfl
 have fin':∀(l':List Int) (w:Int),l'.length<=l.length+1->∃l'':List Int,fin (((Rs.nx (kK L z l' (m:Int) s w)).next (im (kC 2))))= .ok (.lst (l''.map PV.int))/\l''.length<=l.length+1:=fun l' w h=>⟨l',rfl,h⟩
 have len:∀v:Int,(l.set m v).length<=l.length+1:=fun v=>by rw[List.length_set];omega
 have cl:∀(w k:Int),aU (d2 p8 (ag 5) (dC (.int k))) (kK L z l (m:Int) s w)= .ok (decide (w<k)):=fun w k=>rfl
 have ce:∀(w k:Int),aU (d2 cD (ag 5) (dC (.int k))) (kK L z l (m:Int) s w)= .ok (w == k):=fun w k=>rfl
 generalize hw:z % 8=w at *
 rw[aF,cZ,cl]
 by_cases w2:w<2
 ·rw[decide_eq_true w2,fe,st w _ (Builtin.bitOr x (1*2 ^ s.toNat)) (by rw[gp,fx,sh];rfl)]
  exact fin' _ w (len _)
 rw[decide_eq_false w2,cn,cZ,cl]
 by_cases w4:w<4
 ·rw[decide_eq_true w4,fe,st w _ (Builtin.bitAnd x (Builtin.bitXor 65535 (1*2 ^ s.toNat))) (by rw[gp,fx,gp,sh];rfl)]
  exact fin' _ w (len _)
 rw[decide_eq_false w4,cn,cZ,ce]
 by_cases w5:w=4
 ·rw[show(w == 4)=true by simpa using w5,fe,st w _ 65535 rfl]
  exact fin' _ w (len _)
 rw[show(w == 4)=false by simpa using w5,cn,cZ,ce]
 by_cases w6:w=5
 ·rw[show(w == 5)=true by simpa using w6,fe,st w _ (z / 104 % 65536) rfl]
  exact fin' _ w (len _)
 rw[show(w == 5)=false by simpa using w6,cn,cZ,ce]
 by_cases w7:w=6
 ·have h3:z / 104 % 3=0\/z / 104 % 3=1\/z / 104 % 3=2:=by omega
  have hv:∃v:Int,d2 fIx (aG (ae (d2 gv (d2 fIx (ag 2) (ag 3)) (dC (.int 65536))) (ae (d2 kA (d2 fIx (ag 2) (ag 3)) (dC (.int 65536))) (ae (dC (.int 0)) ah)))) (d2 bD (d2 bV (ag 1) (dC (.int 104))) (dC (.int 3))) (kK L z l (m:Int) s w)= .ok (.int v):=by
   have a1:d2 gv (d2 fIx (ag 2) (ag 3)) (dC (.int 65536)) (kK L z l (m:Int) s w)= .ok (.int (x+65536)):=by rw[gp,fx];rfl
   have a2:d2 kA (d2 fIx (ag 2) (ag 3)) (dC (.int 65536)) (kK L z l (m:Int) s w)= .ok (.int (x-65536)):=by rw[gp,fx];rfl
   rw[gp,cP,bZ,a1,bZ,a2]
   show ∃v:Int,fIx (.lst [.int (x+65536),.int (x-65536),.int 0]) (.int (z / 104 % 3))= .ok (.int v)
   rcases h3 with q|q|q <;> rw[q]
   ·exact⟨_,rfl⟩
   ·exact⟨_,rfl⟩
   ·exact⟨_,rfl⟩
  obtain⟨v,hv⟩:=hv
  rw[show(w == 6)=true by simpa using w7,fe,st w _ v hv]
  exact fin' _ w (len _)
 rw[show(w == 6)=false by simpa using w7,cn,cZ]
 have c8:aU (d2 cD (d2 bD (d2 bV (ag 1) (dC (.int 104))) (dC (.int 2))) (dC (.int 0))) (kK L z l (m:Int) s w)= .ok (z / 104 % 2 == 0):=rfl
 rw[c8]
 cases z / 104 % 2 == 0 with
 |true =>
  rw[fe]
  have e1:cN (ii 2 (cK (d2 bD (d2 bV (ag 1) (dC (.int 208))) (dC (.int 65536))))) (kK L z l (m:Int) s w)= .nx (kK L z (l++[z / 208 % 65536]) (m:Int) s w):=by
   have hlt:.(A).length<sizeLine:=by rw[List.length_map];show _<16777216;omega
   show((if .(A).length<sizeLine then Rx.ok (PV.non,(kK L z l (m:Int) s w).set 2 (.own (.lst (l.map PV.int++[.int (z / 208 % 65536)])))) else .bad).st _)=_
   rw[if_pos hlt,show l.map PV.int++[.int (z / 208 % 65536)]=(l++[z / 208 % 65536]).map PV.int by simp]
   rfl
  rw[e1]
  exact fin' _ w (by simp)
 |false =>
  rw[cn]
  have e1:cN (iW 2 (af 3)) (kK L z l (m:Int) s w)= .nx (kK L z (l.eraseIdx m) (m:Int) s w):=by
   have hb:.(A).length<=1000000:=by rw[List.length_map];omega
   have hg:.(A)[m]? =some (.int (l[m]'hml)):=by rw[List.getElem?_map,List.getElem?_eq_getElem hml];rfl
   have e0:iW 2 (af 3) (kK L z l (m:Int) s w)= .ok (.int (l[m]'hml),kK L z (l.eraseIdx m) (m:Int) s w):=by
    unfold iW
    simp only[List.getElem?_cons_succ,List.getElem?_cons_zero,ql,aq]
    rw[if_pos hb,hix]
    simp only[hg,Cs,List.set_cons_succ,List.set_cons_zero]
   rw[va,e0]
   rfl
  rw[e1]
  exact fin' _ w (by have:=List.length_eraseIdx_le l m;omega)
end M62
end
noncomputable section
namespace M62
open PySem L2 DN
theorem pW{t:St}{ys:List Sy}{fit:Tr}{st:Nat}{w:PV}(h:Cn t ys fit st w):(iT i_z0d (kd w)= .ok (.bl false))\/ ∃rc:Nat->Nat,w= .obj 18 [.lst ((.(N).map fun(i:Nat)=>(rc i:Int)).map PV.int)]:=by
 rcases h with⟨v,rfl,_⟩|⟨rc,vs,rfl,_⟩
 ·exact .inl rfl
 ·exact .inr ⟨rc,by rw[List.map_map];rfl⟩
noncomputable section
variable(n:Nat)(hn:30<=n){bef:Tr}{t:St}{fit:Tr}{ys:List Sy}(hD:G1 bef t fit ys)
include hD hn in
theorem xq(ns:List Int):∃l:List Int,gF (n+7) 30 [.lst .(Ae),bef.pv,t.pv,fit.pv,.lst .(J)]= .ok (.lst .(A))/\l.length<=20:=by
 obtain⟨h1,h2,h3,h4,h5,h6,h7,h8,h9⟩:=hD
 have e3:=iB (n+5) t h5 (by omega) (by omega)
 have fd:ba bK (bn t)= .ok (aY (Dr t 0)):=rfl
 have hl:=ft (Dr t 0) (by rw[bO];omega)
 rw[bO]at hl
 obtain⟨z,ez⟩:=jB (n+5) ns 8
 have hmk:∀f:Tr,f.ok->f.depth<=2->∃w,gF (n+6) 15 [bef.pv,t.pv,f.pv,.lst .(J)]= .ok w/\Cn t ys f (gdS ys &&& bef.mk) w:=fun f hf hd=>lz n t h5 ys f (by omega) (by omega) 3 h8 (by omega) (by omega) bef h1 (by omega) hf (by omega)
 rw[g_zu,aB rfl]
 generalize hS:PV.lst .(Ae)=S at *
 generalize hY:PV.lst .(J)=Y at *
 show ∃l:List Int,fin (t8 (gF (n+6)) [.v S,.v bef.pv,.v t.pv,.v fit.pv,.v Y,.no,.no,.no])=_/\_
 unfold t8
 have s1:aS 5 (aj bR (ae (aZ bK (aj (gF (n+6) 53) (ae (af 2) ah))) ah)) [.v S,.v bef.pv,.v t.pv,.v fit.pv,.v Y,.no,.no,.no]= .nx [.v S,.v bef.pv,.v t.pv,.v fit.pv,.v Y,.v .(Al),.no,.no]:=by
  simp[e3,fd,hl]
 have s2:aS 6 (aj (gF (n+6) 17) (ae (af 0) (ae (dC (.int 8)) ah))) [.v S,.v bef.pv,.v t.pv,.v fit.pv,.v Y,.v .(Al),.no,.no]= .nx .(Ac):=by
  show((gF (n+6) 17 [S,.int 8]).st _)=_
  rw[show(PV.int 8)=PV.int ((8:Nat):Int) from rfl,ez];rfl
 have c1:aU (d2 uN (d2 bD (ag 6) (dC (.int 4))) (dC (.int 1))) .(Ac)= .ok (decide (z % 4>1)):=rfl
 have hrg:∀s7,bA (ae (af 5) ah) [.v S,.v bef.pv,.v t.pv,.v fit.pv,.v Y,.v .(Al),.v (.int z),s7]= .ok (.(N).map fun(i:Nat)=>PV.int (i:Int)):=fun s7=>jy (k:=t.ders.length+1) rfl (by omega)
 have hrl:(.(N).map fun(i:Nat)=>PV.int (i:Int)).length<=sizeLine:=by rw[List.length_map,List.length_range];show _<=16777216;omega
 rw[aF,s1,ar,aF,s2,ar,aF,cZ,c1]
 by_cases hz:z % 4>1
 ·rw[decide_eq_true hz,fe]
  have hf:∀i:Nat,∃y:Int,gF (n+6) 18 [.int (z / 4),.int (i:Int)]= .ok (.int y):=fun i=>ku (n+5) (z / 4) (i:Int) (by omega)
  have hc:dComp ["_law_room"] [("_law_cell",6)] (bA (ae (af 5) ah)) (aD 0) bP (d2 bD (aj (gF (n+6) 18) (ae (d2 bV (ag 1) (dC (.int 4))) (ae (af 0) ah))) (dC (.int 65536))) .(Ac)= .ok (.(N).map fun(i:Nat)=>PV.int (Classical.choose (hf i) % 65536)):=by
   unfold dComp
   rw[hrg,aq,if_pos hrl]
   refine bE (ps0:=[.v (.int z)]) .(W) (fun(i:Nat)=>PV.int (Classical.choose (hf i) % 65536)) .(N) .no fun i _=> ?_
   have e:=Classical.choose_spec (hf i)
   generalize Classical.choose (hf i)=y at *
   have m1:aj (gF (n+6) 18) (ae (d2 bV (ag 1) (dC (.int 4))) (ae (af 0) ah)) [.v (.int (i:Int)),.v (.int z)]= .ok (.int y):=e
   rw[gp,m1];rfl
  refine⟨.(N).map fun(i:Nat)=>Classical.choose (hf i) % 65536,?_,by rw[List.length_map,List.length_range];omega⟩
  rw[eF,cP,hc,List.map_map]
  rfl
 ·rw[decide_eq_false hz,cn,cr,ar]
  have h01:z % 4=0\/z % 4=1:=by omega
  obtain⟨f,hf,hfd,hfx⟩:∃f:Tr,f.ok/\f.depth<=2/\fIx (.lst [fit.pv,.obj 1 []]) (.int (z % 4))= .ok f.pv:=by
   rcases h01 with q|q
   ·exact⟨fit,h3,h4,by rw[q];rfl⟩
   ·exact⟨.yes,by trivial,by show(0:Nat)<=2;decide,by rw[q];rfl⟩
  obtain⟨w,ew,hw⟩:=hmk f hf hfd
  have s3:aS 7 (aj (gF (n+6) 15) (ae (af 1) (ae (af 2) (ae (d2 fIx (aG (ae (af 3) (ae (dC (.obj 1 [])) ah))) (d2 bD (ag 6) (dC (.int 4)))) (ae (af 4) ah))))) .(Ac)= .nx [.v S,.v bef.pv,.v t.pv,.v fit.pv,.v Y,.v .(Al),.v (.int z),.v w]:=by
   have x1:d2 fIx (aG (ae (af 3) (ae (dC (.obj 1 [])) ah))) (d2 bD (ag 6) (dC (.int 4))) .(Ac)= .ok f.pv:=hfx
   rw[gI,dR,bZ,bZ,bZ,x1]
   show((gF (n+6) 15 [bef.pv,t.pv,f.pv,Y]).st _)=_
   rw[ew];rfl
  rw[aF,s3,ar,aF,cZ]
  rcases pW hw with q|⟨rc,rfl⟩
  ·have c2:aU (gM i_z0d (ag 7)) [.v S,.v bef.pv,.v t.pv,.v fit.pv,.v Y,.v .(Al),.v (.int z),.v w]= .ok false:=by
    rw[fV]
    show((iT i_z0d (kd w)).bind _)=_
    rw[q];rfl
   rw[c2,cn,cr,ar]
   have hc:dComp ["_law_room"] [] (bA (ae (af 5) ah)) (aD 0) bP (dC (.int 65535)) [.v S,.v bef.pv,.v t.pv,.v fit.pv,.v Y,.v .(Al),.v (.int z),.v w]= .ok (.(N).map fun(i:Nat)=>PV.int 65535):=by
    unfold dComp
    rw[hrg,aq,if_pos hrl]
    exact bE (ps0:=[]) .(W) (fun(i:Nat)=>PV.int 65535) .(N) .no fun i _=>rfl
   refine⟨.(N).map fun(i:Nat)=>65535,?_,by rw[List.length_map,List.length_range];omega⟩
   rw[eF,cP,hc,List.map_map]
   rfl
  ·refine⟨.(N).map fun(i:Nat)=>(rc i:Int),?_,by rw[List.length_map,List.length_range];omega⟩
   rfl
abbrev iF(S L:PV)(bef:Tr)(t:St)(fit:Tr)(ys:List Sy)(s2 s3 s4 s5:Sl):aX:=[.v S,.v L,s2,s3,s4,s5,.v bef.pv,.v t.pv,.v fit.pv,.v .(I)]
theorem oI(n:Nat)(S:PV)(bef:Tr)(t:St)(fit:Tr)(ys:List Sy):∀(L:List Int) (l:List Int) (s2:Sl),l.length+L.length<=100 ->
  ∃(l':List Int) (s2':Sl),bS (aD 2) (mI (gF (n+1))) (L.map PV.int) (iF S (.lst .(A)) bef t fit ys s2 .no .no .no)= .nx (iF S (.lst (l'.map PV.int)) bef t fit ys s2' .no .no .no)/\l'.length<=l.length+L.length
 |[],l,s2,h=>⟨l,s2,rfl,Nat.le_refl _⟩
 |z::L,l,s2,h=>by
  rw[List.length_cons]at h
  obtain⟨l1,e1,h1⟩:=pV n l (by omega) z
  obtain⟨l',s2',e,hl'⟩:=oI n S bef t fit ys L l1 (.v (.int z)) (by omega)
  refine⟨l',s2',?_,by rw[List.length_cons];omega⟩
  have eg:aD 2 (PV.int z) (iF S (.lst .(A)) bef t fit ys s2 .no .no .no)= .ok (iF S (.lst .(A)) bef t fit ys (.v (.int z)) .no .no .no):=rfl
  have eb:mI (gF (n+1)) (iF S (.lst .(A)) bef t fit ys (.v (.int z)) .no .no .no)= .nx (iF S (.lst (l1.map PV.int)) bef t fit ys (.v (.int z)) .no .no .no):=by
   unfold mI
   show((gF (n+1) 29 [.lst .(A),.int z]).st _)=_
   rw[e1];rfl
  rw[List.map_cons,bS,eg,br,eb]
  exact e
end
theorem Cu(n:Nat)(hn:30<=n)(ns:List Int)(h:ns.length<=63):gF (n+9) 32 [.lst .(Ae)]= .ok (.bl true):=by
 obtain⟨bef,t,fit,ys,e1,hD⟩:=xp (n+4) (by omega) ns h
 obtain⟨l0,e2,hl0⟩:=xq (n+1) (by omega) hD ns
 obtain⟨z,ez⟩:=jB (n+7) ns 8
 obtain⟨ms,em,hm⟩:=ma ns (some 9) (some (9+z / 16 % 3))
 have hml:ms.length<=63:=by omega
 rw[g_zw,aB rfl]
 generalize hS:PV.lst .(Ae)=S at *
 show fin (tf (gF (n+8)) [.v S,.no,.no,.no,.no,.no,.no,.no,.no,.no])=_
 unfold tf
 have s1:se (jb 4 (ci (aD 6) (ci (aD 7) (ci (aD 8) (ci (aD 9) ja))))) (aj (gF (n+8) 26) (ae (af 0) ah)) [.v S,.no,.no,.no,.no,.no,.no,.no,.no,.no]= .nx [.v S,.no,.no,.no,.no,.no,.v bef.pv,.v t.pv,.v fit.pv,.v .(I)]:=by
  show((gF (n+8) 26 [S]).st _)=_
  rw[e1];rfl
 have s2:aS 1 (aj (gF (n+8) 30) (ae (af 0) .(Aj))) [.v S,.no,.no,.no,.no,.no,.v bef.pv,.v t.pv,.v fit.pv,.v .(I)]= .nx (iF S (.lst (l0.map PV.int)) bef t fit ys .no .no .no .no):=by
  show((gF (n+8) 30 [S,bef.pv,t.pv,fit.pv,.lst .(J)]).st _)=_
  rw[e2];rfl
 have ez':gF (n+8) 17 [S,.int 8]= .ok (.int z):=ez
 have cz:∀(L:PV) (a b c d:Sl),aj (gF (n+8) 17) (ae (af 0) (ae (dC (.int 8)) ah)) (iF S L bef t fit ys a b c d)= .ok (.int z):=fun L a b c d=>ez'
 have hi:aE (aG (cT (ag 0) (g9 (dC (.int 9))) (g9 (d2 gv (dC (.int 9)) (d2 bD (d2 bV (aj (gF (n+8) 17) (ae (af 0) (ae (dC (.int 8)) ah))) (dC (.int 16))) (dC (.int 3))))))) (iF S (.lst (l0.map PV.int)) bef t fit ys .no .no .no .no)= .ok (ms.map PV.int):=by
  have x1:d2 gv (dC (.int 9)) (d2 bD (d2 bV (aj (gF (n+8) 17) (ae (af 0) (ae (dC (.int 8)) ah))) (dC (.int 16))) (dC (.int 3))) (iF S (.lst (l0.map PV.int)) bef t fit ys .no .no .no .no)= .ok (.int (9+z / 16 % 3)):=by
   rw[gp,gp,gp,cz];rfl
  have x2:g9 (d2 gv (dC (.int 9)) (d2 bD (d2 bV (aj (gF (n+8) 17) (ae (af 0) (ae (dC (.int 8)) ah))) (dC (.int 16))) (dC (.int 3)))) (iF S (.lst (l0.map PV.int)) bef t fit ys .no .no .no .no)= .ok (some (9+z / 16 % 3)):=by
   unfold g9
   rw[x1];rfl
  rw[<-em]
  unfold aE aG cT
  rw[x2,<-hS]
  rfl
 obtain⟨l,s2',el,hl⟩:=oI (n+7) S bef t fit ys ms l0 .no (by omega)
 have hll:l.length<=1000:=by omega
 rw[aF,s1,ar,aF,s2,ar,aF,nV,hi,br,el,ar]
 have o3:il 3 (fG j8 (ae (ag 1) ah)) (iF S (.lst .(A)) bef t fit ys s2' .no .no .no)= .nx (iF S (.lst .(A)) bef t fit ys s2' (.own (.lst .(A))) .no .no):=rfl
 have o4:aS 4 (aj (gF (n+8) 54) (ae (ag 3) ah)) (iF S (.lst .(A)) bef t fit ys s2' (.own (.lst .(A))) .no .no)= .nx (iF S (.lst .(A)) bef t fit ys s2' (.own (.lst .(A))) (.v (.obj 18 [.lst .(A)])) .no):=by
  show((gF (n+8) 54 [.lst .(A)]).st _)=_
  rw[jA (n+7) .(A)];rfl
 have o5:∃s3,cN (ii 3 (cK (dC (.int 0)))) (iF S (.lst .(A)) bef t fit ys s2' (.own (.lst .(A))) (.v (.obj 18 [.lst .(A)])) .no)= .nx (iF S (.lst .(A)) bef t fit ys s2' s3 (.v (.obj 18 [.lst .(A)])) .no):=by
  have hlt:.(A).length<sizeLine:=by rw[List.length_map];show _<16777216;omega
  refine⟨.own (.lst (l.map PV.int++[.int 0])),?_⟩
  show((if .(A).length<sizeLine then Rx.ok (PV.non,(iF S (.lst .(A)) bef t fit ys s2' (.own (.lst .(A))) (.v (.obj 18 [.lst .(A)])) .no).set 3 (.own (.lst (l.map PV.int++[.int 0])))) else .bad).st _)=_
  rw[if_pos hlt]
  rfl
 obtain⟨s3,o5⟩:=o5
 rw[aF,o3,ar,aF,o4,ar,aF,o5,ar]
 have k1:=gT (n+1) (by omega) hD l hll
 have c6:aU (aj (gF (n+8) 31) (ae (af 1) .(Aj))) (iF S (.lst .(A)) bef t fit ys s2' s3 (.v (.obj 18 [.lst .(A)])) .no)= .ok true:=by
  rw[fV]
  show((gF (n+8) 31 [.lst .(A),bef.pv,t.pv,fit.pv,.lst .(J)]).bind _)=_
  rw[k1];rfl
 rw[aF,cZ,m8,c6]
 simp only[aq,Bool.not_true,cn,cr,ar]
 obtain⟨ys',hy,hys,hyl⟩:∃ys':List Sy,cutP .(J) none (some (-1))=ys'.map Sy.pv/\(∀y∈ys',y∈ys)/\ys'.length<=ys.length:=by
  refine⟨(ys.drop (HT.sIx .(J).length 0 none)).take (HT.sIx .(J).length .(J).length (some (-1))-HT.sIx .(J).length 0 none),?_,fun y hy=>List.mem_of_mem_drop (List.mem_of_mem_take hy),?_⟩
  ·unfold cutP
   rw[List.map_take,List.map_drop]
  ·rw[List.length_take,List.length_drop];omega
 have o7:aS 5 (aG (cT (ag 9) jn (g9 (yh (dC (.int 1)))))) (iF S (.lst .(A)) bef t fit ys s2' s3 (.v (.obj 18 [.lst .(A)])) .no)= .nx (iF S (.lst .(A)) bef t fit ys s2' s3 (.v (.obj 18 [.lst .(A)])) (.v (.lst (ys'.map Sy.pv)))):=by
  show Rs.nx (iF S (.lst .(A)) bef t fit ys s2' s3 (.v (.obj 18 [.lst .(A)])) (.v (.lst (cutP .(J) none (some (-1))))))=_
  rw[hy]
 rw[aF,o7,ar]
 have hD':G1 bef t fit ys':=by
  obtain⟨h1,h2,h3,h4,h5,h6,h7,h8,h9⟩:=hD
  exact⟨h1,h2,h3,h4,h5,h6,h7,fun y hy=>h8 y (hys y hy),by omega⟩
 have hDY:G1 .yes t fit ys:=by
  obtain⟨h1,h2,h3,h4,h5,h6,h7,h8,h9⟩:=hD
  exact⟨by trivial,by show(0:Nat)<=2;decide,h3,h4,h5,h6,h7,h8,h9⟩
 have k2:=gT (n+1) (by omega) hD' l hll
 have k3:=gT (n+1) (by omega) hDY l hll
 have c8:aU (d2 cD (d2 bD (d2 bV (aj (gF (n+8) 17) (ae (af 0) (ae (dC (.int 8)) ah))) (dC (.int 8))) (dC (.int 2))) (dC (.int 0))) (iF S (.lst .(A)) bef t fit ys s2' s3 (.v (.obj 18 [.lst .(A)])) (.v (.lst (ys'.map Sy.pv))))= .ok (z / 8 % 2 == 0):=by
  rw[fV,gp,gp,gp,cz];rfl
 rw[aF,cZ,c8]
 cases z / 8 % 2 == 0 with
 |true =>
  rw[fe]
  show fin ((aJ (aj (gF (n+8) 31) (ae (af 1) (ae (af 6) (ae (af 7) (ae (af 8) (ae (af 5) ah)))))) _).next _)=_
  have:aJ (aj (gF (n+8) 31) (ae (af 1) (ae (af 6) (ae (af 7) (ae (af 8) (ae (af 5) ah)))))) (iF S (.lst .(A)) bef t fit ys s2' s3 (.v (.obj 18 [.lst .(A)])) (.v (.lst (ys'.map Sy.pv))))= .ret (.bl true):=by
   show((gF (n+8) 31 [.lst .(A),bef.pv,t.pv,fit.pv,.lst (ys'.map Sy.pv)]).st _)=_
   rw[k2];rfl
  rw[this];rfl
 |false =>
  rw[cn,cr,ar]
  have c9:aU (aj (gF (n+8) 31) (ae (af 1) (ae (dC (.obj 1 [])) (ae (af 7) (ae (af 8) (ae (af 9) ah)))))) (iF S (.lst .(A)) bef t fit ys s2' s3 (.v (.obj 18 [.lst .(A)])) (.v (.lst (ys'.map Sy.pv))))= .ok true:=by
   rw[fV]
   show((gF (n+8) 31 [.lst .(A),(Tr.yes).pv,t.pv,fit.pv,.lst .(J)]).bind _)=_
   rw[k3];rfl
  rw[aF,cZ,m8,c9]
  simp only[aq,Bool.not_true,cn,cr,ar]
  obtain⟨h1,h2,h3,h4,h5,h6,h7,h8,h9⟩:=hD
  have k4:=ji (n+2) t h5 ys fit (by omega) (by omega) 3 h8 (by omega) (by omega) bef h1 (by omega) h3 (by omega) l hll
  generalize stB .(B) (gdS ys) (gdS ys &&& bef.mk) l=b at *
  have a1:aO cQ (gF (n+8)) (af 4) .(Aj) (iF S (.lst .(A)) bef t fit ys s2' s3 (.v (.obj 18 [.lst .(A)])) (.v (.lst (ys'.map Sy.pv))))= .ok (.bl b):=k4
  have a2:aO cQ (gF (n+8)) (aj (gF (n+8) 54) (ae (ag 1) ah)) .(Aj) (iF S (.lst .(A)) bef t fit ys s2' s3 (.v (.obj 18 [.lst .(A)])) (.v (.lst (ys'.map Sy.pv))))= .ok (.bl b):=by
   have c:aj (gF (n+8) 54) (ae (ag 1) ah) (iF S (.lst .(A)) bef t fit ys s2' s3 (.v (.obj 18 [.lst .(A)])) (.v (.lst (ys'.map Sy.pv))))= .ok (.obj 18 [.lst .(A)]):=jA (n+7) .(A)
   rw[jT,c,aq]
   exact k4
  rw[eF,gp,a1,a2]
  cases b <;> rfl
theorem main(ns:List Int)(h:ns.length<=63):gF 110 32 [.lst .(Ae)]= .ok (.bl true):=Cu 101 (by decide) ns h
end M62
end
noncomputable section
namespace M62
open PySem L2 DN
def GL(C0 C1 C2 C3 C4 C5 C6 C7 C8 C9 C10 C11 C12 C13 C14 C15 C16 C17 C18 C19 C20 C21 C22 C23:Addr):Nat->Addr
 |0=>C0
 |1=>C1
 |2=>C2
 |3=>C3
 |4=>C4
 |5=>C5
 |6=>C6
 |7=>C7
 |8=>C8
 |9=>C9
 |10=>C10
 |11=>C11
 |12=>C12
 |13=>C13
 |14=>C14
 |15=>C15
 |16=>C16
 |17=>C17
 |18=>C18
 |19=>C19
 |20=>C20
 |21=>C21
 |22=>C22
 |23=>C23
 |_=>0
abbrev G2:Stmt:=aN (top 10) 0
abbrev G3:Stmt:=aN (top 11) 0
abbrev Cv:Stmt:=aN (top 12) 0
abbrev Cw:Stmt:=aN (top 13) 0
abbrev Cy:Stmt:=aN (top 23) 0
abbrev Cz:Stmt:=aN (top 24) 0
abbrev CA:Stmt:=aN (top 25) 0
abbrev CB:Stmt:=aN (top 26) 0
abbrev CC:Stmt:=aN (top 35) 0
abbrev CD:Stmt:=aN (top 55) 0
abbrev CF:Stmt:=aN (top 56) 0
abbrev CG:Stmt:=aN (top 57) 0
theorem JJ{l:PySem.W.OpenLaw}{w:World}{K:Fg}{mg:Str->Option Value}{fa:Addr}{h:Heap}{ts:List Addr}{nDEEDS:Nat}{slDEEDS:Array (Option Value)}{nENDS:Nat}{slENDS:Array (Option Value)}{nLETTERS:Nat}{slLETTERS:Array (Option Value)}{C0 C1 C2 C3 C4 C5 C6 C7 C8 C9 C10 C11 C12 C13 C14 C15 C16 C17 C18 C19 C20 C21 C22 C23 i3 i4 i5 i6 i10 i11 i12 i13 i14 i15 i16 i18 i19 i21 i22 i23 d0 d1 d2 d3 d4 d5 d6 d7 d8 d9 d10 d11 d12 d13 d14 d15 d16 d17 d18 d19 d20 d21 d22 d23 d24 d25 d26 d27 d28 d29 d30 d31 d32 d33 d34 d35 d36 d37 d38 d39 d40 d41 d42 d43 d44 d45 d46 d47 d48 d49 d50 d51 tDEEDS tENDS tLETTERS:Addr}{kDEEDS0 kDEEDS1 kDEEDS2 kDEEDS3 kDEEDS4 kDONE kENDS0 kENDS1 kENDS2 kEVERY kFOUND kHUNG kLETTERS0 kLETTERS1 kLETTERS2 kLETTERS3 kSETTINGS kSTOPPED:Tok}(X:K.In h)(G:h.Ns mainGlobals mg)(hfa:mg "law"=some (.ref fa))
  (a0:.(ns C0 "Test"))
  (a1:.(ns C1 "Yes"))
  (a2:.(ns C2 "No"))
  (a3:.(ns C3 "Named"))
  (a4:.(ns C4 "Not"))
  (a5:.(ns C5 "Both"))
  (a6:.(ns C6 "Either"))
  (a7:.(ns C7 "Step"))
  (a8:.(ns C8 "Skip"))
  (a9:.(ns C9 "Stop"))
  (a10:.(ns C10 "Deed"))
  (a11:.(ns C11 "Row"))
  (a12:.(ns C12 "Choice"))
  (a13:.(ns C13 "Loop"))
  (a14:.(ns C14 "Bonds"))
  (a15:.(ns C15 "Maze"))
  (a16:.(ns C16 "Rooms"))
  (a17:.(ns C17 "Finding"))
  (a18:.(ns C18 "Kept"))
  (a19:.(ns C19 "Broken"))
  (a20:.(ns C20 "Saying"))
  (a21:.(ns C21 "Nowhere"))
  (a22:.(ns C22 "Behind"))
  (a23:.(ns C23 "Through"))
  (c0:bz K C0)
  (c1:bz K C1)
  (c2:bz K C2)
  (c3:bz K C3)
  (c4:bz K C4)
  (c5:bz K C5)
  (c6:bz K C6)
  (c7:bz K C7)
  (c8:bz K C8)
  (c9:bz K C9)
  (c10:bz K C10)
  (c11:bz K C11)
  (c12:bz K C12)
  (c13:bz K C13)
  (c14:bz K C14)
  (c15:bz K C15)
  (c16:bz K C16)
  (c17:bz K C17)
  (c18:bz K C18)
  (c19:bz K C19)
  (c20:bz K C20)
  (c21:bz K C21)
  (c22:bz K C22)
  (c23:bz K C23)
  (o1:PySem.W.findIn K (.ref C1) "__init__"=some (some (.builtin "object.__init__")))
  (o2:PySem.W.findIn K (.ref C2) "__init__"=some (some (.builtin "object.__init__")))
  (e3:.(fi C3 "__init__" i3))
  (f3:.(fx i3))
  (I3:cG K i3 "__init__" "Named.__init__" G2)
  (n3_0:.(fo C3 "name"))
  (e4:.(fi C4 "__init__" i4))
  (f4:.(fx i4))
  (I4:cG K i4 "__init__" "Not.__init__" G3)
  (n4_0:.(fo C4 "inner"))
  (e5:.(fi C5 "__init__" i5))
  (f5:.(fx i5))
  (I5:cG K i5 "__init__" "Both.__init__" Cv)
  (n5_0:.(fo C5 "left"))
  (n5_1:.(fo C5 "right"))
  (e6:.(fi C6 "__init__" i6))
  (f6:.(fx i6))
  (I6:cG K i6 "__init__" "Either.__init__" Cw)
  (n6_0:.(fo C6 "left"))
  (n6_1:.(fo C6 "right"))
  (o8:PySem.W.findIn K (.ref C8) "__init__"=some (some (.builtin "object.__init__")))
  (o9:PySem.W.findIn K (.ref C9) "__init__"=some (some (.builtin "object.__init__")))
  (e10:.(fi C10 "__init__" i10))
  (f10:.(fx i10))
  (I10:cG K i10 "__init__" "Deed.__init__" Cy)
  (n10_0:.(fo C10 "name"))
  (e11:.(fi C11 "__init__" i11))
  (f11:.(fx i11))
  (I11:cG K i11 "__init__" "Row.__init__" Cz)
  (n11_0:.(fo C11 "head"))
  (n11_1:.(fo C11 "tail"))
  (e12:.(fi C12 "__init__" i12))
  (f12:.(fx i12))
  (I12:cG K i12 "__init__" "Choice.__init__" CA)
  (n12_0:.(fo C12 "test"))
  (n12_1:.(fo C12 "yes"))
  (n12_2:.(fo C12 "no"))
  (e13:.(fi C13 "__init__" i13))
  (f13:.(fx i13))
  (I13:cG K i13 "__init__" "Loop.__init__" CB)
  (n13_0:.(fo C13 "test"))
  (n13_1:.(fo C13 "body"))
  (e14:.(fi C14 "__init__" i14))
  (f14:.(fx i14))
  (I14:cG K i14 "__init__" "Bonds.__init__" wF)
  (n14_0:.(fo C14 "unbarred"))
  (n14_1:.(fo C14 "let_by"))
  (n14_2:.(fo C14 "lasting"))
  (e15:.(fi C15 "__init__" i15))
  (f15:.(fx i15))
  (I15:cG K i15 "__init__" "Maze.__init__" CC)
  (n15_0:.(fo C15 "bonds"))
  (n15_1:.(fo C15 "begin"))
  (n15_2:.(fo C15 "starts"))
  (n15_3:.(fo C15 "door"))
  (e16:.(fi C16 "__init__" i16))
  (f16:.(fx i16))
  (I16:cG K i16 "__init__" "Rooms.__init__" wG)
  (n16_0:.(fo C16 "step"))
  (n16_1:.(fo C16 "doors"))
  (e18:.(fi C18 "__init__" i18))
  (f18:.(fx i18))
  (I18:cG K i18 "__init__" "Kept.__init__" wH)
  (n18_0:.(fo C18 "marks"))
  (e19:.(fi C19 "__init__" i19))
  (f19:.(fx i19))
  (I19:cG K i19 "__init__" "Broken.__init__" wI)
  (n19_0:.(fo C19 "settings"))
  (n19_1:.(fo C19 "deeds"))
  (e21:.(fi C21 "__init__" i21))
  (f21:.(fx i21))
  (I21:cG K i21 "__init__" "Nowhere.__init__" CD)
  (n21_0:.(fo C21 "test"))
  (e22:.(fi C22 "__init__" i22))
  (f22:.(fx i22))
  (I22:cG K i22 "__init__" "Behind.__init__" CF)
  (n22_0:.(fo C22 "before"))
  (n22_1:.(fo C22 "deed"))
  (n22_2:.(fo C22 "after"))
  (e23:.(fi C23 "__init__" i23))
  (f23:.(fx i23))
  (I23:cG K i23 "__init__" "Through.__init__" CG)
  (n23_0:.(fo C23 "test"))
  (n23_1:.(fo C23 "deed"))
  (b0:.(ns d0 "is_in"))
  (D0:cG K d0 "is_in" "is_in" vB)
  (b1:.(ns d1 "settings_in"))
  (D1:cG K d1 "settings_in" "settings_in" vC)
  (b2:.(ns d2 "unbarred_by"))
  (D2:cG K d2 "unbarred_by" "unbarred_by" vD)
  (b3:.(ns d3 "let_by_all"))
  (D3:cG K d3 "let_by_all" "let_by_all" vE)
  (b4:.(ns d4 "later_by_all"))
  (D4:cG K d4 "later_by_all" "later_by_all" vF)
  (b5:.(ns d5 "lasting_within"))
  (D5:cG K d5 "lasting_within" "lasting_within" vG)
  (b6:.(ns d6 "word_to"))
  (D6:cG K d6 "word_to" "word_to" vH)
  (b7:.(ns d7 "is_within"))
  (D7:cG K d7 "is_within" "is_within" vI)
  (b8:.(ns d8 "doors_of"))
  (D8:cG K d8 "doors_of" "doors_of" vJ)
  (b9:.(ns d9 "ended"))
  (D9:cG K d9 "ended" "ended" vK)
  (b10:.(ns d10 "row_doors"))
  (D10:cG K d10 "row_doors" "row_doors" vL)
  (b11:.(ns d11 "choice_doors"))
  (D11:cG K d11 "choice_doors" "choice_doors" vM)
  (b12:.(ns d12 "loop_doors"))
  (D12:cG K d12 "loop_doors" "loop_doors" vN)
  (b13:.(ns d13 "loop_door"))
  (D13:cG K d13 "loop_door" "loop_door" vO)
  (b14:.(ns d14 "gone_on"))
  (D14:cG K d14 "gone_on" "gone_on" vP)
  (b15:.(ns d15 "marked"))
  (D15:cG K d15 "marked" "marked" vQ)
  (b16:.(ns d16 "breaks_of"))
  (D16:Ku K d16 "breaks_of" "breaks_of" oi ts)
  (b17:.(ns d17 "_law_cell_at"))
  (D17:cG K d17 "_law_cell_at" "_law_cell_at" vR)
  (b18:.(ns d18 "_law_mixed"))
  (D18:cG K d18 "_law_mixed" "_law_mixed" vS)
  (b19:.(ns d19 "_law_guard"))
  (D19:cG K d19 "_law_guard" "_law_guard" vT)
  (b20:.(ns d20 "_law_guard_test"))
  (D20:cG K d20 "_law_guard_test" "_law_guard_test" vU)
  (b21:.(ns d21 "_law_leaf"))
  (D21:cG K d21 "_law_leaf" "_law_leaf" vV)
  (b22:.(ns d22 "_law_tree"))
  (D22:cG K d22 "_law_tree" "_law_tree" vW)
  (b23:.(ns d23 "_law_made"))
  (D23:cG K d23 "_law_made" "_law_made" vX)
  (b24:.(ns d24 "_law_saying"))
  (D24:cG K d24 "_law_saying" "_law_saying" vY)
  (b25:.(ns d25 "_law_sayings"))
  (D25:cG K d25 "_law_sayings" "_law_sayings" vZ)
  (b26:.(ns d26 "_law_drawn"))
  (D26:cG K d26 "_law_drawn" "_law_drawn" w8)
  (b27:.(ns d27 "_law_bits"))
  (D27:cG K d27 "_law_bits" "_law_bits" w9)
  (b28:.(ns d28 "_law_closed"))
  (D28:cG K d28 "_law_closed" "_law_closed" wa)
  (b29:.(ns d29 "_law_changed"))
  (D29:cG K d29 "_law_changed" "_law_changed" wb)
  (b30:.(ns d30 "_law_first_marks"))
  (D30:cG K d30 "_law_first_marks" "_law_first_marks" wc)
  (b31:.(ns d31 "_law_stands"))
  (D31:cG K d31 "_law_stands" "_law_stands" wd)
  (b32:.(ns d32 "law"))
  (D32:cG K d32 "law" "law" oj)
  (m33_0:.(fi C0 "mask" d33))
  (m33_1:.(fi C1 "mask" d33))
  (m33_2:.(fi C2 "mask" d33))
  (m33_3:.(fi C3 "mask" d33))
  (m33_4:.(fi C4 "mask" d33))
  (m33_5:.(fi C5 "mask" d33))
  (m33_6:.(fi C6 "mask" d33))
  (g33:.(fx d33))
  (D33:cG K d33 "mask" "Test.mask" we)
  (m34_1:.(fi C1 "holds" d34))
  (g34:.(fx d34))
  (D34:cG K d34 "holds" "Yes.holds" wf)
  (m35_2:.(fi C2 "holds" d35))
  (g35:.(fx d35))
  (D35:cG K d35 "holds" "No.holds" wj)
  (m36_3:.(fi C3 "holds" d36))
  (g36:.(fx d36))
  (D36:cG K d36 "holds" "Named.holds" wl)
  (m37_4:.(fi C4 "holds" d37))
  (g37:.(fx d37))
  (D37:cG K d37 "holds" "Not.holds" wm)
  (m38_5:.(fi C5 "holds" d38))
  (g38:.(fx d38))
  (D38:cG K d38 "holds" "Both.holds" wn)
  (m39_6:.(fi C6 "holds" d39))
  (g39:.(fx d39))
  (D39:cG K d39 "holds" "Either.holds" wo)
  (m40_14:.(fi C14 "good" d40))
  (g40:.(fx d40))
  (D40:cG K d40 "good" "Bonds.good" wq)
  (m41_14:.(fi C14 "ways" d41))
  (g41:.(fx d41))
  (D41:cG K d41 "ways" "Bonds.ways" wt)
  (m42_15:.(fi C15 "search" d42))
  (g42:.(fx d42))
  (D42:cG K d42 "search" "Maze.search" wu)
  (m43_15:.(fi C15 "is_closed" d43))
  (g43:.(fx d43))
  (D43:cG K d43 "is_closed" "Maze.is_closed" wv)
  (m44_15:.(fi C15 "goes_on_within" d44))
  (g44:.(fx d44))
  (D44:cG K d44 "goes_on_within" "Maze.goes_on_within" ww)
  (m45_17:.(fi C17 "stands" d45))
  (g45:.(fx d45))
  (D45:cG K d45 "stands" "Finding.stands" wx)
  (m46_18:.(fi C18 "stands" d46))
  (g46:.(fx d46))
  (D46:cG K d46 "stands" "Kept.stands" wz)
  (m47_20:.(fi C20 "bars" d47))
  (m47_22:.(fi C22 "bars" d47))
  (m47_23:.(fi C23 "bars" d47))
  (g47:.(fx d47))
  (D47:cG K d47 "bars" "Saying.bars" wA)
  (m48_20:.(fi C20 "later_mask" d48))
  (m48_21:.(fi C21 "later_mask" d48))
  (g48:.(fx d48))
  (D48:cG K d48 "later_mask" "Saying.later_mask" wB)
  (m49_21:.(fi C21 "bars" d49))
  (g49:.(fx d49))
  (D49:cG K d49 "bars" "Nowhere.bars" wC)
  (m50_22:.(fi C22 "later_mask" d50))
  (g50:.(fx d50))
  (D50:cG K d50 "later_mask" "Behind.later_mask" wD)
  (m51_23:.(fi C23 "later_mask" d51))
  (g51:.(fx d51))
  (D51:cG K d51 "later_mask" "Through.later_mask" wE)
  (wChoice:mn K (.ref C12) .(Ax) i_z07)
  (wDeed:mn K (.ref C10) .(Ax) i_z05)
  (wKept:mn K (.ref C18) .(Ax) i_z0d)
  (wRow:mn K (.ref C11) .(Ax) i_z06)
  (wSkip:mn K (.ref C8) .(Ax) i_z03)
  (wStop:mn K (.ref C9) .(Ax) i_z04)
  (wbool:mn K (.type "bool") .(Ax) i_bool)
  (bxDEEDS:.(ns tDEEDS "DEEDS"))
  (lxDEEDS:K.lookup tDEEDS=some ⟨.type "tuple",none,.seq #[.str "P" kDEEDS0,.str "Q" kDEEDS1,.str "R" kDEEDS2,.str "S" kDEEDS3,.str "T" kDEEDS4] nDEEDS,slDEEDS⟩)
  (bxDONE:PySem.W.nsIn K mainGlobals "DONE"=some (some (.str "done" kDONE)))
  (bxENDS:.(ns tENDS "ENDS"))
  (lxENDS:K.lookup tENDS=some ⟨.type "tuple",none,.seq #[.str "done" kENDS0,.str "stopped" kENDS1,.str "hung" kENDS2] nENDS,slENDS⟩)
  (bxEVERY:PySem.W.nsIn K mainGlobals "EVERY"=some (some (.int (65535) kEVERY)))
  (bxFOUND:PySem.W.nsIn K mainGlobals "FOUND"=some (some (.str "found" kFOUND)))
  (bxHUNG:PySem.W.nsIn K mainGlobals "HUNG"=some (some (.str "hung" kHUNG)))
  (bxLETTERS:.(ns tLETTERS "LETTERS"))
  (lxLETTERS:K.lookup tLETTERS=some ⟨.type "tuple",none,.seq #[.str "a" kLETTERS0,.str "b" kLETTERS1,.str "c" kLETTERS2,.str "d" kLETTERS3] nLETTERS,slLETTERS⟩)
  (bxSETTINGS:PySem.W.nsIn K mainGlobals "SETTINGS"=some (some (.int (16) kSETTINGS)))
  (bxSTOPPED:PySem.W.nsIn K mainGlobals "STOPPED"=some (some (.str "stopped" kSTOPPED)))
  (zall:.(no "all"))
  (zany:.(no "any"))
  (zbool:.(no "bool"))
  (zdict:.(no "dict"))
  (zenumerate:.(no "enumerate"))
  (zisinstance:.(no "isinstance"))
  (zlen:.(no "len"))
  (zlist:.(no "list"))
  (zrange:.(no "range")) :
  ∃(cA:Nat->Addr) (fd:FuncData),(∀(s:Shared) (v:Value),BindsTo s fd ⟨[v],[]⟩ [("_law_script",v)])/\ ∀base:Bs,K.In base->base.Ns mainGlobals mg->base.tabs=ts->cY l.prog w K mg base fX (220+3) fa fd ["_law_script"] (tU K (pg cA) [false] (gF 110 32)):=by
 have e:=hfa.symm.trans (.(mg b32))
 cases e
 exact .(obq fD0 D0)
 exact .(obq fD1 D1)
 exact .(obq fD2 D2)
 exact .(obq fD3 D3)
 exact .(obq fD4 D4)
 exact .(obq fD5 D5)
 exact .(obq fD6 D6)
 exact .(obq fD7 D7)
 exact .(obq fD8 D8)
 exact .(obq fD9 D9)
 exact .(obq fD10 D10)
 exact .(obq fD11 D11)
 exact .(obq fD12 D12)
 exact .(obq fD13 D13)
 exact .(obq fD14 D14)
 exact .(obq fD15 D15)
 obtain⟨fD16,cD16,pD16,D16,TD16⟩:=D16
 exact .(obq fD17 D17)
 exact .(obq fD18 D18)
 exact .(obq fD19 D19)
 exact .(obq fD20 D20)
 exact .(obq fD21 D21)
 exact .(obq fD22 D22)
 exact .(obq fD23 D23)
 exact .(obq fD24 D24)
 exact .(obq fD25 D25)
 exact .(obq fD26 D26)
 exact .(obq fD27 D27)
 exact .(obq fD28 D28)
 exact .(obq fD29 D29)
 exact .(obq fD30 D30)
 exact .(obq fD31 D31)
 exact .(obq fD32 D32)
 exact .(obq fD33 D33)
 exact .(obq fD34 D34)
 exact .(obq fD35 D35)
 exact .(obq fD36 D36)
 exact .(obq fD37 D37)
 exact .(obq fD38 D38)
 exact .(obq fD39 D39)
 exact .(obq fD40 D40)
 exact .(obq fD41 D41)
 exact .(obq fD42 D42)
 exact .(obq fD43 D43)
 exact .(obq fD44 D44)
 exact .(obq fD45 D45)
 exact .(obq fD46 D46)
 exact .(obq fD47 D47)
 exact .(obq fD48 D48)
 exact .(obq fD49 D49)
 exact .(obq fD50 D50)
 exact .(obq fD51 D51)
 exact .(obq fI3 I3)
 exact .(obq fI4 I4)
 exact .(obq fI5 I5)
 exact .(obq fI6 I6)
 exact .(obq fI10 I10)
 exact .(obq fI11 I11)
 exact .(obq fI12 I12)
 exact .(obq fI13 I13)
 exact .(obq fI14 I14)
 exact .(obq fI15 I15)
 exact .(obq fI16 I16)
 exact .(obq fI18 I18)
 exact .(obq fI19 I19)
 exact .(obq fI21 I21)
 exact .(obq fI22 I22)
 exact .(obq fI23 I23)
 have F:Fs K mg (GL C0 C1 C2 C3 C4 C5 C6 C7 C8 C9 C10 C11 C12 C13 C14 C15 C16 C17 C18 C19 C20 C21 C22 C23) ts:={
  F_z0:=.(fr fD0 D0 .(Aq) b0)
  F_z1:=.(fr fD1 D1 .(Ap) b1)
  F_z2:=.(fr fD2 D2 .(Ap) b2)
  F_z3:=.(fr fD3 D3 .(Ap) b3)
  F_z4:=.(fr fD4 D4 .(Ar) b4)
  F_z5:=.(fr fD5 D5 .(Aq) b5)
  F_z6:=.(fr fD6 D6 .(Ap) b6)
  F_z7:=.(fr fD7 D7 .(Aq) b7)
  F_z8:=.(fr fD8 D8 .(Aq) b8)
  F_z9:=.(fr fD9 D9 .(Ap) b9)
  F_za:=.(fr fD10 D10 .(Aq) b10)
  F_zb:=.(fr fD11 D11 .(Aq) b11)
  F_zc:=.(fr fD12 D12 .(Aq) b12)
  F_zd:=.(fr fD13 D13 .(Aq) b13)
  F_ze:=.(fr fD14 D14 .(Aq) b14)
  F_zf:=.(fr fD15 D15 .(As) b15)
  F_zg:=⟨_,fD16,cD16,pD16,⟨D16,D16.binds .(As),.(mg b16)⟩,TD16⟩
  F_zh:=.(fr fD17 D17 .(Aq) b17)
  F_zi:=.(fr fD18 D18 .(Aq) b18)
  F_zj:=.(fr fD19 D19 .(Ap) b19)
  F_zk:=.(fr fD20 D20 .(Ap) b20)
  F_zl:=.(fr fD21 D21 .(Ap) b21)
  F_zm:=.(fr fD22 D22 .(Ap) b22)
  F_zn:=.(fr fD23 D23 .(Ap) b23)
  F_zo:=.(fr fD24 D24 .(Ap) b24)
  F_zp:=.(fr fD25 D25 .(Aq) b25)
  F_zq:=.(fr fD26 D26 .(Ap) b26)
  F_zr:=.(fr fD27 D27 .(Ap) b27)
  F_zs:=.(fr fD28 D28 .(At) b28)
  F_zt:=.(fr fD29 D29 .(Aq) b29)
  F_zu:=.(fr fD30 D30 .(At) b30)
  F_zv:=.(fr fD31 D31 .(At) b31)
  F_zw:=.(fr fD32 D32 .(Ap) b32)
  F_zx:=⟨_,fD33,D33,D33.binds .(Ap),.(mt D33 g33 m33_0),.(mt D33 g33 m33_1),.(mt D33 g33 m33_2),.(mt D33 g33 m33_3),.(mt D33 g33 m33_4),.(mt D33 g33 m33_5),.(mt D33 g33 m33_6)⟩
  F_zy:=⟨_,fD34,D34,D34.binds .(Aq),.(mt D34 g34 m34_1)⟩
  F_zz:=⟨_,fD35,D35,D35.binds .(Aq),.(mt D35 g35 m35_2)⟩
  F_zA:=⟨_,fD36,D36,D36.binds .(Aq),.(mt D36 g36 m36_3)⟩
  F_zB:=⟨_,fD37,D37,D37.binds .(Aq),.(mt D37 g37 m37_4)⟩
  F_zC:=⟨_,fD38,D38,D38.binds .(Aq),.(mt D38 g38 m38_5)⟩
  F_zD:=⟨_,fD39,D39,D39.binds .(Aq),.(mt D39 g39 m39_6)⟩
  F_zE:=⟨_,fD40,D40,D40.binds .(Ap),.(mt D40 g40 m40_14)⟩
  F_zF:=⟨_,fD41,D41,D41.binds .(Ar),.(mt D41 g41 m41_14)⟩
  F_zG:=⟨_,fD42,D42,D42.binds .(Ap),.(mt D42 g42 m42_15)⟩
  F_zH:=⟨_,fD43,D43,D43.binds .(Aq),.(mt D43 g43 m43_15)⟩
  F_zI:=⟨_,fD44,D44,D44.binds .(As),.(mt D44 g44 m44_15)⟩
  F_zJ:=⟨_,fD45,D45,D45.binds .(At),.(mt D45 g45 m45_17)⟩
  F_zK:=⟨_,fD46,D46,D46.binds .(At),.(mt D46 g46 m46_18)⟩
  F_zL:=⟨_,fD47,D47,D47.binds .(Aq),.(mt D47 g47 m47_20),.(mt D47 g47 m47_22),.(mt D47 g47 m47_23)⟩
  F_zM:=⟨_,fD48,D48,D48.binds .(Ar),.(mt D48 g48 m48_20),.(mt D48 g48 m48_21)⟩
  F_zN:=⟨_,fD49,D49,D49.binds .(Aq),.(mt D49 g49 m49_21)⟩
  F_zO:=⟨_,fD50,D50,D50.binds .(Ar),.(mt D50 g50 m50_22)⟩
  F_zP:=⟨_,fD51,D51,D51.binds .(Ar),.(mt D51 g51 m51_23)⟩
  F_zQ:=⟨_,fI14,I14,I14.binds .(Aq),.(cf c14 e14 f14)⟩
  F_zR:=⟨_,fI16,I16,I16.binds .(Aq),.(cf c16 e16 f16)⟩
  F_zS:=⟨_,fI18,I18,I18.binds .(Aq),.(cf c18 e18 f18)⟩
  F_zT:=⟨_,fI19,I19,I19.binds .(Ar),.(cf c19 e19 f19)⟩
 }
 obtain⟨⟨oc,od,kV,dc,pm,an,cd,ct,osl,rfl,ll,cc⟩,kk⟩:=id D32
 refine⟨(GL C0 C1 C2 C3 C4 C5 C6 C7 C8 C9 C10 C11 C12 C13 C14 C15 C16 C17 C18 C19 C20 C21 C22 C23),PySem.W.fnOf "law" "law" (eL oj) (bF oj) (al oj) .none kV dc pm an cd ct,fun s v=> .of_eq rfl,fun base _ _ htb=> ?_⟩
 have hC:∀c,c<24->nM K ((pg (GL C0 C1 C2 C3 C4 C5 C6 C7 C8 C9 C10 C11 C12 C13 C14 C15 C16 C17 C18 C19 C20 C21 C22 C23)).cA c):=fun c h=>match c,h with|0,_=>ck c0|1,_=>ck c1|2,_=>ck c2|3,_=>ck c3|4,_=>ck c4|5,_=>ck c5|6,_=>ck c6|7,_=>ck c7|8,_=>ck c8|9,_=>ck c9|10,_=>ck c10|11,_=>ck c11|12,_=>ck c12|13,_=>ck c13|14,_=>ck c14|15,_=>ck c15|16,_=>ck c16|17,_=>ck c17|18,_=>ck c18|19,_=>ck c19|20,_=>ck c20|21,_=>ck c21|22,_=>ck c22|23,_=>ck c23|n+24,h=>absurd h (Nat.not_lt.2 (Nat.le_add_left 24 n))
 have C:Ct l.prog w K mg base (GL C0 C1 C2 C3 C4 C5 C6 C7 C8 C9 C10 C11 C12 C13 C14 C15 C16 C17 C18 C19 C20 C21 C22 C23) ts:={
  tb:=htb
  c_zV:=.(mg a0)
  l_zV:=c0
  c_zW:=.(mg a1)
  l_zW:=c1
  c_zX:=.(mg a2)
  l_zX:=c2
  c_zY:=.(mg a3)
  l_zY:=c3
  c_zZ:=.(mg a4)
  l_zZ:=c4
  c_z00:=.(mg a5)
  l_z00:=c5
  c_z01:=.(mg a6)
  l_z01:=c6
  c_z02:=.(mg a7)
  l_z02:=c7
  c_z03:=.(mg a8)
  l_z03:=c8
  c_z04:=.(mg a9)
  l_z04:=c9
  c_z05:=.(mg a10)
  l_z05:=c10
  c_z06:=.(mg a11)
  l_z06:=c11
  c_z07:=.(mg a12)
  l_z07:=c12
  c_z08:=.(mg a13)
  l_z08:=c13
  c_z09:=.(mg a14)
  l_z09:=c14
  c_z0a:=.(mg a15)
  l_z0a:=c15
  c_z0b:=.(mg a16)
  l_z0b:=c16
  c_z0c:=.(mg a17)
  l_z0c:=c17
  c_z0d:=.(mg a18)
  l_z0d:=c18
  c_z0e:=.(mg a19)
  l_z0e:=c19
  c_z0f:=.(mg a20)
  l_z0f:=c20
  c_z0g:=.(mg a21)
  l_z0g:=c21
  c_z0h:=.(mg a22)
  l_z0h:=c22
  c_z0i:=.(mg a23)
  l_z0i:=c23
  n_z0h:=⟨.(mg a22),c22.cls,i22,fI22,_,.(cf c22 e22 f22),nz I22 rfl .q c22.cls n22_0 n22_1 n22_2 (by decide) (by decide) (by decide) (by decide) (by decide) (by decide) .(Y) .(Y) .(Y),I22.binds .(As)⟩
  n_z00:=⟨.(mg a5),c5.cls,i5,fI5,_,.(cf c5 e5 f5),g6 I5 rfl .q c5.cls n5_0 n5_1 (by decide) (by decide) (by decide) (by decide) .(Y),I5.binds .(Ar)⟩
  n_z07:=⟨.(mg a12),c12.cls,i12,fI12,_,.(cf c12 e12 f12),nz I12 rfl .q c12.cls n12_0 n12_1 n12_2 (by decide) (by decide) (by decide) (by decide) (by decide) (by decide) .(Y) .(Y) .(Y),I12.binds .(As)⟩
  n_z05:=⟨.(mg a10),c10.cls,i10,fI10,_,.(cf c10 e10 f10),ib I10 rfl .q c10.cls n10_0 (by decide) (by decide) ,I10.binds .(Aq)⟩
  n_z01:=⟨.(mg a6),c6.cls,i6,fI6,_,.(cf c6 e6 f6),g6 I6 rfl .q c6.cls n6_0 n6_1 (by decide) (by decide) (by decide) (by decide) .(Y),I6.binds .(Ar)⟩
  n_z08:=⟨.(mg a13),c13.cls,i13,fI13,_,.(cf c13 e13 f13),g6 I13 rfl .q c13.cls n13_0 n13_1 (by decide) (by decide) (by decide) (by decide) .(Y),I13.binds .(Ar)⟩
  n_z0a:=⟨.(mg a15),c15.cls,i15,fI15,_,.(cf c15 e15 f15),vy I15 rfl .q c15.cls n15_0 n15_1 n15_2 n15_3 (by decide) (by decide) (by decide) (by decide) (by decide) (by decide) (by decide) (by decide) .(Y) .(Y) .(Y) .(Y) .(Y) .(Y),I15.binds .(At)⟩
  n_zY:=⟨.(mg a3),c3.cls,i3,fI3,_,.(cf c3 e3 f3),ib I3 rfl .q c3.cls n3_0 (by decide) (by decide) ,I3.binds .(Aq)⟩
  k_zX:=⟨c2.mks,o2,c2.kp⟩
  n_zZ:=⟨.(mg a4),c4.cls,i4,fI4,_,.(cf c4 e4 f4),ib I4 rfl .q c4.cls n4_0 (by decide) (by decide) ,I4.binds .(Aq)⟩
  n_z0g:=⟨.(mg a21),c21.cls,i21,fI21,_,.(cf c21 e21 f21),ib I21 rfl .q c21.cls n21_0 (by decide) (by decide) ,I21.binds .(Aq)⟩
  n_z06:=⟨.(mg a11),c11.cls,i11,fI11,_,.(cf c11 e11 f11),g6 I11 rfl .q c11.cls n11_0 n11_1 (by decide) (by decide) (by decide) (by decide) .(Y),I11.binds .(Ar)⟩
  k_z03:=⟨c8.mks,o8,c8.kp⟩
  k_z04:=⟨c9.mks,o9,c9.kp⟩
  n_z0i:=⟨.(mg a23),c23.cls,i23,fI23,_,.(cf c23 e23 f23),g6 I23 rfl .q c23.cls n23_0 n23_1 (by decide) (by decide) (by decide) (by decide) .(Y),I23.binds .(Ar)⟩
  k_zW:=⟨c1.mks,o1,c1.kp⟩
  x_Bonds_unbarred:=n14_0
  x_Bonds_let_by:=n14_1
  x_Bonds_lasting:=n14_2
  x_Broken_settings:=n19_0
  x_Broken_deeds:=n19_1
  x_Kept_marks:=n18_0
  x_Rooms_step:=n16_0
  x_Rooms_doors:=n16_1
  f_after:=(.(fl c22 n22_2 22 bN))
  f_before:=(.(fl c22 n22_0 22 bN))
  f_begin:=(.(fl c15 n15_1 15 bN))
  f_body:=(.(fl c13 n13_1 13 bN))
  f_bonds:=(.(fl c15 n15_0 15 bN))
  f_deed:=(.(fl c22 n22_1 22 (.(fl c23 n23_1 23 bN))))
  f_door:=(.(fl c15 n15_3 15 bN))
  f_doors:=(.(fl c16 n16_1 16 bN))
  f_head:=(.(fl c11 n11_0 11 bN))
  f_inner:=(.(fl c4 n4_0 4 bN))
  f_lasting:=(.(fl c14 n14_2 14 bN))
  f_left:=(.(fl c5 n5_0 5 (.(fl c6 n6_0 6 bN))))
  f_let_by:=(.(fl c14 n14_1 14 bN))
  f_marks:=(.(fl c18 n18_0 18 bN))
  f_name:=(.(fl c3 n3_0 3 (.(fl c10 n10_0 10 bN))))
  f_no:=(.(fl c12 n12_2 12 bN))
  f_right:=(.(fl c5 n5_1 5 (.(fl c6 n6_1 6 bN))))
  f_starts:=(.(fl c15 n15_2 15 bN))
  f_tail:=(.(fl c11 n11_1 11 bN))
  f_test:=(.(fl c12 n12_0 12 (.(fl c13 n13_0 13 (.(fl c21 n21_0 21 (.(fl c23 n23_0 23 bN))))))))
  f_unbarred:=(.(fl c14 n14_0 14 bN))
  f_yes:=(.(fl c12 n12_1 12 bN))
  i_z07:=eP hC wChoice rfl (by decide)
  i_z05:=eP hC wDeed rfl (by decide)
  i_z0d:=eP hC wKept rfl (by decide)
  i_z06:=eP hC wRow rfl (by decide)
  i_z03:=eP hC wSkip rfl (by decide)
  i_z04:=eP hC wStop rfl (by decide)
  i_bool:=eP hC wbool rfl (by decide)
  e_DEEDS:=⟨tDEEDS,.(mg bxDEEDS),lX lxDEEDS (by show 5<=sizeLine;decide) (.cons ⟨_,rfl⟩ (.cons ⟨_,rfl⟩ (.cons ⟨_,rfl⟩ (.cons ⟨_,rfl⟩ (.cons ⟨_,rfl⟩ (.nil))))))⟩
  e_DONE:=⟨kDONE,.(mg bxDONE)⟩
  e_ENDS:=⟨tENDS,.(mg bxENDS),lX lxENDS (by show 3<=sizeLine;decide) (.cons ⟨_,rfl⟩ (.cons ⟨_,rfl⟩ (.cons ⟨_,rfl⟩ (.nil))))⟩
  e_EVERY:=⟨kEVERY,.(mg bxEVERY)⟩
  e_FOUND:=⟨kFOUND,.(mg bxFOUND)⟩
  e_HUNG:=⟨kHUNG,.(mg bxHUNG)⟩
  e_LETTERS:=⟨tLETTERS,.(mg bxLETTERS),lX lxLETTERS (by show 4<=sizeLine;decide) (.cons ⟨_,rfl⟩ (.cons ⟨_,rfl⟩ (.cons ⟨_,rfl⟩ (.cons ⟨_,rfl⟩ (.nil)))))⟩
  e_SETTINGS:=⟨kSETTINGS,.(mg bxSETTINGS)⟩
  e_STOPPED:=⟨kSTOPPED,.(mg bxSTOPPED)⟩
  z_all:=.(mz zall)
  z_any:=.(mz zany)
  z_bool:=.(mz zbool)
  z_dict:=.(mz zdict)
  z_enumerate:=.(mz zenumerate)
  z_isinstance:=.(mz zisinstance)
  z_len:=.(mz zlen)
  z_list:=.(mz zlist)
  z_range:=.(mz zrange)
 }
 obtain⟨f',fd',ps',e1,e2,e3,e4⟩:=(pI C F 110).h_zw.ex
 exact uW D32 fT rfl fun _ _ _ _ _ _ hr=>FS C (pI C F 109) hr
end M62
#synth .(tw [5639377071291486699,10571297262493833993,10414015043698488875,5468169691654570350,5863004233863834137,7627975040784957545,17589522903398757210,9722901449361030031,18070251879399837673,12738369302049251716,8579531171616511989,16153332967095375680,17646584372057013124,9934713491237932664,532084904299330474,14437018588155925095,6512702795640505148,9511590004009593838,12612253840894613886,5655681903180835781,17666211997973189225,10343839874844314555,15631417919006001685,4186076200153025242,12317966081469389467,11788807923696731816,4929374884198250979,1797769128593885719,18400847894539768594,7005755896596492536,14314532960046043958,9245125720307985590,17434432385595846275,3905725182135183782,2713974938407817543,12621653425190290429,18094786744699071566,13202224876578376288,11673203598645201969,6770424624822914322,16532651459732710434,16321224280473212999,1829040264327228774,304643744468073814,4908963894446398553,7886208015299905921,8100821872279574010,1307251211593993751,15474823419801124483,12357107891608289518,18398641490639768302,15929330834284785401,123721280512248035,10865532915452919340,4341685715633480013,11072313101380367518,9398151632323370676,2751986462780020590,8666638058472445441,17735365698063223125,13304581913011879621,1576967273254945445,1769368340248216612,3867358754509089050,11929247410081178661,15633003306511327957,3076566953536921867,15305091765081631463,18123152720539297335,4482979757240370812,9359070455092698017,1280474964576910332,422824199899951711,4082817942093202592,11859735323485518526,17481203815475989990,8986515430028371115,8698503633695060213,7823861653766164405,8270868322254120762,9948474452338332555,11349849032215849944,5685614226513607056,10484224831312692712,9778526592158626230,13343970767630630730,221723924047993016,13132176318138528387,1931501353558255445,7620223729534237676,13763266900184929296,593435658547257546,331610220334843733,18164490611017947401,4181367928178011361,5436351636397103571,6348886733219290910,5644664982423321093,18072423331003182274,10606599393659938059,8796873227193290097,14226875947949377406,12601150923588720314,7207195100109263037,7854027010819997373,17891583282022938596,2824771354020726327,7235881928458630133,8071089802781468713,17496185919916872154,10036104788725965415,15034498365241240021,11482961965718793790,17002617549496079611,10246115071426874888,1585114126822283876,11425668422708120403,14195226251691788483,703728823999423246,8102115467035052859,11960612790244494259,17492454224059859252,16088506485746847009,9848926518598109594,4334941644357192441,551233654680419126,13504986769697698798,4689289937843279750,7173299867154413532,15195803874698491304,14891502362569270570,18038134994371530577,18131421175300066441,4650567430095188241,14354452106567176788,8588766284347205233,5482576215141400438,17644263422271356596,6371528677415911086,14863060820889634677,4871082401731890380,6133321480385795792,12025591924996667438,14236216783050831536,10220689672987965684,528027222608842105,12107686010218652428,14797961674082796556,3729121557408944176,10825904692381007548,2134465657989071727,470766110420079475,10464588276789945318,6745277534295661948,11440780630653741072,1169539502799314590,805100244810599152,15529880410958680687,4243807423136010847,272495698694846018,10368767383901547054,10280165644838139381,18075267426310572831,18366243120918604367,6382104868881791020,9870545906259903896,17950307719623806930,6697904015636391234,11247312469643962816,2887206409801525372,6823777595372904363,14246181950980753827,5295490180553663338,9193588443630931220,8270352916782802132,7964177770281420009,4063561401141762946,2655676545066115767,10058307097358834778,10208278334357175167,641852161636231154,14662124018690070478,9359052253591250815,16737493622120793948,12595814187231512526,18268206519121037972,14045448249629350047,9672433949761364897,10877243308526145277,13251814046383439926,7023730052778680336,3424156347055045782,13473201345525097923,16367832785778793600,6950890333950343130,3627442514030823571,3804238906535468168,4125502217078978797,12442956779536783090,3191700936141780923,1280197226816950042,585243116837494823,4649696005501018429,14231452472761227656,6799147274795338990,15437403312258929175,6614361099842851167,2909386732702351601,14510975252831998858,3438541855034953338,18036648244531408098,8961479696870682835,9414154873946596139,9442593412988767614,11911346547278184871,15089944506676065627,13091658763334219779,679689818665902814,10606329606422384305,14863285620991945824,391036408983316588,7244642171690313571,7767947705332002019,2287901266208150919,9351951654441637619,3450608863130049443,8263663830207703747,17222933267823814385,16826488974072405550,7125641650698082301,362854431492800575,15137730086923706772,367716856380992229,1215903537521868539,7958565457648344819,6810246988988111551,1234351687182367819,2504773176636403632,10466257727567912865,15421766621612898688,6748943167571379277,10090126349770373048,3071143243450337460,13708928561418815942,8250897492967031125,15803490455239228533,12668571916058225314,10679267405686591584,17906446756599123688,2918212512048922516,9638147784856933843,577860324267108765,3663326633887310478,13831020359290705448,6913563001968250070,13621735418176044726,10414249691457527226,7789128437688109074,6065636213799883090,5706901583969020519,11886937911113257052,4296780459954070748,5339646113816057550,17750376613234328563,12307285294131815136,874388525115248761,5679923933089484182,9058129872280812335,6339579440649043553,5507346566744736870,1156644192946102747,3071545109697521264,15107148515686766082,6408881488518581467,9368228719566103301,12852520433437725986,16134025146768108481,15472043020174720599,782559193014395400,4574057478495587789,9153804063456455781,16449707336581591722,12986378632703860358,7252433856456134815,3841496634397945441,18083742265120548967,5925310070809175686,16579866457043705741,17652088222816806078,17713845140623549843,11574500946345698362,8036500777710470244,8124307984714243827,5985753439930573179,17232899968597888629,8053438120249200160,1275780868985593028,11260055398433319540,3915445694396385311,12318354878564443468,3379797073520435749,2319780129870158454,9510018842685462540,1883834758305466284,7423433160623615986,17014427612781596474,4345285957156572681,4181167121651261088,6969008718413644087,14735419630123455504,7620050216483422322,44875335510392747,1206149001195214124,7482794389325912840,16700535206850912519,2732757896733284797,14613310990528942490,5395116705249828466,7914424662433796522,10387501059534577956,7010931576714807203,13692999890406111810,5299121961666776311,15432493334948750074,8025510436044083406,16055397586981910665,4584277877586787299,17458137180512713281,13516179234945721638,317686774357948100])
open PySem PySem.W PyProof.Rows
set_option maxRecDepth 100000 in
set_option maxHeartbeats 0 in
theorem PySem.Challenge.cw_anymeaning_k62_whole_forged_marks_holds : PySem.Challenge.rw_anymeaning_k62_whole_forged_marks.Holds := by
 w_on;o_law;k_head;(case hw=>w_witness2)
 k_fill
 refine L2.DV (l:=PySem.Challenge.rw_anymeaning_k62_whole_forged_marks) (n:=63) (k:=220+3) (x:="_law_script") (CX:=L2.fX) (sp:=fun K=>DN.KS K M62.fN M62.nF (M62.gF 110 32)) rfl (by decide) rfl ⟨rfl,by decide,by decide⟩ (fun w h Y=>PySem.W.km_in_of Y) (fun w h Y=>DN.Kv Y (by kernel_rfl)) ?F (fun K H a ns hl hO hS cA=>DN.Hx hO hS (M62.main ns hl)) (fun _ _ _ _ z=>z)
 case F =>
  intro w mg fa h KX G hmg
  refine DN.Hy ?_
  refine' M62.JJ KX G hmg ?a0 ?a1 ?a2 ?a3 ?a4 ?a5 ?a6 ?a7 ?a8 ?a9 ?a10 ?a11 ?a12 ?a13 ?a14 ?a15 ?a16 ?a17 ?a18 ?a19 ?a20 ?a21 ?a22 ?a23 ?c0 ?c1 ?c2 ?c3 ?c4 ?c5 ?c6 ?c7 ?c8 ?c9 ?c10 ?c11 ?c12 ?c13 ?c14 ?c15 ?c16 ?c17 ?c18 ?c19 ?c20 ?c21 ?c22 ?c23 ?o1 ?o2 ?e3 ?f3 ?I3 ?n3_0 ?e4 ?f4 ?I4 ?n4_0 ?e5 ?f5 ?I5 ?n5_0 ?n5_1 ?e6 ?f6 ?I6 ?n6_0 ?n6_1 ?o8 ?o9 ?e10 ?f10 ?I10 ?n10_0 ?e11 ?f11 ?I11 ?n11_0 ?n11_1 ?e12 ?f12 ?I12 ?n12_0 ?n12_1 ?n12_2 ?e13 ?f13 ?I13 ?n13_0 ?n13_1 ?e14 ?f14 ?I14 ?n14_0 ?n14_1 ?n14_2 ?e15 ?f15 ?I15 ?n15_0 ?n15_1 ?n15_2 ?n15_3 ?e16 ?f16 ?I16 ?n16_0 ?n16_1 ?e18 ?f18 ?I18 ?n18_0 ?e19 ?f19 ?I19 ?n19_0 ?n19_1 ?e21 ?f21 ?I21 ?n21_0 ?e22 ?f22 ?I22 ?n22_0 ?n22_1 ?n22_2 ?e23 ?f23 ?I23 ?n23_0 ?n23_1 ?b0 ?D0 ?b1 ?D1 ?b2 ?D2 ?b3 ?D3 ?b4 ?D4 ?b5 ?D5 ?b6 ?D6 ?b7 ?D7 ?b8 ?D8 ?b9 ?D9 ?b10 ?D10 ?b11 ?D11 ?b12 ?D12 ?b13 ?D13 ?b14 ?D14 ?b15 ?D15 ?b16 ?D16 ?b17 ?D17 ?b18 ?D18 ?b19 ?D19 ?b20 ?D20 ?b21 ?D21 ?b22 ?D22 ?b23 ?D23 ?b24 ?D24 ?b25 ?D25 ?b26 ?D26 ?b27 ?D27 ?b28 ?D28 ?b29 ?D29 ?b30 ?D30 ?b31 ?D31 ?b32 ?D32 ?m33_0 ?m33_1 ?m33_2 ?m33_3 ?m33_4 ?m33_5 ?m33_6 ?g33 ?D33 ?m34_1 ?g34 ?D34 ?m35_2 ?g35 ?D35 ?m36_3 ?g36 ?D36 ?m37_4 ?g37 ?D37 ?m38_5 ?g38 ?D38 ?m39_6 ?g39 ?D39 ?m40_14 ?g40 ?D40 ?m41_14 ?g41 ?D41 ?m42_15 ?g42 ?D42 ?m43_15 ?g43 ?D43 ?m44_15 ?g44 ?D44 ?m45_17 ?g45 ?D45 ?m46_18 ?g46 ?D46 ?m47_20 ?m47_22 ?m47_23 ?g47 ?D47 ?m48_20 ?m48_21 ?g48 ?D48 ?m49_21 ?g49 ?D49 ?m50_22 ?g50 ?D50 ?m51_23 ?g51 ?D51 ?wChoice ?wDeed ?wKept ?wRow ?wSkip ?wStop ?wbool ?bxDEEDS ?lxDEEDS ?bxDONE ?bxENDS ?lxENDS ?bxEVERY ?bxFOUND ?bxHUNG ?bxLETTERS ?lxLETTERS ?bxSETTINGS ?bxSTOPPED ?zall ?zany ?zbool ?zdict ?zenumerate ?zisinstance ?zlen ?zlist ?zrange
  (case a0|a1|a2|a3|a4|a5|a6|a7|a8|a9|a10|a11|a12|a13|a14|a15|a16|a17|a18|a19|a20|a21|a22|a23|o1|o2|e3|f3|n3_0|e4|f4|n4_0|e5|f5|n5_0|n5_1|e6|f6|n6_0|n6_1|o8|o9|e10|f10|n10_0|e11|f11|n11_0|n11_1|e12|f12|n12_0|n12_1|n12_2|e13|f13|n13_0|n13_1|e14|f14|n14_0|n14_1|n14_2|e15|f15|n15_0|n15_1|n15_2|n15_3|e16|f16|n16_0|n16_1|e18|f18|n18_0|e19|f19|n19_0|n19_1|e21|f21|n21_0|e22|f22|n22_0|n22_1|n22_2|e23|f23|n23_0|n23_1|b0|b1|b2|b3|b4|b5|b6|b7|b8|b9|b10|b11|b12|b13|b14|b15|b16|b17|b18|b19|b20|b21|b22|b23|b24|b25|b26|b27|b28|b29|b30|b31|b32|m33_0|m33_1|m33_2|m33_3|m33_4|m33_5|m33_6|g33|m34_1|g34|m35_2|g35|m36_3|g36|m37_4|g37|m38_5|g38|m39_6|g39|m40_14|g40|m41_14|g41|m42_15|g42|m43_15|g43|m44_15|g44|m45_17|g45|m46_18|g46|m47_20|m47_22|m47_23|g47|m48_20|m48_21|g48|m49_21|g49|m50_22|g50|m51_23|g51|bxDEEDS|lxDEEDS|bxDONE|bxENDS|lxENDS|bxEVERY|bxFOUND|bxHUNG|bxLETTERS|lxLETTERS|bxSETTINGS|bxSTOPPED|zall|zany|zbool|zdict|zenumerate|zisinstance|zlen|zlist|zrange=>k_is)
  (case c0|c1|c2|c3|c4|c5|c6|c7|c8|c9|c10|c11|c12|c13|c14|c15|c16|c17|c18|c19|c20|c21|c22|c23=>exact⟨by k_is,by k_is,by k_is,by k_is,by k_is,by k_is,by k_is,by k_is,by k_is,by k_is⟩)
  (case I3|I4|I5|I6|I10|I11|I12|I13|I14|I15|I16|I18|I19|I21|I22|I23|D0|D1|D2|D3|D4|D5|D6|D7|D8|D9|D10|D11|D12|D13|D14|D15|D17|D18|D19|D20|D21|D22|D23|D24|D25|D26|D27|D28|D29|D30|D31|D32|D33|D34|D35|D36|D37|D38|D39|D40|D41|D42|D43|D44|D45|D46|D47|D48|D49|D50|D51=>(refine' L2.Hm ?l ?c ?k;(case l=>k_is);(case c=>k_is);(case k=>k_is)))
  (case wChoice|wDeed|wKept|wRow|wSkip|wStop|wbool=>(repeat refine⟨by kit_is,?_⟩);exact trivial)
  (case D16=>(refine' DN.Ir ?l ?i ?k ?cl ?cp ?ch ?ct;(case l=>k_is);(case i=>k_is);(case k=>k_is);(case cl=>k_is);(case cp=>exact rfl);(case ch=>kernel_rfl);(case ct=>decide)))
#print axioms PySem.Challenge.cw_anymeaning_k62_whole_forged_marks_holds
end
