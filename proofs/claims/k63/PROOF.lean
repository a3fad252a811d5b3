import PyProof.Rows.All
import Wide.All
import OpenK.AllK
import Wide.FinOn
import Lean
import PyProof.EqAt
import PyProof.EqKinds
import PyProof.TupleCall
import PyProof.CompFree
import PyProof.NeKinds
import PyProof.Rows.SumAny
import KE.KNest
import KE.KLam
import KE.KNestM
import KE.LcSums
import PyProof.EnumFor
import PyProof.EnumMake
import PyProof.EnumStmt
import PyProof.CompUse
import PyProof.RulesTry
import PyProof.StrCalls2
import PyProof.StrCalls5
import PyProof.StrLawsTight
import PyProof.Rows.StrNews2
import PyProof.Rows.StrItems
import KE.KRevIter
import PyProof.PureStr
import PyProof.SliceStr2
import PyProof.StrLawsIdx
import PyProof.WalkInts
import PyProof.SeqI3
import PyProof.IsRules
import PyProof.StationsW
import PyProof.ExcClass2
import PyProof.PassesOwn
import PyProof.Rows.Catch
import PyProof.Rows.CatchOwn
import OpenK.KOwn
import PyProof.Draws
import PySem.Challenge.RW_anymeaning_k63_words_that_break
set_option Elab.async false
set_option linter.all false
set_option maxRecDepth 100000
set_option maxHeartbeats 4000000
set_option hygiene false
local macro_rules|`(.(A))=>`((mzOf t ys fit))
local macro_rules|`(.(B))=>`((.lst (ys.map Sy.pv)))
local macro_rules|`(.(C))=>`((fun _ _=>rfl))
local macro_rules|`(.(D))=>`((.lst (ns.map PV.int)))
local macro_rules|`(.(E))=>`((model X.prog X.w))
local macro_rules|`(.(G))=>`((gI X scope hp3.objs.size (cy own caps) { s2 with heap:=hp3 } H3 fp))
local macro_rules|`(.(H))=>`((ys.map Sy.pv))
local macro_rules|`(.(I))=>`((ns.map PV.int))
local macro_rules|`(.(J))=>`(⟨rfl,by decide +kernel,by decide +kernel,⟨⟨rfl,rfl,Or.inl rfl⟩,True.intro⟩,rfl⟩)
local macro_rules|`(.(K))=>`(((backTo cpos (starEach [e] X.env)).all (fun x=> !x.1) && (backToKw cpos (keywordEach [] X.env)).all (fun x=>x.1.isSome) && decide (([e]:List Expr).length + ([]:List Keyword).length + (if ([]:List Keyword).isEmpty then 0 else 1) < 30)))
local macro_rules|`(.(L))=>`(("__debug__":Str))
local macro_rules|`(.(M))=>`(⟨⟨rfl,rfl,Or.inl rfl⟩,True.intro⟩)
local macro_rules|`(.(N))=>`((gI X scope C (cy own caps) s₀ H₀ fp))
local macro_rules|`(.(O))=>`((dCons (ae 1) dNil))
local macro_rules|`(.(P))=>`((fR t ys fit bg S m s6 k (.own (.lst (C.map npv))) s9 s10 s11 (.v (.int (r:Int))) (.v (.int (x:Int)))))
local macro_rules|`(.(Q))=>`((a_cons (p_var 1) a_nil))
local macro_rules|`(.(R))=>`((pl ++ (s:Int) :: x :: ts))
local macro_rules|`(.(S))=>`(["self","setting"])
local macro_rules|`(.(T))=>`((s.heap.objs.size + 1))
local macro_rules|`(.(U))=>`((false,eval e X.env))
local macro_rules|`(.(V))=>`((lU t ys S bg z (s0 ++ [x]) y r (.v (.int (k:Int))) s9 (.v (.str W)) (.v (.int (T:Nat)))))
local macro_rules|`(.(W))=>`((backTo pos (starEach es X.env)))
local macro_rules|`(.(X))=>`((.own (.lst (C.map npv))))
local macro_rules|`(.(Y))=>`((rwN t r (s:Int)))
local macro_rules|`(.(Z))=>`((gdS ys &&& bef.mk))
local macro_rules|`(.(Aa))=>`((bA (dCons (dC (.int (16))) dNil)))
local macro_rules|`(.(Ab))=>`((by decide +kernel))
local macro_rules|`(.(Ac))=>`((Nat.le_refl _))
local macro_rules|`(.(Ad))=>`(("__classdict__":Str))
local macro_rules|`(.(Ae))=>`((p_callB call_len cb_len rfl C.z_len PySem.boot_len (a_consB (b_var 1) a_nil)))
local macro_rules|`(.(Af))=>`((.int (pre.length:Int)))
local macro_rules|`(.(Ag))=>`((dCall bLen (dCons (dSee 1) dNil)))
local macro_rules|`(.(Ah))=>`((bi t ys fit st))
local macro_rules|`(.(Ai))=>`((I7.pin (b,o) (List.mem_append_right _ (List.mem_append_right _ (cW hb e)))))
local macro_rules|`(.(Aj))=>`((d2 fIx (dSee 5) (dC (.int 1))))
local macro_rules|`(.(Ak))=>`((.int (r:Int)))
local macro_rules|`(.(Al))=>`((fun (b:Int × Sl) (w:PV)=>match w with | .int i=>((if t.at i=true then b.1 + 1 * 2 ^ i.toNat else b.1),Sl.v w) | _=>b))
local macro_rules|`(.(Am))=>`((i_rng1 rfl C.z_range (a_cons (p_topI rfl g_SETTINGS) a_nil)))
local macro_rules|`(.(An))=>`((.int (s:Int)))
local macro_rules|`(.(Ao))=>`((dCons (ae 0) dNil))
local macro_rules|`(.(Ap))=>`((d2 fIx (dSee 1) (dC (.int 0))))
local macro_rules|`(.(Aq))=>`((dCons (ae 12) (dCons (ae 13) dNil)))
local macro_rules|`(.(Ar))=>`((.int (m:Int)))
local macro_rules|`(.(As))=>`((.Call (.Name x p) (e :: es) [] pos))
local macro_rules|`(.(At))=>`((.v (.int (T:Nat))))
local macro_rules|`(.(Au))=>`(⟨c,ow,ps,x,R,e1,fun v H' s r=> ?_⟩)
local macro_rules|`(.(Av))=>`((aV (i:=0) rfl (vis "self" (by simp))))
local macro_rules|`(.(Aw))=>`((dOfN (cJ (dSee 2) (gp (dC (.int 1))) hG)))
local macro_rules|`(.(Ax))=>`((.tup [.str "done",.str "stopped",.str "hung"]))
local macro_rules|`(.(Ay))=>`((pre.length:Int))
local macro_rules|`(.(Az))=>`((.lst ((eO st).map npv)))
local macro_rules|`(.(AA))=>`((.int (k:Int)))
local macro_rules|`(.(AB))=>`((cr (b_var 2) (b_of p_int)))
local macro_rules|`(.(AC))=>`((d2 fIx (dSee 0) (dC (.int 0))))
local macro_rules|`(.(AD))=>`((.Call (.Attribute o m apos) (e :: es) [] pos))
local macro_rules|`(.(AE))=>`((ak fun _=>rfl))
local macro_rules|`(.(AF))=>`((t.ders.length + 1))
local macro_rules|`(.(AG))=>`(["self","deed","setting"])
local macro_rules|`(.(AH))=>`((s.heap.push PySem.W.emptyDict))
local macro_rules|`(.(AI))=>`((l.map PV.int))
local macro_rules|`(.(AJ))=>`((bJ (bits st)))
local macro_rules|`(.(AK))=>`((ns.map fun (n,k)=>if (k == NameKind.free && env.scope.kind == .function && env.kindOf n == some .cell) then (n,NameKind.cell) else (n,k)))
local macro_rules|`(.(hr $x $s))=>`(br (2*n+4) (A.deeper (PyProof.Rows.envOfC $x (ah $s) s.heap.objs.size f cdv)))
local macro_rules|`(.(bo $l $x $s $d))=>`(nB (iO fS P w K mg base $l $x (ah $s) f cdv A outer s H E).nox (pg cA) (bz $s) ($d (gF n)))
local macro_rules|`(.(ha $e $c $b))=>`(($e).at (uU ($e).F $c rfl fun _ _ _ _ _ _ hr=>$b C I hr))
local macro_rules|`(.(fk $e $c $b))=>`(uU $e $c rfl fun _ _ _ _ _ _ hr=>$b C I hr)
local macro_rules|`(.(nf $x $k))=>`(show ($x : Str)∉fN $k by decide+kernel)
local macro_rules|`(.(mc $l $m $o $b))=>`(⟨($l).cls,_,_,_,$m,$o,$b⟩)
local macro_rules|`(.(gn $l))=>`(fun _ _ _ _=>(bf (i:=0) (show ($l : List Str).Nodup by decide+kernel) rfl (Or.inl rfl)))
local macro_rules|`(.(ta $x $l $k))=>`(FnAt P w K mg base fS (2*n+3) $x (tX K (pg cA) $l (gF n $k)))
local macro_rules|`(.(df $x $s $l))=>`(∃ f fd,yh K mg $x $s $l f fd)
local macro_rules|`(.(ns $a $s))=>`(PySem.W.nsIn K mainGlobals $s = some (some (.ref $a)))
local macro_rules|`(.(no $s))=>`(PySem.W.nsIn K mainGlobals $s = some none)
local macro_rules|`(.(fi $c $s $a))=>`(PySem.W.findIn K (.ref $c) $s = some (some (.ref $a)))
local macro_rules|`(.(fo $c $s))=>`(PySem.W.findIn K (.ref $c) $s = some none)
local macro_rules|`(.(fx $a))=>`(PySem.W.isFn K (.ref $a) = true)
local macro_rules|`(.(mg $b))=>`(PySem.W.mg_of X G $b)
local macro_rules|`(.(mz $b))=>`(PySem.W.mg_none_of X G $b)
local macro_rules|`(.(fr $f $d $n $b))=>`(⟨_,$f,$d,($d).binds $n,PySem.W.mg_of X G $b⟩)
local macro_rules|`(.(cf $k $e $f))=>`(⟨($k).mks,$e,$f,($k).kp⟩)
local macro_rules|`(.(mt $d $g $m))=>`(⟨$m,$g,($d).kp⟩)
local macro_rules|`(.(fl $k $n $c $r))=>`(yt ($k).cls $n (show (fN $c).Nodup by decide+kernel) rfl $r)
local macro_rules|`(.(AL))=>`(fun _ _ _ _ _ _ us hl=>by rcases us with _ | ⟨_,_ | ⟨_,_⟩⟩ <;> first | (cases hl; done) | rfl)
local macro_rules|`(.(AM))=>`(fun _ _ _ _ _ _ us hl=>by rcases us with _ | ⟨_,_ | ⟨_,_ | ⟨_,_⟩⟩⟩ <;> first | (cases hl; done) | rfl)
local macro_rules|`(.(AN))=>`(fun _ _ _ _ _ _ us hl=>by rcases us with _ | ⟨_,_ | ⟨_,_ | ⟨_,_ | ⟨_,_⟩⟩⟩⟩ <;> first | (cases hl; done) | rfl)
local macro_rules|`(.(AO))=>`(fun _ _ _ _ _ _ us hl=>by rcases us with _ | ⟨_,_ | ⟨_,_ | ⟨_,_ | ⟨_,_ | ⟨_,_⟩⟩⟩⟩⟩ <;> first | (cases hl; done) | rfl)
local macro_rules|`(.(AP))=>`(fun _ _ _ _ _ _ us hl=>by rcases us with _ | ⟨_,_ | ⟨_,_ | ⟨_,_ | ⟨_,_ | ⟨_,_ | ⟨_,_⟩⟩⟩⟩⟩⟩ <;> first | (cases hl; done) | rfl)
local macro_rules|`(.(AQ))=>`(fun _ _ _ _ _ _ us hl=>by rcases us with _ | ⟨_,_ | ⟨_,_ | ⟨_,_ | ⟨_,_ | ⟨_,_ | ⟨_,_ | ⟨_,_⟩⟩⟩⟩⟩⟩⟩ <;> first | (cases hl; done) | rfl)
local macro_rules|`(.(AR))=>`(fun _ _ _ _ _ _ us hl=>by rcases us with _ | ⟨_,_ | ⟨_,_ | ⟨_,_ | ⟨_,_ | ⟨_,_ | ⟨_,_ | ⟨_,_ | ⟨_,_⟩⟩⟩⟩⟩⟩⟩⟩ <;> first | (cases hl; done) | rfl)
local macro_rules|`(.(AS))=>`(fun _ _ _ _ _ _ us hl=>by rcases us with _ | ⟨_,_ | ⟨_,_ | ⟨_,_ | ⟨_,_ | ⟨_,_ | ⟨_,_ | ⟨_,_ | ⟨_,_ | ⟨_,_⟩⟩⟩⟩⟩⟩⟩⟩⟩ <;> first | (cases hl; done) | rfl)
local macro_rules|`(.(AT))=>`(([(.type "NoneType"),(.type "bool"),(.type "int"),(.type "str"),(.type "tuple"),(.type "list"),(.type "dict"),(.ref C0),(.ref C1),(.ref C2),(.ref C3),(.ref C4),(.ref C5),(.ref C6),(.ref C7),(.ref C8),(.ref C9),(.ref C10),(.ref C11),(.ref C12),(.ref C13),(.ref C14),(.ref C15),(.ref C16),(.ref C17),(.ref C18),(.ref C19),(.ref C20),(.ref C21),(.ref C22),(.ref C23)] : List Value))
local macro_rules|`(command|#synth .(gq $i:ident $k:num $r $d))=>`(theorem $i (n : Nat) (ws : List PV) : gF (n+1) $k ws = $r ($d (gF n)) ws:=rfl)
local macro_rules|`(tactic|exact .(obq $f:ident $d:ident))=>`(tactic| obtain ⟨$f:ident,$d:ident⟩:=$d)
local macro_rules|`(command|#synth .(is $i:ident $a:num $n:num [$ks,*] [$cs,*]))=>do{let mut r:Array Lean.Syntax:=#[];for q in[0:a.getNat] do{let b:=Lean.mkIdent (if(ks.getElems.map fun x=>x.raw.isNatLit?).contains (some q) then`true else`false);let m:=Lean.mkIdent (.mkSimple s!"{i.getId}_{q}");r:=r.push (<-`(@[simp]theorem $m :kI $i $(Lean.quote q)= .ok (.bl $b):=rfl))};for q in[0:n.getNat] do{let b:=Lean.mkIdent (if(cs.getElems.map fun x=>x.raw.isNatLit?).contains (some q) then`true else`false);let m:=Lean.mkIdent (.mkSimple s!"{i.getId}_{q}_");r:=r.push (<-`(@[simp]theorem $m :kI $i ($(Lean.quote q)+10)= .ok (.bl $b):=rfl))};return Lean.mkNullNode r}
local macro_rules|`(command|#synth .(tw [$ks,*]))=>do{let mut r:Array Lean.Syntax:=#[];for k in ks.getElems do{let m:=Lean.mkIdent (.str `PySem.W.Fast s!"tw{k.raw.isNatLit?.getD 0}");r:=r.push (<-`(noncomputable def $m :Nat:=0))};return Lean.mkNullNode r}
set_option hygiene true
abbrev Fg:=PySem.W.Frag
noncomputable section
namespace L2
open PySem PySem.Spec PyProof.Rows
abbrev Key:=Sum Int Str
noncomputable def kM:Key->Value->Bool
 |.inl k,v=>Value.isInt k v
 |.inr x,v=>Value.isStrOf x v
def GI(w:World):Key->Int
 |.inl k=>hashInt k
 |.inr x=>hashStr w x
theorem bF:∀{k:Key} {v:Value},kM k v=true->(∃i t,k=Sum.inl i/\v=Value.int i t)\/(∃x t,k=Sum.inr x/\v=Value.str x t)
 |.inl i,v,h=>by
  obtain⟨t,e⟩:=Value.isInt_shape (k:=i) (v:=v) h
  exact .inl ⟨i,t,rfl,e⟩
 |.inr x,v,h=>by
  obtain⟨t,e⟩:=Value.isStrOf_shape (x:=x) (v:=v) h
  exact .inr ⟨x,t,rfl,e⟩
theorem ro(i:Int)(t:Tok):kM (.inl i) (.int i t)=true:=by simp[kM,Value.isInt]
theorem rq(x:Str)(t:Tok):kM (.inr x) (.str x t)=true:=by simp[kM,Value.isStrOf]
theorem zY(a b:Int):decide ((Sum.inl a:Key)=Sum.inl b)=(a == b):=by
 by_cases e:a=b
 ·subst e;simp
 ·have h:¬(Sum.inl a:Key)=Sum.inl b:=fun q=>e (Sum.inl.inj q)
  rw[decide_eq_false h]
  exact(beq_eq_false_iff_ne.mpr e).symm
theorem zZ(a b:Str):decide ((Sum.inr a:Key)=Sum.inr b)=decide (a=b):=by
 by_cases e:a=b
 ·subst e;simp
 ·have h:¬(Sum.inr a:Key)=Sum.inr b:=fun q=>e (Sum.inr.inj q)
  rw[decide_eq_false h,decide_eq_false e]
theorem A3(a:Int)(b:Str):decide ((Sum.inl a:Key)=Sum.inr b)=false:=decide_eq_false (fun q=>nomatch q)
theorem A4(a:Str)(b:Int):decide ((Sum.inr a:Key)=Sum.inl b)=false:=decide_eq_false (fun q=>nomatch q)
noncomputable def bG(prog:Program)(w:World):PySem.KeyKind prog w Key where
 is:=kM
 hash:=GI w
 inj:=fun v a b ha hb=>by
  rcases bF ha with⟨i,t,rfl,rfl⟩|⟨x,t,rfl,rfl⟩
  ·rcases bF hb with⟨j,u,rfl,e⟩|⟨y,u,rfl,e⟩
   ·injection e with e1 _;rw[e1]
   ·exact nomatch e
  ·rcases bF hb with⟨j,u,rfl,e⟩|⟨y,u,rfl,e⟩
   ·exact nomatch e
   ·injection e with e1 _;rw[e1]
 byValue:=fun k v h=>by
  rcases bF h with⟨i,t,rfl,rfl⟩|⟨x,t,rfl,rfl⟩ <;> rfl
 pyHash:=fun hv h=>by
  rcases bF hv with⟨i,t,rfl,rfl⟩|⟨x,t,rfl,rfl⟩
  ·exact wpAny_pyHash_int h
  ·exact wpAny_pyHash_str h
 eqBool:=fun hu hv h=>by
  rcases bF hu with⟨i,t,rfl,rfl⟩|⟨x,t,rfl,rfl⟩
  ·rcases bF hv with⟨j,u,rfl,rfl⟩|⟨y,u,rfl,rfl⟩
   ·rw[zY]at h;exact wpAny_eqBool_int h
   ·rw[A3]at h;exact SeqAt.EqAt.int_str i t y u _ _ _ _ h
  ·rcases bF hv with⟨j,u,rfl,rfl⟩|⟨y,u,rfl,rfl⟩
   ·rw[A4]at h;exact SeqAt.EqAt.str_int x t j u _ _ _ _ h
   ·rw[zZ]at h;exact wpAny_eqBool_str h
 «strs» :=fun k x t v h=>by
  rcases bF h with⟨i,u,rfl,e⟩|⟨y,u,rfl,e⟩
  ·exact nomatch e
  ·injection e with e1 _
   subst e1
   cases v <;> rfl
theorem nD(prog:Program)(w:World)(i:Int)(t:Tok):(bG prog w).is (.inl i) (.int i t)=true:=ro i t
theorem nE(prog:Program)(w:World)(x:Str)(t:Tok):(bG prog w).is (.inr x) (.str x t)=true:=rq x t
end L2
namespace L2
open PySem PySem.Spec PyProof.Rows
inductive V where
 |non|bl (b:Bool)|int (i:Int)|str (x:Str)|byt (b:Array UInt8)|flt (b:UInt64)|ref (a:Addr)|ty (n:String)
 deriving DecidableEq
def aQ:V->Value->Prop
 |.non,u=>u=Value.none
 |.bl b,u=>u=Value.bool b
 |.int i,u=>∃t,u=Value.int i t
 |.str x,u=>∃t,u=Value.str x t
 |.byt b,u=>∃t,u=Value.bytes b t
 |.flt b,u=>∃t,u=Value.float b t
 |.ref a,u=>u=Value.ref a
 |.ty n,u=>u=Value.type n
abbrev aR:List V->List Value->Prop:=Paired aQ
theorem aR.length{xs:List V}{us:List Value}(r:aR xs us):xs.length=us.length:=Paired.length r
theorem aR.get:∀{xs:List V} {us:List Value} {i:Nat} {x:V},aR xs us->xs[i]? =some x->∃u,us[i]? =some u/\aQ x u
 |_,_,_,_,.nil,e=>by simp at e
 |_,_,0,_,.cons r _,e=>by simp at e;subst e;exact⟨_,rfl,r⟩
 |_,_,i+1,x,.cons _ t,e=>by
  obtain⟨u,h1,h2⟩:=aR.get (i:=i) (x:=x) t (by simpa using e)
  exact⟨u,by simpa using h1,h2⟩
theorem aR.append:∀{xs ys:List V} {us ws:List Value},aR xs us->aR ys ws->aR (xs++ys) (us++ws)
 |_,_,_,_,.nil,s=>s
 |_,_,_,_,.cons r t,s=> .cons r (aR.append t s)
theorem aR.take:∀{xs:List V} {us:List Value} (n:Nat),aR xs us->aR (xs.take n) (us.take n)
 |_,_,0,_=> .nil
 |_,_,_+1,.nil=> .nil
 |_,_,n+1,.cons r t=> .cons r (aR.take n t)
theorem aR.drop:∀{xs:List V} {us:List Value} (n:Nat),aR xs us->aR (xs.drop n) (us.drop n)
 |_,_,0,r=>r
 |_,_,_+1,.nil=> .nil
 |_,_,n+1,.cons _ t=>aR.drop n t
def fP:Option V->Option Value->Prop
 |some v,some u=>aQ v u
 |none,none=>True
 |_,_=>False
def KV{κ :Type}:List (κ×V)->List (κ×Value)->Prop:=Paired fun(p: κ×V) (q: κ×Value)=>p.1=q.1/\aQ p.2 q.2
def kV:Key->V
 |.inl i=> .int i
 |.inr x=> .str x
inductive HO where
  |lst (xs:List V)
  |tup (xs:List V)
  |dK (kvs:List (Key×V))|dT (kvs:List (List Key×V))
  |set (S:Int->Bool) (n:Nat)
  |ins (C dx:Addr) (fs:List (Str×V))
  |own (x:Addr)
  |xd (fs:List (Str×V))
  |met (f x:Addr)
  |rng (lo hi:Int)
  |frz (o:Obj) (u:HO)
  |tbl (q:Nat)
  |ext (φ :Heap->Prop)
abbrev Hp:=Addr->Option HO
def upd(H:Hp)(a:Addr)(o:HO):Hp:=fun b=>if b=a then some o else H b
theorem au{H:Hp}{a:Addr}{o:HO}:upd H a o a=some o:=by unfold upd;rw[if_pos rfl]
theorem aq{H:Hp}{a b:Addr}{o:HO}(h:b≠a):upd H a o b=H b:=by unfold upd;rw[if_neg h]
theorem fh{H:Hp}{a:Addr}{o u:HO}:upd (upd H a o) a u=upd H a u:=by
 funext b;unfold upd;split <;> rfl
theorem CY{H:Hp}{a b:Addr}{o u:HO}(h:H a=some o)(h':H b=some u)(d:o≠u):a≠b:=by
 intro e;subst e;rw[h]at h';exact d (Option.some.inj h')
theorem aO{H:Hp}{a b:Addr}{o:HO}(h:H a=some o)(h':H b=none):a≠b:=by
 intro e;subst e;rw[h]at h';cases h'
def tZ(o:Obj):Prop:=∃(vs:Array Value) (q:Str) (t:Tok),o.data= .fields vs/\vs[1]? =some (.str q t)
noncomputable section
variable(P:Program)(w:World)
def bE(H:Hp)(h:Heap)(a:Addr):HO->Prop
 |.lst xs=>xs.length<=sizeLine/\ ∃(its:List Value) (n:Nat),aR xs its/\h.get? a=some { cls:= .type "list",data:= .seq its.toArray n }
 |.tup xs=>xs.length<=sizeLine/\ ∃its:List Value,aR xs its/\IsTup h a its.toArray
 |.dK kvs=>kvs.length<=sizeLine/\(a == sysModules)=false/\ ∃vs,KV kvs vs/\h.DictOf (bG P w) a vs
 |.dT kvs=>kvs.length<=sizeLine/\(a == sysModules)=false/\ ∃xs:List (List Key×Addr×Value),
   Paired (fun(p:List Key×V) (q:List Key×Addr×Value)=>p.1=q.1/\H q.2.1=some (.tup (p.1.map kV))/\aQ p.2 q.2.2) kvs xs /\
   ∃o es ep,h.get? a=some o/\o.ExactDict/\o.data= .dict es ep/\es.toList=xs.map (entryOfKey (tupleKind (bG P w)))/\(xs.map (·.1)).Nodup
 |.set S n=>h.SetOf (intKind P w) a S n
 |.ins C dx fs=>H dx=some (.own a)/\fs.length<=1000/\dx≠a/\h.get? a=some (PySem.W.instObj C dx) /\
   ∃mA,h.Ns1 dx mA/\(∀f,fP (fs.lookup f) (mA f))/\PySem.Within mA (fs.map (·.1))
 |.own _=>∃o,h.get? a=some o
 |.xd fs=>∃mA,h.Ns1 a mA/\ ∀f,fP (fs.lookup f) (mA f)
 |.rng lo hi=>∃t u v,h.get? a=some { cls:= .type "range",data:= .fields #[.int lo t,.int hi u,.int 1 v] }
 |.frz o u=>h.get? a=some o/\bE H h a u
 |.tbl _=>∃ps:Array Value,h.get? a=some (PySem.W.tabObj ps)/\TriplesOk ps.toList/\ ∀pos cv,codeAmong pos ps.toList=some cv->∃c oc u,cv= .ref c/\H c=some (.frz oc u)/\tZ oc
 |.met f x=>h.get? a=some (PySem.W.methodObj (.ref f) (.ref x))
 |.ext φ => φ h/\(∃o,h.get? a=some o)/\ ∀h1 h2:Heap, φ h1->(∀o,h1.get? a=some o->h2.get? a=some o)-> φ h2
def gD(H:Hp)(h:Heap):Prop:=∀a o,H a=some o->bE P w H h a o
end
noncomputable section
variable{P:Program}{w:World}{H H':Hp}{h h':Heap}{a:Addr}{o:HO}
theorem bE.lt(x:bE P w H h a o):a<h.objs.size:=by
 cases o with
 |lst xs=>obtain⟨_,_,_,_,e⟩:=x;exact Heap.lt_size e
 |tup xs=>obtain⟨_,_,_,p⟩:=x;exact p.lt
 |dK kvs=>obtain⟨_,_,_,_,o,_,_,e,_⟩:=x;exact Heap.lt_size e
 |dT kvs=>obtain⟨_,_,_,_,o,_,_,e,_⟩:=x;exact Heap.lt_size e
 |set S n=>obtain⟨o,_,_,_,e,_⟩:=x;exact Heap.lt_size e
 |ins C dx fs=>obtain⟨_,_,_,e,_⟩:=x;exact Heap.lt_size e
 |own y=>obtain⟨_,e⟩:=x;exact Heap.lt_size e
 |xd fs=>obtain⟨_,⟨_,_,_,e,_⟩,_⟩:=x;exact Heap.lt_size e
 |rng lo hi=>obtain⟨_,_,_,e⟩:=x;exact Heap.lt_size e
 |frz ob u=>obtain⟨e,_⟩:=x;exact Heap.lt_size e
 |tbl q=>obtain⟨_,e,_⟩:=x;exact Heap.lt_size e
 |met f y=>exact Heap.lt_size (show h.get? a=some _ from x)
 |ext φ =>obtain⟨_,⟨_,e⟩,_⟩:=x;exact Heap.lt_size e
theorem Paired.mapP{α β :Type}{F G: α -> β ->Prop}:∀{l₁:List α} {l₂:List β},Paired F l₁ l₂->(∀a b,F a b->G a b)->Paired G l₁ l₂
 |_,_,.nil,_=> .nil
 |_,_,.cons r t,f=> .cons (f _ _ r) (Paired.mapP t f)
theorem bE.stay(x:bE P w H h a o)(k:∀b u,(b=a\/H b=some (.own a))->h.get? b=some u->h'.get? b=some u)
  (ho:∀b,H b=some (.own a)->H' b=some (.own a)) (ht:∀b xs,H b=some (.tup xs)->H' b=some (.tup xs)) (hz:∀b o u,H b=some (.frz o u)->H' b=some (.frz o u)):bE P w H' h' a o:=by
 induction o with
 |lst xs=>obtain⟨z,its,n,r,e⟩:=x;exact⟨z,its,n,r,k _ _ (.inl rfl) e⟩
 |tup xs=>obtain⟨z,its,r,ob,e,c⟩:=x;exact⟨z,its,r,ob,k _ _ (.inl rfl) e,c⟩
 |dK kvs=>obtain⟨z,y,vs,r,ob,es,ep,e,c⟩:=x;exact⟨z,y,vs,r,ob,es,ep,k _ _ (.inl rfl) e,c⟩
 |dT kvs =>
  obtain⟨z,y,xs,r,ob,es,ep,e,c⟩:=x
  exact⟨z,y,xs,Paired.mapP r fun p q z=>⟨z.1,ht _ _ z.2.1,z.2.2⟩,ob,es,ep,k _ _ (.inl rfl) e,c⟩
 |set S n=>obtain⟨ob,es,ep,t,e,c⟩:=x;exact⟨ob,es,ep,t,k _ _ (.inl rfl) e,c⟩
 |ins C dx fs =>
  obtain⟨d,z,ne,e,mA,⟨od,es,ep,e2,c⟩,r⟩:=x
  exact⟨ho _ d,z,ne,k _ _ (.inl rfl) e,mA,⟨od,es,ep,k _ _ (.inr d) e2,c⟩,r⟩
 |own y=>obtain⟨ob,e⟩:=x;exact⟨ob,k _ _ (.inl rfl) e⟩
 |xd fs=>obtain⟨mA,⟨od,es,ep,e,c⟩,r⟩:=x;exact⟨mA,⟨od,es,ep,k _ _ (.inl rfl) e,c⟩,r⟩
 |rng lo hi=>obtain⟨t,u,v,e⟩:=x;exact⟨t,u,v,k _ _ (.inl rfl) e⟩
 |frz ob u ih=>obtain⟨e,q⟩:=x;exact⟨k _ _ (.inl rfl) e,ih q⟩
 |tbl q =>
  obtain⟨ps,e,t,r⟩:=x
  exact⟨ps,k a _ (.inl rfl) e,t,fun pos cv z=>let ⟨c,oc,u,e1,e2,e3⟩:=r pos cv z;⟨c,oc,u,e1,hz _ _ _ e2,e3⟩⟩
 |met f y =>
  have e:h.get? a=some (PySem.W.methodObj (.ref f) (.ref y)):=x
  show h'.get? a=some (PySem.W.methodObj (.ref f) (.ref y))
  exact k a _ (.inl rfl) e
 |ext φ =>obtain⟨p,⟨o,e⟩,st⟩:=x;exact⟨st _ _ p fun o q=>k _ _ (.inl rfl) q,⟨o,k _ _ (.inl rfl) e⟩,st⟩
theorem gD.lt(x:gD P w H h)(e:H a=some o):a<h.objs.size:=(x a o e).lt
theorem gD.fresh(x:gD P w H h)(e:h.objs.size<=a):H a=none:=by
 cases q:H a with
 |none=>rfl
 |some u=>exact absurd (Nat.lt_of_lt_of_le (x.lt q) e) (Nat.lt_irrefl _)
theorem gD.kept(x:gD P w H h)(k:∀b u,h.get? b=some u->h'.get? b=some u):gD P w H h':=fun a o e =>
 (x a o e).stay (fun b u _ q=>k b u q) (fun _ q=>q) (fun _ _ q=>q) fun _ _ _ q=>q
theorem gD.laid(x:gD P w H h)(k:∀b u,h.get? b=some u->h'.get? b=some u)(hp:h.objs.size<=a)(new:bE P w (upd H a o) h' a o):gD P w (upd H a o) h':=fun b u e=>by
 have hn:=x.fresh hp
 by_cases hb:b=a
 ·subst hb;rw[au]at e;cases e;exact new
 ·rw[aq hb]at e
  exact(x b u e).stay (fun c v _ q=>k c v q) (fun c q=>by rw[aq (aO q hn)];exact q) (fun c xs q=>by rw[aq (aO q hn)];exact q) fun c o u q=>by rw[aq (aO q hn)];exact q
end
def Rd(H:Hp)(a:Addr)(u:HO):Prop:=H a=some u\/ ∃o,H a=some (.frz o u)
theorem Rd.ok{P:Program}{w:World}{H:Hp}{h:Heap}{a:Addr}{u:HO}(r:Rd H a u)(x:gD P w H h):bE P w H h a u:=by
 rcases r with r|⟨o,r⟩
 ·exact x a u r
 ·obtain⟨_,q⟩:=x a _ r
  exact q
def CZ:Option HO->Prop
 |some (.lst _)=>True
 |some (.dK _)=>True
 |some (.dT _)=>True
 |some (.set _ _)=>True
 |some (.ins _ _ _)=>True
 |some (.ext _)=>True
 |_=>False
noncomputable section
variable{P:Program}{w:World}{H:Hp}{h h':Heap}{x e:Addr}{o':HO}
theorem gD.write(ok:gD P w H h)(mu:CZ (H x))(he:e=x\/H e=some (.own x))(k:∀b u,b≠e->h.get? b=some u->h'.get? b=some u)(heo:∃u,h'.get? e=some u)
  (new:bE P w (upd H x o') h' x o'):gD P w (upd H x o') h':=fun b u q=>by
 have nown:∀c y,H c=some (.own y)->c≠x:=fun c y r z=>by subst z;rw[r]at mu;exact mu
 have nfrz:∀c o u,H c=some (.frz o u)->c≠x:=fun c o u r z=>by subst z;rw[r]at mu;exact mu
 have ntup:∀c xs,H c=some (.tup xs)->c≠x:=fun c xs r z=>by subst z;rw[r]at mu;exact mu
 by_cases hb:b=x
 ·subst hb;rw[au]at q;cases q;exact new
 ·rw[aq hb]at q
  by_cases hbe:b=e
  ·have q':H b=some (.own x):=by
    rcases he with z|z
    ·exact absurd (hbe.trans z) hb
    ·rw[hbe];exact z
   rw[q]at q';cases q'
   obtain⟨v,hv⟩:=heo
   exact⟨v,by rw[hbe];exact hv⟩
  ·refine(ok b u q).stay (fun c v hc r=>k c v ?_ r) (fun c r=>by rw[aq (nown c b r)];exact r) (fun c xs r=>by rw[aq (ntup c xs r)];exact r) fun c o u r=>by rw[aq (nfrz c o u r)];exact r
   rcases hc with rfl|hc
   ·exact hbe
   ·rintro rfl
    rcases he with z|z
    ·exact nown c b hc z
    ·rw[hc]at z;cases z;exact hb rfl
end
structure Un(fs ex:List Addr)(H H':Hp)(h h':Heap):Prop where
 keep:∀b o,h.get? b=some o->H b=none->b∉fs->b∉ex->h'.get? b=some o
 slot:∀b o,h.get? b=some o->H b=none->b∈fs->b∉ex->∃sl,h'.get? b=some { o with slots:=sl }
 free:∀b o,h.get? b=some o->H b=none->b∉ex->H' b=none
 there:∀b o,h.get? b=some o->b∉ex->∃o',h'.get? b=some o'
 tups:∀b xs,H b=some (.tup xs)->H' b=some (.tup xs)
 frzs:∀b o u,H b=some (.frz o u)->H' b=some (.frz o u)
 tbls:∀b q,H b=some (.tbl q)->H' b=some (.tbl q)
noncomputable section
variable{fs fs' ex ex':List Addr}{H H1 H2:Hp}{h h1 h2 h':Heap}{a x e:Addr}{o:HO}
theorem Un.any(u:Un fs ex H H1 h h1){b:Addr}{ob:Obj}(q:h.get? b=some ob)(n:H b=none)(hx:b∉ex):∃sl,h1.get? b=some { ob with slots:=sl }:=by
 by_cases hb:b∈fs
 ·exact u.slot b ob q n hb hx
 ·exact⟨ob.slots,u.keep b ob q n hb hx⟩
theorem Un.kept(k:∀b u,h.get? b=some u->h'.get? b=some u):Un fs ex H H h h' :=
 ⟨fun b ob q _ _ _=>k b ob q,fun b ob q _ _ _=>⟨ob.slots,k b ob q⟩,fun _ _ _ n _=>n,fun b ob q _=>⟨ob,k b ob q⟩,fun _ _ q=>q,fun _ _ _ q=>q,fun _ _ q=>q⟩
theorem Un.refl:Un fs ex H H h h:=Un.kept fun _ _ q=>q
theorem Un.laid(k:∀b u,h.get? b=some u->h'.get? b=some u)(hp:h.objs.size<=a)(hn:H a=none):Un fs ex H (upd H a o) h h' where
 keep:=fun b u q _ _ _=>k b u q
 slot:=fun b u q _ _ _=>⟨u.slots,k b u q⟩
 free:=fun b u q n _=>by rw[aq (Nat.ne_of_lt (Nat.lt_of_lt_of_le (Heap.lt_size q) hp))];exact n
 there:=fun b u q _=>⟨u,k b u q⟩
 tups:=fun b xs q=>by rw[aq (aO q hn)];exact q
 frzs:=fun b u xs q=>by rw[aq (aO q hn)];exact q
 tbls:=fun b ps q=>by rw[aq (aO q hn)];exact q
theorem Un.write(mu:CZ (H x))(he:e=x\/H e=some (.own x))(k:∀b u,b≠e->h.get? b=some u->h'.get? b=some u)(heo:∃u,h'.get? e=some u):Un fs ex H (upd H x o) h h':=by
 have hx:∀b,H b=none->b≠x:=fun b n z=>by subst z;rw[n]at mu;exact mu
 have hb:∀b,H b=none->b≠e:=fun b n z=>by
  subst z
  rcases he with r|r
  ·exact hx b n r
  ·rw[n]at r;cases r
 have hm:∀b u,H b=some u->¬CZ (some u)->b≠x:=fun b u q nm z=>by subst z;rw[q]at mu;exact nm mu
 refine⟨fun b u q n _ _=>k b u (hb b n) q,fun b u q n _ _=>⟨u.slots,k b u (hb b n) q⟩,fun b u q n _=>by rw[aq (hx b n)];exact n,fun b u q _=> ?_,
  fun b xs q=>by rw[aq (hm b _ q fun z=>z)];exact q,fun b u xs q=>by rw[aq (hm b _ q fun z=>z)];exact q,fun b ps q=>by rw[aq (hm b _ q fun z=>z)];exact q⟩
 by_cases hbe:b=e
 ·subst hbe;exact heo
 ·exact⟨u,k b u hbe q⟩
end
def G2(h:Heap)(H:Hp):List Addr:=(List.range h.objs.size).filter fun a=>(H a).isSome
def kC(h:Heap)(H:Hp):Heap:=PySem.W.hideAll h (G2 h H)
theorem rA(h:Heap)(H:Hp):(kC h H).objs.size=h.objs.size:=PySem.W.hideAll_size _ _
theorem u0{h:Heap}{H:Hp}{b:Addr}{o:Obj}(e:h.get? b=some o)(n:H b=none):(kC h H).get? b=some o :=
 PySem.W.hideAll_get _ e fun hm=>by
  have q:(H b).isSome=true:=(List.mem_filter.mp hm).2
  rw[n]at q;simp at q
theorem xA{h:Heap}{H:Hp}{b:Addr}{o:Obj}(e:(kC h H).get? b=some o):h.get? b=some o/\H b=none:=by
 have e':h.get? b=some o:=PySem.W.of_hideAll (G2 h H) e
 refine⟨e',?_⟩
 cases q:H b with
 |none=>rfl
 |some x =>
  have hm:b∈G2 h H:=List.mem_filter.mpr ⟨List.mem_range.mpr (Heap.lt_size e'),by simp[q]⟩
  have z:(kC h H).get? b=none:=PySem.W.hideAll_none (G2 h H) hm
  rw[z]at e;cases e
noncomputable def xB(g h:Heap)(L:Addr):List (Addr×Obj):=(List.range h.objs.size).filterMap fun a=>if a=L\/(g.get? a).isSome=true then none else(h.get? a).map fun o=>(a,o)
def rest(g h:Heap)(L d:Addr):List (Addr×Obj):=(xB g h L).filter fun p=>decide (p.1≠d)
end L2
namespace L2
open PySem PySem.Spec PyProof.Rows
structure Bs extends Heap where
 tabs:List Addr
instance:Coe Bs Heap:=⟨Bs.toHeap⟩
structure Mod(K:Fg)(mg:Str->Option Value)(base:Bs):Prop where
 kin:K.In base
 glob:base.Ns mainGlobals mg
 blt:∃mb,base.Ns builtinsNs mb/\ ∀x:Str,x ≠ "__name__"->mb x=bootBuiltins x
 nolimit:base.NoLimit
 bmain:∃bm ob,mg "__builtins__"=some (.ref bm)/\bm≠builtinsNs/\base.get? bm=some ob/\ob.cls= .type "module"/\ob.dict=some builtinsNs/\ob.data= .plain
structure Cx where
 prog:Program
 w:World
 K:PySem.W.Frag
 mg:Str->Option Value
 base:Bs
 A:Around
 N:List Str
 s₀:Shared
 H₀:Hp
 env:Env
 outer:List Env
 stack:List Env
 ex:List Addr
 fn:Str->Bool
 cw:Str->Bool
 calm:Bool
 pn:List (Addr×Obj)
 xe:Value->Shared->Prop
def frs(l:List Env):List Addr:=l.filterMap (·.frame)
abbrev Cx.fs(X:Cx):List Addr:=frs X.outer
def lX(sc:Scope)(x:Str):Prop:=sc.names.lookup x=some .local\/sc.names.lookup x=some .cell\/sc.names.lookup x=some .free
def nw(sc:Scope)(x:Str):Prop:=sc.names.lookup x=some .local\/sc.names.lookup x=some .cell
def GJ(env:Env)(h:Heap)(m:Str->Option Value)(x:Str)(u:Value):Prop :=
 (env.kindOf x=some .local/\m x=some u)\/((env.kindOf x=some .cell\/env.kindOf x=some .free)/\ ∃c,env.cells.lookup x=some c/\h.IsCell c (some u))
structure Cx.Ok(X:Cx):Prop where
 mod:Mod X.K X.mg X.base
 kind:X.env.scope.kind= .function
 glob:X.env.globals=mainGlobals
 blt:X.env.builtins=builtinsNs
 above:X.s₀.heap.objs.size<=X.env.locals
 inj:∀x y c,X.env.cells.lookup x=some c->X.env.cells.lookup y=some c->x=y
 has:∀x,(X.env.kindOf x=some .cell\/X.env.kindOf x=some .free)->∃c,X.env.cells.lookup x=some c
 cab:∀x c,X.cw x=true->X.env.cells.lookup x=some c->X.s₀.heap.objs.size<=c
 hd:X.calm=true->X.A.handled=none
 frames:X.A.frames=some X.stack
 stk:X.stack=X.outer\/(X.stack=X.env::X.outer/\X.env.frame=some X.env.locals)
 exf:∀b∈X.ex,b≠X.env.locals/\ ∀x c,X.env.cells.lookup x=some c->c≠b
 bs:∀b o,X.base.get? b=some o->X.s₀.heap.get? b=some o/\X.H₀ b=none
 bsz:X.base.objs.size<=X.s₀.heap.objs.size
 noex:∀b o,X.base.get? b=some o->b∉X.ex
 exfs:∀b∈X.ex,b∉X.fs
 funs:X.s₀.heap.FunFrames X.base X.outer
 frf:∀b∈X.fs,X.H₀ b=none
 tab:∀P∈X.base.tabs,X.H₀ P=some (.tbl 0)
 fc:∀x,X.fn x=true->X.cw x=true
structure aA(X:Cx)(pins:List (Addr×Obj))(σ :List (Option V))(H:Hp)(s:Shared):Prop where
 ok:X.Ok
 os:s.os=X.s₀.os
 bare:AllBare s.gens
 base:Un X.fs X.ex X.H₀ H X.s₀.heap s.heap
 loc:∃m,s.heap.Ns X.env.locals m/\ ∀(i:Nat) (x:Str) (v:V),X.N[i]? =some x-> σ[i]? =some (some v)->lX X.env.scope x->∃u,aQ v u/\GJ X.env s.heap m x u
 cell:∀x c,X.env.cells.lookup x=some c->∃v,s.heap.IsCell c v
 free:H X.env.locals=none
 freeC:∀x c,X.env.cells.lookup x=some c->H c=none\/(X.fn x=false/\ ∃o u,H c=some (.frz o u))
 pin:∀p∈X.pn++pins,s.heap.get? p.1=some p.2/\H p.1=none/\p.1≠X.env.locals/\p.1∉X.fs/\ ∀v,p.2.data ≠ .cell v
 hok:gD X.prog X.w H s.heap
 len: σ.length=X.N.length
noncomputable section
variable{X:Cx}{pins:List (Addr×Obj)}{σ :List (Option V)}{H H':Hp}{s:Shared}{h':Heap}
theorem Cx.Ok.nofr(ok:X.Ok){b:Addr}{o:Obj}(e:X.base.get? b=some o):b∉X.fs:=fun hb=>by
 have:=(ok.funs.mem hb).1
 rw[e]at this;cases this
theorem aA.bs(I:aA X pins σ H s):∀b o,X.base.get? b=some o->s.heap.get? b=some o/\H b=none:=fun b o e =>
 ⟨I.base.keep b o (I.ok.bs b o e).1 (I.ok.bs b o e).2 (I.ok.nofr e) (I.ok.noex b o e),I.base.free b o (I.ok.bs b o e).1 (I.ok.bs b o e).2 (I.ok.noex b o e)⟩
theorem aA.bk(I:aA X pins σ H s):∀b o,X.base.get? b=some o->s.heap.get? b=some o:=fun b o e=>(I.bs b o e).1
theorem aA.mod(I:aA X pins σ H s):Mod X.K X.mg X.base:=I.ok.mod
theorem aA.kIn(I:aA X pins σ H s):X.K.In s.heap:=I.ok.mod.kin.keeps I.bk
theorem aA.lt(I:aA X pins σ H s):X.env.locals<s.heap.objs.size:=let ⟨_,hn,_⟩:=I.loc;hn.lt
theorem aA.sz(I:aA X pins σ H s):X.s₀.heap.objs.size<=s.heap.objs.size:=Nat.le_trans I.ok.above (Nat.le_of_lt I.lt)
theorem aA.nofs(I:aA X pins σ H s){a:Addr}(h:s.heap.objs.size<=a):a∉X.fs:=fun hb=>by
 obtain⟨_,o,ho,_⟩:=I.ok.funs.mem hb
 exact absurd (Nat.lt_of_lt_of_le (Heap.lt_size ho) (Nat.le_trans I.sz h)) (Nat.lt_irrefl _)
theorem aA.cne(I:aA X pins σ H s):∀x c,X.env.cells.lookup x=some c->c≠X.env.locals:=fun x c e z=>by
 obtain⟨v,o,ho,hd⟩:=I.cell x c e
 obtain⟨m,⟨o',es,ep,ho',hd',_⟩,_⟩:=I.loc
 rw[z,ho']at ho;cases ho;rw[hd']at hd;cases hd
theorem aA.funs(I:aA X pins σ H s):s.heap.FunFrames X.base X.outer:=by
 have all:∀(l:List Env),(∀b∈frs l,b∈X.fs)->X.s₀.heap.FunFrames X.base l->s.heap.FunFrames X.base l:=by
  intro l
  induction l with
  |nil=>intro _ _;trivial
  |cons env r ih =>
   intro hs hl
   obtain⟨hk,⟨L,o,hf,hn,ho,hd⟩,hr⟩:=hl
   have hL:L∈X.fs:=hs L (by unfold frs;rw[List.filterMap_cons,hf];exact List.mem_cons_self)
   obtain⟨sl,e⟩:=I.base.slot L o ho (I.ok.frf L hL) hL fun z=>I.ok.exfs L z hL
   exact⟨hk,⟨L,_,hf,hn,e,hd⟩,ih (fun b hb=>hs b (by unfold frs;rw[List.filterMap_cons,hf];exact List.mem_cons_of_mem _ hb)) hr⟩
 exact all X.outer (fun _ hb=>hb) I.ok.funs
theorem aA.stack(I:aA X pins σ H s):s.heap.FunFrames X.base X.stack:=by
 rcases I.ok.stk with e|⟨e,hf⟩
 ·rw[e];exact I.funs
 ·rw[e]
  obtain⟨m,hn,_⟩:=I.loc
  refine .cons (by rw[I.ok.kind];decide) hf hn ?_ I.funs
  exact Heap.get?_none_of_le (Nat.le_trans I.ok.bsz I.ok.above)
theorem aA.stkSub(I:aA X pins σ H s):∀b∈frs X.stack,b∈X.env.locals::X.fs:=fun b hb=>by
 rcases I.ok.stk with e|⟨e,hf⟩
 ·rw[e]at hb;exact List.mem_cons_of_mem _ hb
 ·rw[e]at hb
  unfold frs at hb
  rw[List.filterMap_cons,hf]at hb
  exact hb
theorem aA.stkFree(I:aA X pins σ H s):∀b∈frs X.stack,H b=none:=fun b hb=>by
 rcases List.mem_cons.mp (I.stkSub b hb)with e|hb
 ·rw[e];exact I.free
 ·obtain⟨_,o,ho,_⟩:=I.ok.funs.mem hb
  exact I.base.free b o ho (I.ok.frf b hb) fun z=>I.ok.exfs b z hb
theorem aA.step{g':Array GenState}{t':Nat}{d':Drawn}{ch:List Addr}(I:aA X pins σ H s)
  (hch:∀b∈ch,(b∈X.ex\/X.s₀.heap.objs.size<=b)/\b≠X.env.locals/\(∀x c,X.env.cells.lookup x=some c->c≠b)/\ ∀p∈X.pn++pins,p.1≠b)
  (keep:∀b o,b≠X.env.locals->b∉X.fs->b∉ch->s.heap.get? b=some o->H b=none->h'.get? b=some o)
  (slot:∀b o,b≠X.env.locals->b∈X.fs->b∉ch->s.heap.get? b=some o->H b=none->∃sl,h'.get? b=some { o with slots:=sl }) (free:∀b o,b∉ch->s.heap.get? b=some o->H b=none->H' b=none)
  (there:∀b o,b∉ch->s.heap.get? b=some o->∃o',h'.get? b=some o')
  (tups:∀b xs,H b=some (.tup xs)->H' b=some (.tup xs)) (frzs:∀b o u,H b=some (.frz o u)->H' b=some (.frz o u)) (tbls:∀b q,H b=some (.tbl q)->H' b=some (.tbl q))
  (ns:∀m,s.heap.Ns X.env.locals m->h'.Ns X.env.locals m) (hok:gD X.prog X.w H' h') (hg:AllBare g') :
  aA X pins σ H' { s with heap:=h',gens:=g',drawn:=d',toks:=t' }:=by
 have neL:∀b o,X.s₀.heap.get? b=some o->b≠X.env.locals:=fun b o e=>Nat.ne_of_lt (Nat.lt_of_lt_of_le (Heap.lt_size e) I.ok.above)
 have neC:∀b o,X.s₀.heap.get? b=some o->b∉X.ex->b∉ch:=fun b o e hx hb=>by
  rcases(hch b hb).1 with z|z
  ·exact hx z
  ·exact absurd (Nat.lt_of_lt_of_le (Heap.lt_size e) z) (Nat.lt_irrefl _)
 have cellK:∀x c,X.env.cells.lookup x=some c->∀v,s.heap.IsCell c v->h'.IsCell c v:=fun x c e v ⟨o,ho,hd⟩=>by
  have nch:c∉ch:=fun z=>(hch c z).2.2.1 x c e rfl
  rcases I.freeC x c e with fc|⟨_,ob,u,fc⟩
  ·by_cases hc:c∈X.fs
   ·obtain⟨sl,q⟩:=slot c o (I.cne x c e) hc nch ho fc
    exact⟨_,q,hd⟩
   ·exact⟨o,keep c o (I.cne x c e) hc nch ho fc,hd⟩
  ·obtain⟨e1,_⟩:=I.hok c _ fc
   obtain⟨e2,_⟩:=hok c _ (frzs c ob u fc)
   rw[e1]at ho;cases ho
   exact⟨_,e2,hd⟩
 refine⟨I.ok,I.os,hg,⟨fun b o e n hb hx=> ?_,fun b o e n hb hx=> ?_,fun b o e n hx=> ?_,fun b o e hx=> ?_,fun b xs e=>tups b xs (I.base.tups b xs e),fun b o xs e=>frzs b o xs (I.base.frzs b o xs e),fun b ps e=> ?_⟩,?_,fun x c e=> ?_,?_,fun x c e=> ?_,fun p hp=> ?_,hok,I.len⟩
 ·exact keep b o (neL b o e) hb (neC b o e hx) (I.base.keep b o e n hb hx) (I.base.free b o e n hx)
 ·obtain⟨sl,e1⟩:=I.base.slot b o e n hb hx
  obtain⟨sl',e2⟩:=slot b _ (neL b o e) hb (neC b o e hx) e1 (I.base.free b o e n hx)
  exact⟨sl',e2⟩
 ·obtain⟨o',e1⟩:=I.base.there b o e hx
  exact free b o' (neC b o e hx) e1 (I.base.free b o e n hx)
 ·obtain⟨o',e1⟩:=I.base.there b o e hx
  exact there b o' (neC b o e hx) e1
 ·exact tbls b ps (I.base.tbls b ps e)
 ·obtain⟨m,hn,hl⟩:=I.loc
  refine⟨m,ns m hn,fun i x v e1 e2 e3=> ?_⟩
  obtain⟨u,r,l⟩:=hl i x v e1 e2 e3
  refine⟨u,r,?_⟩
  rcases l with l|⟨k,c,e,z⟩
  ·exact .inl l
  ·exact .inr ⟨k,c,e,cellK x c e _ z⟩
 ·obtain⟨v,z⟩:=I.cell x c e
  exact⟨v,cellK x c e v z⟩
 ·obtain⟨m,⟨o,_,_,ho,_⟩,_⟩:=I.loc
  exact free _ o (fun z=>(hch _ z).2.1 rfl) ho I.free
 ·obtain⟨v,o,ho,hd⟩:=I.cell x c e
  rcases I.freeC x c e with fc|⟨f,ob,u,fc⟩
  ·exact .inl (free c o (fun z=>(hch c z).2.2.1 x c e rfl) ho fc)
  ·exact .inr ⟨f,ob,u,frzs c ob u fc⟩
 ·obtain⟨e,n,ne,nf,d⟩:=I.pin p hp
  have nch:p.1∉ch:=fun z=>(hch p.1 z).2.2.2 p hp rfl
  exact⟨keep p.1 p.2 ne nf nch e n,free p.1 p.2 nch e n,ne,nf,d⟩
theorem aA.un{t':Nat}(I:aA X pins σ H s)(u:Un X.fs [] H H' s.heap h')(hok:gD X.prog X.w H' h'):aA X pins σ H' { s with heap:=h',toks:=t' }:=by
 obtain⟨m,⟨o,es,ep,ho,r⟩,_⟩:=id I.loc
 obtain⟨sl,hL⟩:=u.any ho I.free (by simp)
 exact I.step (g':=s.gens) (d':=s.drawn) (ch:=[]) (fun _ z=>nomatch z) (fun b o _ hb _ e n=>u.keep b o e n hb (by simp)) (fun b o _ hb _ e n=>u.slot b o e n hb (by simp)) (fun b o _ e n=>u.free b o e n (by simp)) (fun b o _ e=>u.there b o e (by simp)) u.tups u.frzs u.tbls (fun m' hm=>by
  obtain⟨o',es',ep',ho',r'⟩:=hm
  rw[ho]at ho';cases ho'
  exact⟨_,es',ep',hL,r'⟩) hok I.bare
theorem aA.call{g':Array GenState}{t':Nat}{d':Drawn}{ch:List Addr}(I:aA X pins σ H s)(u:Un (frs X.stack) ch H H' s.heap h')(hok:gD X.prog X.w H' h')(hg:AllBare g')
  (hch:∀b∈ch,(b∈X.ex\/X.s₀.heap.objs.size<=b)/\b≠X.env.locals/\(∀x c,X.env.cells.lookup x=some c->c≠b)/\ ∀p∈X.pn++pins,p.1≠b) :
  aA X pins σ H' { s with heap:=h',gens:=g',drawn:=d',toks:=t' }:=by
 obtain⟨m,⟨o,es,ep,ho,r⟩,_⟩:=id I.loc
 obtain⟨sl,hL⟩:=u.any ho I.free fun z=>(hch _ z).2.1 rfl
 exact I.step (ch:=ch) hch (fun b o hL hb hc e n=>u.keep b o e n (fun z=>(List.mem_cons.mp (I.stkSub b z)).elim hL hb) hc) (fun b o _ _ hc e n=>u.any e n hc) (fun b o hc e n=>u.free b o e n hc) (fun b o hc e=>u.there b o e hc) u.tups u.frzs u.tbls (fun m' hm=>by
  obtain⟨o',es',ep',ho',r'⟩:=hm
  rw[ho]at ho';cases ho'
  exact⟨_,es',ep',hL,r'⟩) hok hg
theorem aA.turned{t':Nat}{it:Addr}(I:aA X pins σ H s)(k:∀b o,b≠it->s.heap.get? b=some o->h'.get? b=some o)(hn:H it=none)(hL:it≠X.env.locals)
  (h1:it∈X.ex\/X.s₀.heap.objs.size<=it) (h2:∀x c,X.env.cells.lookup x=some c->c≠it) (h3:∀p∈X.pn++pins,p.1≠it):aA X pins σ H { s with heap:=h',toks:=t' }:=by
 have nit:∀b u,H b=some u->b≠it:=fun b u e z=>by rw[z,hn]at e;cases e
 refine I.step (g':=s.gens) (d':=s.drawn) (ch:=[it]) (fun b hb=> ?_) (fun b o _ _ hc e _=>k b o (fun z=>hc (by simp[z])) e) (fun b o _ _ hc e _=>⟨o.slots,k b o (fun z=>hc (by simp[z])) e⟩) (fun _ _ _ _ n=>n)
  (fun b o hc e=>⟨o,k b o (fun z=>hc (by simp[z])) e⟩) (fun _ _ e=>e) (fun _ _ _ e=>e) (fun _ _ e=>e) (fun m hm=> ?_) (fun b u e=> ?_) I.bare
 ·have e:b=it:=by simpa using hb
  subst e
  exact⟨h1,hL,h2,h3⟩
 ·obtain⟨o,es,ep,ho,r⟩:=hm
  exact⟨o,es,ep,k _ o (Ne.symm hL) ho,r⟩
 ·refine(I.hok b u e).stay (fun c v hc q=>k c v ?_ q) (fun _ q=>q) (fun _ _ q=>q) fun _ _ _ q=>q
  rcases hc with z|z
  ·rw[z];exact nit b u e
  ·exact nit c _ z
theorem aA.tok(I:aA X pins σ H s)(t:Nat):aA X pins σ H { s with toks:=t }:=I.un (h':=s.heap) (t':=t) Un.refl I.hok
theorem aA.kept{t':Nat}(I:aA X pins σ H s)(k:∀b u,s.heap.get? b=some u->h'.get? b=some u):aA X pins σ H { s with heap:=h',toks:=t' }:=I.un (Un.kept k) (I.hok.kept k)
theorem aA.laid{a:Addr}{o:HO}{t':Nat}(I:aA X pins σ H s)(k:∀b u,s.heap.get? b=some u->h'.get? b=some u)(hp:s.heap.objs.size<=a)(new:bE X.prog X.w (upd H a o) h' a o) :
  aA X pins σ (upd H a o) { s with heap:=h',toks:=t' }:=I.un (Un.laid k hp (I.hok.fresh hp)) (I.hok.laid k hp new)
theorem aA.write{x e:Addr}{o:HO}{t':Nat}(I:aA X pins σ H s)(mu:CZ (H x))(he:e=x\/H e=some (.own x))(k:∀b u,b≠e->s.heap.get? b=some u->h'.get? b=some u)(heo:∃u,h'.get? e=some u)
  (new:bE X.prog X.w (upd H x o) h' x o):aA X pins σ (upd H x o) { s with heap:=h',toks:=t' }:=I.un (Un.write mu he k heo) (I.hok.write mu he k heo new)
theorem aA.pins_of{pins':List (Addr×Obj)}(I:aA X pins σ H s)(h:∀p∈pins',s.heap.get? p.1=some p.2/\H p.1=none/\p.1≠X.env.locals/\p.1∉X.fs/\ ∀v,p.2.data ≠ .cell v):aA X pins' σ H s :=
 ⟨I.ok,I.os,I.bare,I.base,I.loc,I.cell,I.free,I.freeC,fun p hp=>(List.mem_append.mp hp).elim (fun z=>I.pin p (List.mem_append_left _ z)) (h p),I.hok,I.len⟩
theorem nG{N:List Str}(hN:N.Nodup){i j:Nat}{x:Str}(a:N[i]? =some x)(b:N[j]? =some x):i=j:=by
 obtain⟨h1,e1⟩:=List.getElem?_eq_some_iff.mp a
 obtain⟨h2,e2⟩:=List.getElem?_eq_some_iff.mp b
 exact(List.getElem_inj hN).mp (e1.trans e2.symm)
theorem kN{M:Model}{A:Around}{E:Value->Shared->Prop}{i:Nat}{x:Str}{v:V}{u:Value}{Q:Unit->Shared->Prop}(I:aA X pins σ H s)(hN:X.N.Nodup)(hi:X.N[i]? =some x)(hx:nw X.env.scope x)(r:aQ v u)
  (h:∀s',aA X pins (σ.set i (some v)) H s'->(∃a,Heap.SameBut a s.heap s'.heap/\(a=X.env.locals\/X.env.cells.lookup x=some a))->Q () s') (hf:X.fn x=true\/X.env.scope.names.lookup x=some .local:=by first|exact .inl rfl|exact .inr rfl|assumption):wpAny M A (storeName X.env x u) Q E s:=by
 obtain⟨m,hn,hl⟩:=id I.loc
 have hcls:(X.env.scope.kind == .class || (X.env.scope.kind == .module && X.env.locals != X.env.globals))=false:=by rw[I.ok.kind];rfl
 have hiσ :i<σ.length:=by rw[I.len];exact(List.getElem?_eq_some_iff.mp hi).1
 have cne:=I.cne
 have tracked:∀{a:Addr} {h':Heap},(∃o,s.heap.get? a=some o/\H a=none)->Heap.SameBut a s.heap h'->gD X.prog X.w H h':=fun {a h'} ha hs b ob e=>by
  obtain⟨_,_,hfree⟩:=ha
  refine(I.hok b ob e).stay (fun c w' hc q=>(hs.2 c ?_).trans q) (fun _ q=>q) (fun _ _ q=>q) fun _ _ _ q=>q
  rintro rfl
  rcases hc with rfl|hc
  ·rw[hfree]at e;cases e
  ·rw[hfree]at hc;cases hc
 rcases hx with hk|hk
 ·refine wpAny_storeName_local hk hn (fun h' hn' hs=> ?_) hcls
  obtain⟨oL,_,_,hoL,_⟩:=id hn
  refine h _ ⟨I.ok,I.os,I.bare,⟨fun b o e n hb hx=> ?_,fun b o e n hb hx=> ?_,I.base.free,fun b o e hx=> ?_,I.base.tups,I.base.frzs,I.base.tbls⟩,⟨_,hn',fun j y v' e1 e2 e3=> ?_⟩,fun y c e=> ?_,I.free,I.freeC,fun p hp=> ?_,tracked ⟨oL,hoL,I.free⟩ hs,by simpa using I.len⟩ ⟨_,hs,.inl rfl⟩
  ·exact(hs.2 b (Nat.ne_of_lt (Nat.lt_of_lt_of_le (Heap.lt_size e) I.ok.above))).trans (I.base.keep b o e n hb hx)
  ·obtain⟨sl,e1⟩:=I.base.slot b o e n hb hx
   exact⟨sl,(hs.2 b (Nat.ne_of_lt (Nat.lt_of_lt_of_le (Heap.lt_size e) I.ok.above))).trans e1⟩
  ·obtain⟨o',e1⟩:=I.base.there b o e hx
   exact⟨o',(hs.2 b (Nat.ne_of_lt (Nat.lt_of_lt_of_le (Heap.lt_size e) I.ok.above))).trans e1⟩
  ·by_cases hj:j=i
   ·subst hj
    rw[hi]at e1;cases e1
    rw[List.getElem?_set_self hiσ]at e2
    cases e2
    exact⟨u,r,.inl ⟨hk,by simp⟩⟩
   ·rw[List.getElem?_set_ne (Ne.symm hj)]at e2
    obtain⟨u',r',q⟩:=hl j y v' e1 e2 e3
    refine⟨u',r',?_⟩
    rcases q with⟨k,e⟩|⟨k,c,e,z⟩
    ·refine .inl ⟨k,?_⟩
     have:y≠x:=fun e=>hj (nG hN e1 (e ▸ hi))
     simp[this,e]
    ·exact .inr ⟨k,c,e,z.sameBut hs (cne y c e)⟩
  ·obtain⟨w',z⟩:=I.cell y c e
   exact⟨w',z.sameBut hs (cne y c e)⟩
  ·obtain⟨e,n,ne,nf,d⟩:=I.pin p hp
   exact⟨(hs.2 p.1 ne).trans e,n,ne,nf,d⟩
 ·have hfn:X.fn x=true:=by
   rcases hf with z|z
   ·exact z
   ·rw[z]at hk;cases hk
  obtain⟨c,hc⟩:=I.ok.has x (.inl hk)
  obtain⟨w',z⟩:=I.cell x c hc
  refine wpAny_storeName_cell I.ok.kind hk hc z (fun h' hc' hs=> ?_)
  obtain⟨oc,hoc,hocd⟩:=id z
  have hcf:H c=none:=by
   rcases I.freeC x c hc with q|⟨q,_⟩
   ·exact q
   ·rw[hfn]at q;cases q
  refine h { s with heap:=h' } ⟨I.ok,I.os,I.bare,⟨fun b o e n hb hx=> ?_,fun b o e n hb hx=> ?_,I.base.free,fun b o e hx=> ?_,I.base.tups,I.base.frzs,I.base.tbls⟩,⟨m,hn.sameBut hs (Ne.symm (cne x c hc)),fun j y v' e1 e2 e3=> ?_⟩,fun y c' e=> ?_,I.free,I.freeC,fun p hp=> ?_,tracked ⟨oc,hoc,hcf⟩ hs,by simpa using I.len⟩ ⟨c,hs,.inr hc⟩
  ·exact(hs.2 b (Nat.ne_of_lt (Nat.lt_of_lt_of_le (Heap.lt_size e) (I.ok.cab x c (I.ok.fc x hfn) hc)))).trans (I.base.keep b o e n hb hx)
  ·obtain⟨sl,e1⟩:=I.base.slot b o e n hb hx
   exact⟨sl,(hs.2 b (Nat.ne_of_lt (Nat.lt_of_lt_of_le (Heap.lt_size e) (I.ok.cab x c (I.ok.fc x hfn) hc)))).trans e1⟩
  ·obtain⟨o',e1⟩:=I.base.there b o e hx
   exact⟨o',(hs.2 b (Nat.ne_of_lt (Nat.lt_of_lt_of_le (Heap.lt_size e) (I.ok.cab x c (I.ok.fc x hfn) hc)))).trans e1⟩
  ·by_cases hj:j=i
   ·subst hj
    rw[hi]at e1;cases e1
    rw[List.getElem?_set_self hiσ]at e2
    cases e2
    exact⟨u,r,.inr ⟨.inl hk,c,hc,hc'⟩⟩
   ·rw[List.getElem?_set_ne (Ne.symm hj)]at e2
    obtain⟨u',r',q⟩:=hl j y v' e1 e2 e3
    refine⟨u',r',?_⟩
    rcases q with q|⟨k,c',e,z'⟩
    ·exact .inl q
    ·refine .inr ⟨k,c',e,z'.sameBut hs ?_⟩
     rintro rfl
     exact hj (nG hN e1 (I.ok.inj _ _ _ e hc ▸ hi))
  ·by_cases hcc:c'=c
   ·subst hcc;exact⟨_,hc'⟩
   ·obtain⟨w2,z2⟩:=I.cell y c' e
    exact⟨w2,z2.sameBut hs hcc⟩
  ·obtain⟨e,n,ne,nf,d⟩:=I.pin p hp
   refine⟨(hs.2 p.1 ?_).trans e,n,ne,nf,d⟩
   intro q
   rw[q,hoc]at e
   have q':oc=p.2:=Option.some.inj e
   exact d w' (by rw[<-q'];exact hocd)
theorem hJ{M:Model}{A:Around}{E:Value->Shared->Prop}{i:Nat}{x:Str}{v:V}{u:Value}{Q:Unit->Shared->Prop}(I:aA X pins σ H s)(hN:X.N.Nodup)(hi:X.N[i]? =some x)(hx:nw X.env.scope x)(r:aQ v u)
  (h:∀s',aA X pins (σ.set i (some v)) H s'->Q () s') (hf:X.fn x=true\/X.env.scope.names.lookup x=some .local:=by first|exact .inl rfl|exact .inr rfl|assumption):wpAny M A (storeName X.env x u) Q E s :=
 kN I hN hi hx r (fun s' I' _=>h s' I') hf
end
abbrev XK:=Value->Option Addr->Hp->Prop
abbrev St:=List (Option V)
abbrev VK:=V->Hp->Prop
abbrev TE:=St->Hp->VK->Prop
abbrev TT:=St->Hp->(Bool->Hp->Prop)->Prop
abbrev TA:=St->Hp->(List V->Hp->Prop)->Prop
structure nH where
 nx:St->Hp->Prop
 rt:VK
 bk:St->Hp->Prop:=fun _ _=>False
 ct:St->Hp->Prop:=fun _ _=>False
abbrev TS:=nH->St->Hp->Prop
structure Fin(X:Cx)(H:Hp)(s:Shared):Prop where
 os:s.os=X.s₀.os
 bare:AllBare s.gens
 base:Un X.fs X.ex X.H₀ H X.s₀.heap s.heap
 hok:gD X.prog X.w H s.heap
theorem aA.fin{X:Cx}{pins:List (Addr×Obj)}{σ :St}{H:Hp}{s:Shared}(I:aA X pins σ H s):Fin X H s:=⟨I.os,I.bare,I.base,I.hok⟩
def EP(X:Cx)(pins:List (Addr×Obj))(σ :St)(Q:VK)(u:Value)(s':Shared):Prop:=∃v H',aA X pins σ H' s'/\aQ v u/\Q v H'
def TP(X:Cx)(pins:List (Addr×Obj))(σ :St)(Q:Bool->Hp->Prop)(b:Bool)(s':Shared):Prop:=∃H',aA X pins σ H' s'/\Q b H'
def AP(X:Cx)(pins:List (Addr×Obj))(σ :St)(Q:List V->Hp->Prop)(us:List Value)(s':Shared):Prop:=∃vs H',aA X pins σ H' s'/\aR vs us/\Q vs H'
def SP(X:Cx)(pins:List (Addr×Obj))(D:nH)(f:Flow)(s':Shared):Prop :=
 match f with
 |.next=>∃σ' H',aA X pins σ' H' s'/\D.nx σ' H'
 |.brk=>∃σ' H',aA X pins σ' H' s'/\D.bk σ' H'
 |.cont=>∃σ' H',aA X pins σ' H' s'/\D.ct σ' H'
 |.ret u=>∃v H',Fin X H' s'/\aQ v u/\D.rt v H'
def PE(X:Cx)(e:Expr)(t:TE):Prop :=
 ∀(pins:List (Addr×Obj)) (s:Shared) (σ :St) (H:Hp) (Q:VK),aA X pins σ H s->t σ H Q->wpAny .(E) X.A (eval e X.env) (EP X pins σ Q) X.xe s
def PT(X:Cx)(e:Expr)(t:TT):Prop :=
 ∀(pins:List (Addr×Obj)) (s:Shared) (σ :St) (H:Hp) (Q:Bool->Hp->Prop),aA X pins σ H s->t σ H Q->wpAny .(E) X.A (isTrue e X.env (eval e X.env)) (TP X pins σ Q) X.xe s
def PW(X:Cx)(e:Expr)(t:TT):Prop :=
 ∀(whole:Sem Value) (pins:List (Addr×Obj)) (s:Shared) (σ :St) (H:Hp) (Q:Bool->Hp->Prop),aA X pins σ H s->t σ H Q->wpAny .(E) X.A (isTrue e X.env whole) (TP X pins σ Q) X.xe s
theorem PW.pt{X:Cx}{e:Expr}{t:TT}(h:PW X e t):PT X e t:=h _
def PA(X:Cx)(es:List Expr)(t:TA):Prop :=
 ∀(pos:Pos) (pins:List (Addr×Obj)) (s:Shared) (σ :St) (H:Hp) (Q:List V->Hp->Prop),aA X pins σ H s->t σ H Q->wpAny .(E) X.A (spliced .(W)) (AP X pins σ Q) X.xe s
def PS(X:Cx)(st:Stmt)(t:TS):Prop :=
 ∀(pins:List (Addr×Obj)) (s:Shared) (σ :St) (H:Hp) (D:nH),aA X pins σ H s->t D σ H->wpAny .(E) X.A (exec st X.env) (SP X pins D) X.xe s
def nI(X:Cx)(st:List Stmt)(t:TS):Prop :=
 ∀(pins:List (Addr×Obj)) (s:Shared) (σ :St) (H:Hp) (D:nH),aA X pins σ H s->t D σ H->wpAny .(E) X.A (execs st X.env) (SP X pins D) X.xe s
theorem bx{α :Type}{t:Sem α}{Q Q': α ->Shared->Prop}{M:Model}{A:Around}{E:Value->Shared->Prop}{s:Shared}(h:wpAny M A t Q E s)(hQ:∀a s,Q a s->Q' a s):wpAny M A t Q' E s:=wpAny_mono h hQ fun _ _ x=>x
end L2
namespace L2
open PySem PySem.Spec PyProof.Rows
noncomputable section
variable{X:Cx}
def Da(i:Nat):TE:=fun σ H Q=>∃v, σ[i]? =some (some v)/\Q v H
def tC(v:V):TE:=fun _ H Q=>Q v H
theorem aV{i:Nat}{x:Str}{pos:Pos}(hN:X.N[i]? =some x)(hv:lX X.env.scope x)(hd:(x == .(L))=false:=by decide)(hcd:(x == .(Ad))=false:=by decide):PE X (.Name x pos) (Da i):=by
 intro pins s σ H Q I h
 obtain⟨v,e,h⟩:=h
 obtain⟨m,hn,hl⟩:=I.loc
 obtain⟨u,r,l⟩:=hl i x v hN e hv
 have fin:EP X pins σ Q u s:=⟨v,H,I,r,h⟩
 rcases l with⟨hk,hm⟩|⟨hk,c,hc,hcell⟩
 ·exact wpAny_Name (wpAny_loadName_local I.ok.kind hk hn hm fin) hd
 ·rcases hk with hk|hk
  ·exact wpAny_Name (wpAny_loadName_cell I.ok.kind hk hc hcell fin) hd
  ·exact wpAny_Name (wpAny_loadName_free I.ok.kind hk hc hcell fin hcd) hd
theorem A5{i j pos}:PE X (.Constant (.int i) j pos) (tC (.int i)):=fun _ _ _ H _ I h=>wpAny_Constant_int ⟨.int i,H,I.tok _,⟨_,rfl⟩,h⟩
theorem Db{b j pos}:PE X (.Constant (.bool b) j pos) (tC (.bl b)):=fun _ _ _ H _ I h=>Constant_bool ⟨.bl b,H,I,rfl,h⟩
theorem A6{j pos}:PE X (.Constant .none j pos) (tC .non):=fun _ _ _ H _ I h=>Constant_none ⟨.non,H,I,rfl,h⟩
theorem A7{x j pos}:PE X (.Constant (.str x) j pos) (tC (.str x)):=fun _ _ _ H _ I h=>Calls.Constant_str ⟨.str x,H,I.tok _,⟨_,rfl⟩,h⟩
def Gl(X:Cx)(x:Str):Prop:=X.env.kindOf x=some .globalImplicit
theorem hU{E:Value->Shared->Prop}{pins:List (Addr×Obj)}{s:Shared}{σ :St}{H:Hp}{x:Str}{u:Value}{pos:Pos}{Q:Value->Shared->Prop}(I:aA X pins σ H s)(hg:Gl X x)(hm:X.mg x=some u)(h:Q u s)
  (hd:(x == .(L))=false:=by decide):wpAny .(E) X.A (eval (.Name x pos) X.env) Q E s :=
 Calls.Name_function_global I.ok.kind hg (Calls.loadGlobal_global (by rw[I.ok.glob];exact I.mod.glob.keeps I.bk) hm h) hd
theorem jC{E:Value->Shared->Prop}{pins:List (Addr×Obj)}{s:Shared}{σ :St}{H:Hp}{x:Str}{u:Value}{pos:Pos}{Q:Value->Shared->Prop}(I:aA X pins σ H s)(hg:Gl X x)(hm:X.mg x=none)(hv:bootBuiltins x=some u)(h:Q u s)
  (hn:x ≠ "__name__":=by decide) (hd:(x == .(L))=false:=by decide):wpAny .(E) X.A (eval (.Name x pos) X.env) Q E s:=by
 obtain⟨mb,h1,h2⟩:=I.mod.blt
 exact Calls.Name_function_global I.ok.kind hg (Calls.loadGlobal_builtin (by rw[I.ok.glob];exact I.mod.glob.keeps I.bk) hm (by rw[I.ok.blt];exact h1.keeps I.bk) ((h2 x hn).trans hv) h) hd
theorem lY{x:Str}{v:V}{u:Value}{pos:Pos}(hg:Gl X x)(hm:X.mg x=some u)(r:aQ v u)(hd:(x == .(L))=false:=by decide):PE X (.Name x pos) (tC v) :=
 fun _ _ _ H _ I h=>hU I hg hm ⟨v,H,I,r,h⟩ hd
theorem xC{x:Str}{v:V}{u:Value}{pos:Pos}(hg:Gl X x)(hm:X.mg x=none)(hv:bootBuiltins x=some u)(r:aQ v u)(hn:x ≠ "__name__":=by decide)(hd:(x == .(L))=false:=by decide):PE X (.Name x pos) (tC v) :=
 fun _ _ _ H _ I h=>jC I hg hm hv ⟨v,H,I,r,h⟩ hn hd
variable{a b:Expr}{ta tb:TE}{pos:Pos}
def PC(X:Cx)(op:CmpOp)(a b:Expr)(t:TE):Prop :=
 ∀(pins:List (Addr×Obj)) (s:Shared) (σ :St) (H:Hp) (Q:VK),aA X pins σ H s->t σ H Q ->
  wpAny .(E) X.A (eval a X.env) (fun v s₁=>wpAny .(E) X.A (eval b X.env) (fun u s₂=>wpAny .(E) X.A (compareOp op v u) (EP X pins σ Q) X.xe s₂) X.xe s₁) X.xe s
theorem u3(b:Expr){op:CmpOp}(h:op ≠ .In)(h2:op ≠ .NotIn):behindInMarks op b=false:=by
 have e1:(op == CmpOp.In)=false:=by cases op <;> first|rfl|exact absurd rfl h
 have e2:(op == CmpOp.NotIn)=false:=by cases op <;> first|rfl|exact absurd rfl h2
 cases b <;> simp[behindInMarks,e1,e2]
def Dc(ta:TE):TE:=fun σ H Q=>ta σ H fun x H1=>Q (.bl (!decide (x= .non))) H1
theorem aQ.none_iff{x:V}{v:Value}(r:aQ x v):(v == Value.none)=decide (x= .non):=by
 cases x with
 |non=>cases r;rfl
 |bl _=>cases r;rfl
 |int _=>obtain⟨t,rfl⟩:=r;rfl
 |str _=>obtain⟨t,rfl⟩:=r;rfl
 |byt _=>obtain⟨t,rfl⟩:=r;rfl
 |flt _=>obtain⟨t,rfl⟩:=r;rfl
 |ref _=>cases r;rfl
 |ty _=>cases r;rfl
theorem xD{j pos'}(ha:PE X a ta):PC X .IsNot a (.Constant .none j pos') (Dc ta):=by
 intro pins s σ H Q I h
 refine bx (ha pins s σ H _ I h) fun v s1 ⟨x,H1,I1,r1,q1⟩=> ?_
 exact Constant_none (isnot_none_gen ⟨.bl _,H1,I1,by rw[r1.none_iff];rfl,q1⟩)
def tB(t:TE):TT:=fun σ H Q=>t σ H fun x H1=>∃c,x= .bl c/\Q c H1
theorem u5{op:CmpOp}{t:TE}(h:PC X op a b t)(h1:behindInMarks op b=false:=by first|exact u3 _ (by decide) (by decide)|rfl):PT X (.Compare a [op] [b] pos) (tB t):=by
 intro pins s σ H Q I hw
 refine wpAny_isTrue_Compare1 (bx (h pins s σ H _ I hw) fun v s1 h1=>bx h1 fun u s2 h2=>bx h2 fun c s3 ⟨x,H1,I1,r1,q1⟩=> ?_) h1
 obtain⟨d,rfl,q⟩:=q1
 cases r1
 exact wpAny_truthy_bool ⟨H1,I1,q⟩
theorem A8{e:Expr}{t:TE}(h:PE X e t)(he:∀whole,isTrue e X.env whole=(do let v <- whole;standAt e.pos;holding [v] (truthy v)):=by intro _;rfl):PT X e (tB t):=by
 intro pins s σ H Q I hw
 refine isTrue_plain (bx (h pins s σ H _ I hw) fun v s1 ⟨x,H1,I1,r1,q1⟩=> ?_) (he _)
 obtain⟨d,rfl,q⟩:=q1
 cases r1
 exact wpAny_truthy_bool ⟨H1,I1,q⟩
variable{tA tB':TT}{rest:List Expr}
def Dd(t u:TT):TT:=fun σ H Q=>t σ H fun c H1=>if c=true then u σ H1 Q else Q false H1
def JD(t u:TT):TT:=fun σ H Q=>t σ H fun c H1=>if c=true then Q true H1 else u σ H1 Q
def GK(t:TT):TT:=fun σ H Q=>t σ H fun c H1=>Q (!c) H1
theorem xE(ha:PT X a tA):PW X (.BoolOp .And [a] pos) tA:=by
 intro wh pins s σ H Q I h
 refine isTrue_and (bx (ha pins s σ H Q I h) fun c s1 e=> ?_)
 cases c with
 |true=>exact isTrue_and_nil e
 |false=>exact e
theorem A9(ha:PT X a tA):PW X (.BoolOp .Or [a] pos) tA:=by
 intro wh pins s σ H Q I h
 refine isTrue_or (bx (ha pins s σ H Q I h) fun c s1 e=> ?_)
 cases c with
 |false=>exact isTrue_or_nil e
 |true=>exact e
theorem Aa(ha:PT X a tA)(hb:PW X (.BoolOp .And (b::rest) pos) tB'):PW X (.BoolOp .And (a::b::rest) pos) (Dd tA tB'):=by
 intro wh pins s σ H Q I h
 refine isTrue_and (bx (ha pins s σ H _ I h) fun c s1 ⟨H1,I1,q1⟩=> ?_)
 cases c with
 |true=>exact hb wh pins s1 σ H1 Q I1 q1
 |false=>exact⟨H1,I1,q1⟩
theorem De(ha:PT X a tA)(hb:PW X (.BoolOp .Or (b::rest) pos) tB'):PW X (.BoolOp .Or (a::b::rest) pos) (JD tA tB'):=by
 intro wh pins s σ H Q I h
 refine isTrue_or (bx (ha pins s σ H _ I h) fun c s1 ⟨H1,I1,q1⟩=> ?_)
 cases c with
 |true=>exact⟨H1,I1,q1⟩
 |false=>exact hb wh pins s1 σ H1 Q I1 q1
theorem Ab(ha:PT X a tA):PT X (.UnaryOp .Not a pos) (GK tA):=by
 intro pins s σ H Q I h
 exact isTrue_not (ha pins s σ H (fun c H1=>Q (!c) H1) I h)
def Df(ta tb:TE):TE:=fun σ H Q=>ta σ H fun x H1=>∃c,x= .bl c/\if c=true then tb σ H1 Q else Q (.bl false) H1
def GL(ta tb:TE):TE:=fun σ H Q=>ta σ H fun x H1=>∃c,x= .bl c/\if c=true then Q (.bl true) H1 else tb σ H1 Q
def Dg(ta:TE):TE:=fun σ H Q=>ta σ H fun x H1=>∃c,x= .bl c/\Q (.bl (!c)) H1
theorem Ac{op}{t:TE}(h:PE X a t):PE X (.BoolOp op [a] pos) t:=fun pins s σ H Q I hw=>BoolOp_one (h pins s σ H Q I hw)
theorem Ad(ha:PE X a ta)(hb:PE X (.BoolOp .And (b::rest) pos) tb):PE X (.BoolOp .And (a::b::rest) pos) (Df ta tb):=by
 intro pins s σ H Q I h
 refine BoolOp_and (bx (ha pins s σ H _ I h) fun v s1 ⟨x,H1,I1,r1,q1⟩=> ?_)
 obtain⟨c,rfl,q1⟩:=q1
 cases r1
 refine wpAny_truthy_bool ?_
 cases c with
 |true=>exact hb pins s1 σ H1 Q I1 q1
 |false=>exact⟨.bl false,H1,I1,rfl,q1⟩
theorem Dh(ha:PE X a ta)(hb:PE X (.BoolOp .Or (b::rest) pos) tb):PE X (.BoolOp .Or (a::b::rest) pos) (GL ta tb):=by
 intro pins s σ H Q I h
 refine BoolOp_or (bx (ha pins s σ H _ I h) fun v s1 ⟨x,H1,I1,r1,q1⟩=> ?_)
 obtain⟨c,rfl,q1⟩:=q1
 cases r1
 refine wpAny_truthy_bool ?_
 cases c with
 |false=>exact hb pins s1 σ H1 Q I1 q1
 |true=>exact⟨.bl true,H1,I1,rfl,q1⟩
theorem Ae(ha:PE X a ta):PE X (.UnaryOp .Not a pos) (Dg ta):=by
 intro pins s σ H Q I h
 refine UnaryOp_ (bx (ha pins s σ H _ I h) fun v s1 ⟨x,H1,I1,r1,q1⟩=> ?_)
 obtain⟨c,rfl,q1⟩:=q1
 cases r1
 exact not_of (wpAny_truthy_bool ⟨.bl (!c),H1,I1,rfl,q1⟩)
def Kw(t:TT)(ta tb:TE):TE:=fun σ H Q=>t σ H fun c H1=>if c=true then ta σ H1 Q else tb σ H1 Q
theorem u6{c:Expr}(hc:PT X c tA)(ha:PE X a ta)(hb:PE X b tb):PE X (.IfExp c a b pos) (Kw tA ta tb):=by
 intro pins s σ H Q I h
 refine wpAny_IfExp (bx (hc pins s σ H _ I h) fun d s1 ⟨H1,I1,q1⟩=> ?_)
 cases d with
 |true=>exact ha pins s1 σ H1 Q I1 q1
 |false=>exact hb pins s1 σ H1 Q I1 q1
end
end L2
namespace L2
open PySem PySem.Spec PyProof.Rows
def eE(K:Fg)(H:Hp)(a:Addr)(xs:List V):Prop :=
 Rd H a (.lst xs) \/
  ∃(o:Obj) (its:Array Value) (n:Nat),K.lookup a=some o/\o.cls= .type "list"/\o.dict=none/\o.data= .seq its n/\its.size<=sizeLine/\aR xs its.toList
def gE(K:Fg)(H:Hp)(a:Addr)(xs:List V):Prop :=
 Rd H a (.tup xs) \/
  ∃(o:Obj) (its:Array Value) (n:Nat),K.lookup a=some o/\o.cls= .type "tuple"/\o.data= .seq its n/\its.size<=sizeLine/\aR xs its.toList
noncomputable def GM:Value->Option V
 |.none=>some .non
 |.bool b=>some (.bl b)
 |.int i _=>some (.int i)
 |.str x _=>some (.str x)
 |.bytes b _=>some (.byt b)
 |.float b _=>some (.flt b)
 |.ref a=>some (.ref a)
 |.type n=>some (.ty n)
 |_=>none
theorem aQ.abs{x:V}{u:Value}(r:aQ x u):GM u=some x:=by
 cases x with
 |non=>cases r;rfl
 |bl _=>cases r;rfl
 |int _=>obtain⟨t,rfl⟩:=r;rfl
 |str _=>obtain⟨t,rfl⟩:=r;rfl
 |byt _=>obtain⟨t,rfl⟩:=r;rfl
 |flt _=>obtain⟨t,rfl⟩:=r;rfl
 |ref _=>cases r;rfl
 |ty _=>cases r;rfl
theorem aQ.inj{x y:V}{u:Value}(r:aQ x u)(q:aQ y u):x=y:=Option.some.inj (r.abs.symm.trans q.abs)
theorem aR.inj:∀{xs ys:List V} {us:List Value},aR xs us->aR ys us->xs=ys
 |_,_,_,.nil,.nil=>rfl
 |_,_,_,.cons r t,.cons r' t'=>by rw[r.inj r',aR.inj t t']
noncomputable section
variable{X:Cx}{pins:List (Addr×Obj)}{σ :St}{H:Hp}{s:Shared}{a:Addr}{xs ys:List V}
theorem eE.of{K:Fg}(h:H a=some (.lst xs)):eE K H a xs:= .inl (.inl h)
theorem gE.of{K:Fg}(h:H a=some (.tup xs)):gE K H a xs:= .inl (.inl h)
theorem aA.list(I:aA X pins σ H s)(h:eE X.K H a xs):∃its:List Value,aR xs its/\PlainL s.heap a its.toArray/\xs.length<=sizeLine:=by
 rcases h with h|⟨o,its,n,hk,hc,hd,hs,hz,r⟩
 ·obtain⟨z,its,n,r,e⟩:=h.ok I.hok
  exact⟨its,r,⟨_,n,e,rfl,rfl,rfl⟩,z⟩
 ·refine⟨its.toList,r,⟨o,n,I.kIn a o hk,hc,hd,by simpa using hs⟩,?_⟩
  have e:=r.length
  simp only[Array.length_toList]at e
  omega
theorem aA.tuple(I:aA X pins σ H s)(h:gE X.K H a xs):∃its:List Value,aR xs its/\IsTup s.heap a its.toArray/\xs.length<=sizeLine:=by
 rcases h with h|⟨o,its,n,hk,hc,hs,hz,r⟩
 ·obtain⟨z,its,r,p⟩:=h.ok I.hok
  exact⟨its,r,p,z⟩
 ·refine⟨its.toList,r,⟨o,I.kIn a o hk,hc,n,by simpa using hs⟩,?_⟩
  have e:=r.length
  simp only[Array.length_toList]at e
  omega
theorem aA.list_inj(I:aA X pins σ H s)(h:eE X.K H a xs)(h':eE X.K H a ys):xs=ys:=by
 obtain⟨its,r,⟨o,n,e,_,_,d⟩,_⟩:=I.list h
 obtain⟨its',r',⟨o',n',e',_,_,d'⟩,_⟩:=I.list h'
 rw[e]at e';cases e'
 rw[d]at d'
 injection d' with d1 _
 have:its=its':=by simpa using congrArg Array.toList d1
 subst this
 exact r.inj r'
theorem aA.tuple_inj(I:aA X pins σ H s)(h:gE X.K H a xs)(h':gE X.K H a ys):xs=ys:=by
 obtain⟨its,r,⟨o,e,_,n,d⟩,_⟩:=I.tuple h
 obtain⟨its',r',⟨o',e',_,n',d'⟩,_⟩:=I.tuple h'
 rw[e]at e';cases e'
 rw[d]at d'
 injection d' with d1 _
 have:its=its':=by simpa using congrArg Array.toList d1
 subst this
 exact r.inj r'
end
abbrev Cx.wish(X:Cx)(E:Value->Shared->Prop):Cx:={ X with xe:=E }
abbrev Cx.nox(X:Cx):Cx:=X.wish fun _ _=>False
theorem Cx.Ok.wish{X:Cx}(ok:X.Ok)(E:Value->Shared->Prop):(X.wish E).Ok :=
 ⟨ok.mod,ok.kind,ok.glob,ok.blt,ok.above,ok.inj,ok.has,ok.cab,ok.hd,ok.frames,ok.stk,ok.exf,ok.bs,ok.bsz,ok.noex,ok.exfs,ok.funs,ok.frf,ok.tab,ok.fc⟩
theorem Cx.Ok.unwish{X:Cx}{E:Value->Shared->Prop}(ok:(X.wish E).Ok):X.Ok :=
 ⟨ok.mod,ok.kind,ok.glob,ok.blt,ok.above,ok.inj,ok.has,ok.cab,ok.hd,ok.frames,ok.stk,ok.exf,ok.bs,ok.bsz,ok.noex,ok.exfs,ok.funs,ok.frf,ok.tab,ok.fc⟩
noncomputable section
variable{X:Cx}{pins:List (Addr×Obj)}{σ :St}{H:Hp}{s:Shared}{E:Value->Shared->Prop}
theorem aA.wish(I:aA X pins σ H s)(E:Value->Shared->Prop):aA (X.wish E) pins σ H s:=⟨I.ok.wish E,I.os,I.bare,I.base,I.loc,I.cell,I.free,I.freeC,I.pin,I.hok,I.len⟩
theorem aA.unwish(I:aA (X.wish E) pins σ H s):aA X pins σ H s:=⟨I.ok.unwish,I.os,I.bare,I.base,I.loc,I.cell,I.free,I.freeC,I.pin,I.hok,I.len⟩
theorem SP.unwish{D:nH}{f:Flow}{s':Shared}(h:SP (X.wish E) pins D f s'):SP X pins D f s':=by
 cases f with
 |next=>obtain⟨σ',H',I,q⟩:=h;exact⟨σ',H',I.unwish,q⟩
 |brk=>obtain⟨σ',H',I,q⟩:=h;exact⟨σ',H',I.unwish,q⟩
 |cont=>obtain⟨σ',H',I,q⟩:=h;exact⟨σ',H',I.unwish,q⟩
 |ret u=>obtain⟨v,H',I,r,q⟩:=h;exact⟨v,H',⟨I.os,I.bare,I.base,I.hok⟩,r,q⟩
theorem nI.nox{st:List Stmt}{t:TS}(h:nI X.nox st t):nI X st t:=fun pins s σ H D I hw =>
 wpAny_mono (h pins s σ H D (I.wish _) hw) (fun _ _ q=>q.unwish) fun _ _ z=>False.elim z
end
noncomputable section
variable{X:Cx}{st:Stmt}{rest:List Stmt}{t u:TS}{e:Expr}{te:TE}{pos:Pos}
def Di:TS:=fun D σ H=>D.nx σ H
def GN(t u:TS):TS:=fun D σ H=>t { D with nx:=u D } σ H
theorem xF:nI X [] Di:=fun _ _ σ H _ I h=>wpAny_execs_nil ⟨σ,H,I,h⟩
theorem dJ(h1:PS X st t)(h2:nI X rest u):nI X (st::rest) (GN t u):=by
 intro pins s σ H D I h
 refine wpAny_execs_cons (bx (h1 pins s σ H { D with nx:=u D } I h) fun f s1 q=> ?_)
 cases f with
 |next =>
  obtain⟨σ',H',I',q⟩:=q
  exact h2 pins s1 σ' H' D I' q
 |ret v=>exact q
 |brk=>exact q
 |cont=>exact q
theorem hV(h1:PS X st t):nI X [st] t:=by
 intro pins s σ H D I h
 refine wpAny_execs_cons (bx (h1 pins s σ H D I h) fun f s1 q=> ?_)
 cases f with
 |next=>exact wpAny_execs_nil q
 |ret v=>exact q
 |brk=>exact q
 |cont=>exact q
theorem aA.quiet{pins:List (Addr×Obj)}{σ :St}{H:Hp}{s:Shared}(I:aA X pins σ H s):interactive X.env=false:=by simp[interactive,I.ok.kind]
def Dj(te:TE):TS:=fun D σ H=>te σ H fun _ H1=>D.nx σ H1
theorem xG(he:PE X e te)(hs:swapsWith e none pos.line X.env=pure false:=by rfl):PS X (.Expr e pos) (Dj te):=by
 intro pins s σ H D I h
 exact wpAny_Expr_any (bx (he pins s σ H _ I h) fun v s1 ⟨x,H1,I1,r1,q1⟩=>⟨σ,H1,I1,q1⟩) I.quiet hs
def GO(te:TE):TS:=fun D σ H=>te σ H D.rt
theorem u7(he:PE X e te):PS X (.Return (some e) pos) (GO te):=by
 intro pins s σ H D I h
 exact wpAny_Return_some (bx (he pins s σ H _ I h) fun v s1 ⟨x,H1,I1,r1,q1⟩=>⟨x,H1,I1.fin,r1,q1⟩)
def GP(c:TT)(t u:TS):TS:=fun D σ H=>c σ H fun b H1=>if b=true then t D σ H1 else u D σ H1
theorem Dk{c:Expr}{a b:List Stmt}{tc:TT}(hc:PT X c tc)(ha:nI X a t)(hb:nI X b u):PS X (.If c a b pos) (GP tc t u):=by
 intro pins s σ H D I h
 refine wpAny_If (bx (hc pins s σ H _ I h) fun d s1 ⟨H1,I1,q1⟩=> ?_)
 cases d with
 |true=>exact ha pins s1 σ H1 D I1 q1
 |false=>exact hb pins s1 σ H1 D I1 q1
end
abbrev TG:=V->St->Hp->(St->Hp->Prop)->Prop
abbrev xH:=List V->St->Hp->(St->Hp->Prop)->Prop
def PG(X:Cx)(target:Expr)(t:TG):Prop :=
 ∀(pins:List (Addr×Obj)) (s:Shared) (σ :St) (H:Hp) (v:V) (u:Value) (Q:St->Hp->Prop),aA X pins σ H s->aQ v u->t v σ H Q ->
  wpAny .(E) X.A (assign target X.env u) (fun _ s'=>∃σ' H',aA X pins σ' H' s'/\Q σ' H') X.xe s
def Af(X:Cx)(ts:List Expr)(t:xH):Prop :=
 ∀(pins:List (Addr×Obj)) (s:Shared) (σ :St) (H:Hp) (vs:List V) (us:List Value) (Q:St->Hp->Prop),aA X pins σ H s->aR vs us->t vs σ H Q ->
  wpAny .(E) X.A (assignInOrder ((assignEach ts X.env).map (·.2)) us) (fun _ s'=>∃σ' H',aA X pins σ' H' s'/\Q σ' H') X.xe s
abbrev G3:=V->V->Hp->VK->Prop
def Dl(X:Cx)(op:Operator)(t:G3):Prop :=
 ∀(pins:List (Addr×Obj)) (s:Shared) (σ :St) (H:Hp) (x y:V) (v u:Value) (Q:VK),aA X pins σ H s->aQ x v->aQ y u->t x y H Q ->
  wpAny .(E) X.A (inplaceOp op v u) (EP X pins σ Q) X.xe s
noncomputable section
variable{X:Cx}{pos:Pos}
def zm(i:Nat):TG:=fun v σ H Q=>Q (σ.set i (some v)) H
theorem xI{i:Nat}{x:Str}(hN:X.N.Nodup)(hi:X.N[i]? =some x)(hx:nw X.env.scope x)(hf:X.fn x=true\/X.env.scope.names.lookup x=some .local:=by first|exact .inl rfl|exact .inr rfl|assumption):PG X (.Name x pos) (zm i):=by
 intro pins s σ H v u Q I r h
 exact wpAny_assign_Name (hJ I hN hi hx r (fun s' I'=>⟨_,H,I',h⟩) hf)
def GQ:xH:=fun vs σ H Q=>vs=[]/\Q σ H
def Dm(t:TG)(u:xH):xH:=fun vs σ H Q=>∃v r,vs=v::r/\t v σ H fun σ' H'=>u r σ' H' Q
theorem xJ:Af X [] GQ:=by
 intro pins s σ H vs us Q I r h
 obtain⟨e,h⟩:=h
 subst e
 cases r
 exact assignInOrder_nil ⟨σ,H,I,h⟩
theorem u8{e:Expr}{es:List Expr}{t:TG}{u:xH}(h1:PG X e t)(h2:Af X es u)
  (hs:(assignEach (e::es) X.env).map (·.2)=assign e X.env::(assignEach es X.env).map (·.2):=by rfl):Af X (e::es) (Dm t u):=by
 intro pins s σ H vs us Q I r h
 obtain⟨v,vr,e1,h⟩:=h
 subst e1
 cases r with
 |cons r rr =>
  rw[hs]
  refine assignInOrder_cons (bx (h1 pins s σ H _ _ _ I r h) fun _ s1 ⟨σ1,H1,I1,q1⟩=> ?_)
  exact h2 pins s1 σ1 H1 _ _ Q I1 rr q1
def GR(K:Fg)(n:Nat)(t:xH):TG:=fun v σ H Q=>∃a xs,v= .ref a/\gE K H a xs/\xs.length=n/\t xs σ H Q
theorem Ag{es:List Expr}{k:Nat}{t:xH}{n:Nat}(hc:X.calm=true)(h:Af X es t)
  (hn:(assignEach es X.env).length=n:=by rfl) (hst:(assignEach es X.env).findIdx? (·.1)=none:=by rfl):PG X (.Tuple es k pos) (GR X.K n t):=by
 intro pins s σ H v u Q I r hw
 obtain⟨a,xs,e1,hq,hl,hw⟩:=hw
 subst e1
 cases r
 obtain⟨its,rv,ht,hz⟩:=I.tuple hq
 refine assign_Tuple_tuple (I.ok.hd hc) ht (by simp[hn,<-hl,rv.length]) hst fun h' hx=> ?_
 have I1:aA X pins σ H { s with heap:=h' }:=I.kept (t':=s.toks) fun b o e=>hx b o (Nat.ne_of_lt (Heap.lt_size e)) e
 exact h pins _ σ H xs _ Q I1 (by simpa using rv) hw
def Dn(te:TE)(g:TG):TS:=fun D σ H=>te σ H fun x H1=>g x σ H1 D.nx
theorem Ah{tg e:Expr}{te:TE}{g:TG}(he:PE X e te)(hg:PG X tg g)(hs:swapsWithSole [tg] e pos.line X.env=pure false:=by rfl)(hw:swappedStores [tg] e X.env=pure none:=by rfl)
  (h1:(assignEach [tg] X.env).map (·.2)=[assign tg X.env]:=by rfl):PS X (.Assign [tg] e pos) (Dn te g):=by
 intro pins s σ H D I h
 refine wpAny_Assign_stores (bx (he pins s σ H _ I h) fun v s1 ⟨x,H1,I1,r1,q1⟩=> ?_) hs hw
 rw[h1]
 exact bx (hg pins s1 σ H1 x v _ I1 r1 q1) fun _ s2 q=>q
theorem iJ{i:Nat}{x:Str}{e:Expr}{te:TE}{pos':Pos}(hN:X.N.Nodup)(hi:X.N[i]? =some x)(hx:nw X.env.scope x)(he:PE X e te)(hs:swapsWith e (some (.Name x pos')) pos.line X.env=pure false:=by rfl)(hf:X.fn x=true\/X.env.scope.names.lookup x=some .local:=by first|exact .inl rfl|exact .inr rfl|assumption) :
  PS X (.Assign [.Name x pos'] e pos) (Dn te (zm i)):=by
 intro pins s σ H D I h
 refine wpAny_Assign_Name (bx (he pins s σ H _ I h) fun v s1 ⟨y,H1,I1,r1,q1⟩=> ?_) hs
 exact hJ I1 hN hi hx r1 (fun s2 I2=>⟨_,H1,I2,q1⟩) hf
def GS(i:Nat)(te:TE)(ti:G3):TS:=fun D σ H=>∃x, σ[i]? =some (some x)/\te σ H fun y H1=>ti x y H1 fun z H2=>D.nx (σ.set i (some z)) H2
theorem Ai{i:Nat}{x:Str}{e:Expr}{te:TE}{op:Operator}{ti:G3}{pos':Pos}(hN:X.N.Nodup)(hi:X.N[i]? =some x)(hx:nw X.env.scope x)(he:PE X e te)(ho:Dl X op ti)(hf:X.fn x=true\/X.env.scope.names.lookup x=some .local:=by first|exact .inl rfl|exact .inr rfl|assumption) :
  PS X (.AugAssign (.Name x pos') op e pos) (GS i te ti):=by
 intro pins s σ H D I h
 obtain⟨v,e1,h⟩:=h
 obtain⟨m,hn,hl⟩:=I.loc
 have vis:lX X.env.scope x:=by rcases hx with k|k;exact .inl k;exact .inr (.inl k)
 obtain⟨u,r,l⟩:=hl i x v hi e1 vis
 refine wpAny_AugAssign_Name ?_
 have go:wpAny .(E) X.A (eval e X.env) (fun w s₂=>wpAny .(E) X.A (inplaceOp op u w) (fun r s₃ =>wpAny .(E) X.A (storeName X.env x r) (fun _=>SP X pins D .next) X.xe s₃) X.xe s₂) X.xe s:=by
  refine bx (he pins s σ H _ I h) fun w s1 ⟨y,H1,I1,r1,q1⟩=> ?_
  refine bx (ho pins s1 σ H1 v y u w _ I1 r r1 q1) fun z s2 ⟨zv,H2,I2,r2,q2⟩=> ?_
  exact hJ I2 hN hi hx r2 (fun s3 I3=>⟨_,H2,I3,q2⟩) hf
 rcases l with⟨hk,hm⟩|⟨hk,c,hc,hcell⟩
 ·exact wpAny_loadName_local I.ok.kind hk hn hm go
 ·rcases hk with hk|hk
  ·exact wpAny_loadName_cell I.ok.kind hk hc hcell go
  ·rcases hx with k|k
   ·have:X.env.scope.names.lookup x=some .free:=hk
    rw[k]at this;cases this
   ·have:X.env.scope.names.lookup x=some .free:=hk
    rw[k]at this;cases this
def G4(f:Int->Int->Int):G3:=fun x y H Q=>∃i j,x= .int i/\y= .int j/\Q (.int (f i j)) H
theorem oR:Dl X .Add (G4 fun i j=>i+j):=by
 intro pins s σ H x y v u Q I r1 r2 h
 obtain⟨i,j,e1,e2,q⟩:=h
 subst e1;subst e2
 obtain⟨t,rfl⟩:=r1
 obtain⟨t',rfl⟩:=r2
 exact iadd_int ⟨.int _,H,I.tok _,⟨_,rfl⟩,q⟩
theorem Aj:Dl X .Sub (G4 fun i j=>i-j):=by
 intro pins s σ H x y v u Q I r1 r2 h
 obtain⟨i,j,e1,e2,q⟩:=h
 subst e1;subst e2
 obtain⟨t,rfl⟩:=r1
 obtain⟨t',rfl⟩:=r2
 exact isub_int ⟨.int _,H,I.tok _,⟨_,rfl⟩,q⟩
end
noncomputable section
variable{X:Cx}{pos:Pos}
def Ak(c:TT)(tb:TS):TS:=fun D σ H=>∃W:Nat->St->Hp->Prop,(∃m,W m σ H)/\ ∀m σ H,W m σ H ->
 c σ H fun b H1=>if b=true then ∃N:St->Hp->Prop,(∀σ' H',N σ' H'->∃m',m'<m/\W m' σ' H')/\tb { D with nx:=N,ct:=N,bk:=D.nx } σ H1 else D.nx σ H1
theorem u9{c:Expr}{body:List Stmt}{tc:TT}{tb:TS}(hp:PassesOwn .(E) X.A X.env X.xe)(hc:PT X c tc)(hb:nI X body tb):PS X (.While c body [] pos) (Ak tc tb):=by
 intro pins s σ H D I h
 obtain⟨W,⟨m0,w0⟩,turn⟩:=h
 refine wpAny_While (codeAny_whileLoop (fun n s'=>∃σ' H',aA X pins σ' H' s'/\W n σ' H') ?_ m0 ⟨σ,H,I,w0⟩)
 rintro n s1 ⟨σ1,H1,I1,w1⟩
 refine wpAny_passesOwn hp (bx (hc pins s1 σ1 H1 _ I1 (turn n σ1 H1 w1)) fun b s2 ⟨H2,I2,q2⟩=> ?_)
 cases b with
 |true =>
  obtain⟨N,hN,q2⟩:=q2
  rw[if_pos rfl]
  refine wpAny_passesOwn hp (bx (hb pins s2 σ1 H2 _ I2 q2) fun f s3 q3=> ?_)
  cases f with
  |next =>
   obtain⟨σ3,H3,I3,n3⟩:=q3
   obtain⟨m',hm,w3⟩:=hN σ3 H3 n3
   exact⟨m',hm, σ3,H3,I3,w3⟩
  |cont =>
   obtain⟨σ3,H3,I3,n3⟩:=q3
   obtain⟨m',hm,w3⟩:=hN σ3 H3 n3
   exact⟨m',hm, σ3,H3,I3,w3⟩
  |brk=>exact q3
  |ret v=>exact q3
 |false =>
  rw[if_neg Bool.false_ne_true]
  exact wpAny_execs_nil ⟨σ1,H2,I2,q2⟩
end
structure It where
 go:Nat->Hp->Prop
 yld:Nat->Hp->V->Hp->Prop
 stop:Nat->Hp->Prop
def iK(X:Cx)(pins:List (Addr×Obj))(H:Hp)(b:Addr):Prop :=
 H b=none/\b≠X.env.locals/\b∉X.fs/\(b∈X.ex\/X.s₀.heap.objs.size<=b)/\(∀x c,X.env.cells.lookup x=some c->c≠b)/\ ∀p∈X.pn++pins,p.1≠b
theorem aA.fpOk{X:Cx}{pins:List (Addr×Obj)}{σ :St}{H H':Hp}{s:Shared}{b:Addr}(I:aA X pins σ H s)(hb:s.heap.objs.size<=b)(hn:H' b=none):iK X pins H' b:=by
 refine⟨hn,Nat.ne_of_gt (Nat.lt_of_lt_of_le I.lt hb),I.nofs hb,.inr (Nat.le_trans I.sz hb),fun x c e z=> ?_,fun p hp z=> ?_⟩
 ·obtain⟨v,q⟩:=I.cell x c e
  exact absurd (Nat.lt_of_lt_of_le q.lt (by rw[z];exact hb)) (Nat.lt_irrefl _)
 ·exact absurd (Nat.lt_of_lt_of_le (Heap.lt_size (I.pin p hp).1) (by rw[z];exact hb)) (Nat.lt_irrefl _)
structure ua(P:Program)(w:World)(K:Fg)(tg:Expr)(J:It)(fp:List Addr)(it:Addr)(tn:Nat->Heap->Prop):Prop where
 mem:it∈fp
 obj:∀i h,tn i h->∀b∈fp,∃o,h.get? b=some o/\ ∀v,o.data ≠ .cell v
 keep:∀i h h',tn i h->(∀b∈fp,∀o,h.get? b=some o->h'.get? b=some o)->tn i h'
 item:∀(X:Cx),X.prog=P->X.w=w->X.K=K->X.calm=true->∀(i:Nat) (pins:List (Addr×Obj)) (s:Shared) (σ :St) (H:Hp) (E:Value->Shared->Prop),aA X pins σ H s->(∀b∈fp,iK X pins H b)->tn i s.heap->J.go i H ->
  wpAny (model P w) X.A (pyNext (.ref it)) (fun r s1=>∃u,r=some u /\
   wpAny (model P w) X.A (letOwnedTupleGo tg (.ref it) u) (fun _ s2=>∃x H',aA X pins σ H' s2/\aQ x u/\J.yld i H x H'/\tn (i+1) s2.heap/\ ∀b∈fp,H' b=none) E s1) E s
 done:∀(X:Cx),X.prog=P->X.w=w->X.K=K->X.calm=true->∀(i:Nat) (pins:List (Addr×Obj)) (s:Shared) (σ :St) (H:Hp) (E:Value->Shared->Prop),aA X pins σ H s->(∀b∈fp,iK X pins H b)->tn i s.heap->J.stop i H ->
  wpAny (model P w) X.A (pyNext (.ref it)) (fun r s1=>r=none/\aA X pins σ H s1) E s
 self:∀(A:Around) (i:Nat) (s:Shared) (Q:Value->Shared->Prop) (E:Value->Shared->Prop),tn i s.heap->Q (.ref it) s->wpAny (model P w) A (pyIter (.ref it)) Q E s
abbrev TI:=St->Hp->(It->Hp->Prop)->Prop
def JE(X:Cx)(pins:List (Addr×Obj))(σ :St)(tg:Expr)(R:It->Hp->Prop)(itv:Value)(s2:Shared):Prop :=
 ∃(it:Addr) (fp:List Addr) (tn:Nat->Heap->Prop) (J:It) (H':Hp),itv= .ref it/\aA X pins σ H' s2/\ua X.prog X.w X.K tg J fp it tn/\tn 0 s2.heap/\(∀b∈fp,iK X pins H' b)/\R J H'
def PI(X:Cx)(tg iter:Expr)(wi:TI):Prop :=
 ∀(pins:List (Addr×Obj)) (s:Shared) (σ :St) (H:Hp) (R:It->Hp->Prop),aA X pins σ H s->wi σ H R ->
  wpAny .(E) X.A (eval iter X.env) (fun v s1=>wpAny .(E) X.A (pyIter v) (JE X pins σ tg R) X.xe s1) X.xe s
theorem uc{M:Model}{A:Around}{E:Value->Shared->Prop}{s:Shared}{tg:Expr}{it:Addr}{u:Value}{o:Obj}{n:String}{vs:Array Value}{Q:Unit->Shared->Prop}(ho:s.heap.get? it=some o)(hc:o.cls= .type n)(hd:o.data= .fields vs)
    (hn:["enumerate","zip","dict_itemiterator","dict_reverseitemiterator","odict_iterator","itertools.zip_longest","itertools.pairwise"].contains n=false) (hQ:Q () s):wpAny M A (letOwnedTupleGo tg (.ref it) u) Q E s:=by
  unfold letOwnedTupleGo
  cases tg <;> first
    |exact wpAny_pure hQ
    | (cases u <;> first
        |exact wpAny_pure hQ
        | (refine wpAny_bind (wpAny_load ho ?_)
           rw[hc,hd]
           show wpAny M A (if (["enumerate","zip","dict_itemiterator","dict_reverseitemiterator","odict_iterator","itertools.zip_longest","itertools.pairwise"].contains n && vs[0]? == some (rawInt _))=true then _ else _) Q E s
           rw[if_neg (by intro h;rw[hn,Bool.false_and]at h;cases h)]
           exact wpAny_pure hQ))
def Do(K:Fg)(a:Addr):It :=
 ⟨fun i H=>∃xs x,eE K H a xs/\xs[i]? =some x,fun i H x H'=>H'=H/\ ∀xs,eE K H a xs->xs[i]? =some x,fun i H=>∃xs,eE K H a xs/\xs.length<=i⟩
def Dp(K:Fg)(a:Addr):It :=
 ⟨fun i H=>∃xs x,gE K H a xs/\xs[i]? =some x,fun i H x H'=>H'=H/\ ∀xs,gE K H a xs->xs[i]? =some x,fun i H=>∃xs,gE K H a xs/\xs.length<=i⟩
def CF(lo:Int)(n:Nat):It:=⟨fun i _=>i<n,fun i H x H'=>H'=H/\x= .int (lo+i),fun i _=>n<=i⟩
theorem rB{P:Program}{w:World}{K:Fg}{tg:Expr}(a it:Addr):ua P w K tg (Do K a) [it] it (fun i h=>h.IsListIter it a i) where
 mem:=by simp
 obj:=fun i h st b hb=>by
  have e:b=it:=by simpa using hb
  subst e
  obtain⟨o,e,c,d⟩:=st
  exact⟨o,e,fun v z=>by rw[d]at z;cases z⟩
 keep:=fun i h h' st k=>st.at fun o e=>k it (by simp) o e
 item:=by
  intro X hP hw hK hc i pins s σ H E I hf st hg
  subst hP hw hK
  obtain⟨xs,x,hq,hx⟩:=hg
  obtain⟨its,rv,p,hz⟩:=I.list hq
  obtain⟨u,hu,ru⟩:=rv.get hx
  obtain⟨f0,f1,f2,f3,f4,f5⟩:=hf it (by simp)
  refine wpAny_pyNext_list_item st p.isList (x:=u) (by simpa using hu) fun h' st' sb=> ?_
  have I1:aA X pins σ H { s with heap:=h' }:=I.turned (t':=s.toks) (fun b o hb e=>(sb.2 b hb).trans e) f0 f1 f3 f4 f5
  obtain⟨o,e,c,d⟩:=id st'
  exact⟨u,rfl,uc (s:={ s with heap:=h' }) e c d (by decide) ⟨x,H,I1,ru,⟨rfl,fun ys hy=>by rw[I.list_inj hy hq];exact hx⟩,st',fun b hb=>(hf b hb).1⟩⟩
 done:=by
  intro X hP hw hK hc i pins s σ H E I hf st hg
  subst hP hw hK
  obtain⟨xs,hq,hx⟩:=hg
  obtain⟨its,rv,p,hz⟩:=I.list hq
  obtain⟨f0,f1,f2,f3,f4,f5⟩:=hf it (by simp)
  have hl:=rv.length
  exact wpAny_pyNext_list_end (I.ok.hd hc) st p.isList (by simp;omega) fun h' eb=>⟨rfl,I.turned (t':=s.toks) (fun b o hb e=>eb b o hb e) f0 f1 f3 f4 f5⟩
 self:=fun _ _ _ _ _ st h=>wpAny_pyIter_listiter st h
theorem oS{P:Program}{w:World}{K:Fg}{tg:Expr}(a it:Addr):ua P w K tg (Dp K a) [it] it (fun i h=>h.IsTupleIter it a i) where
 mem:=by simp
 obj:=fun i h st b hb=>by
  have e:b=it:=by simpa using hb
  subst e
  obtain⟨o,e,c,d⟩:=st
  exact⟨o,e,fun v z=>by rw[d]at z;cases z⟩
 keep:=fun i h h' st k=>st.at fun o e=>k it (by simp) o e
 item:=by
  intro X hP hw hK hc i pins s σ H E I hf st hg
  subst hP hw hK
  obtain⟨xs,x,hq,hx⟩:=hg
  obtain⟨its,rv,p,hz⟩:=I.tuple hq
  obtain⟨u,hu,ru⟩:=rv.get hx
  obtain⟨f0,f1,f2,f3,f4,f5⟩:=hf it (by simp)
  refine wpAny_pyNext_tuple_item st (show s.heap.IsTuple a its.toArray from p) (x:=u) (by simpa using hu) fun h' st' sb=> ?_
  have I1:aA X pins σ H { s with heap:=h' }:=I.turned (t':=s.toks) (fun b o hb e=>(sb.2 b hb).trans e) f0 f1 f3 f4 f5
  obtain⟨o,e,c,d⟩:=id st'
  exact⟨u,rfl,uc (s:={ s with heap:=h' }) e c d (by decide) ⟨x,H,I1,ru,⟨rfl,fun ys hy=>by rw[I.tuple_inj hy hq];exact hx⟩,st',fun b hb=>(hf b hb).1⟩⟩
 done:=by
  intro X hP hw hK hc i pins s σ H E I hf st hg
  subst hP hw hK
  obtain⟨xs,hq,hx⟩:=hg
  obtain⟨its,rv,p,hz⟩:=I.tuple hq
  obtain⟨f0,f1,f2,f3,f4,f5⟩:=hf it (by simp)
  have hl:=rv.length
  exact wpAny_pyNext_tuple_end (I.ok.hd hc) st (show s.heap.IsTuple a its.toArray from p) (by simp;omega) fun h' eb=>⟨rfl,I.turned (t':=s.toks) (fun b o hb e=>eb b o hb e) f0 f1 f3 f4 f5⟩
 self:=fun _ _ _ _ _ st h=>wpAny_pyIter_tupleiter st h
theorem oT{P:Program}{w:World}{K:Fg}{tg:Expr}(it:Addr)(lo:Int)(n:Nat):ua P w K tg (CF lo n) [it] it (fun i h=>IsRangeIter h it (lo+(i:Nat)*1) ((n:Int)-(i:Nat)) 1) where
 mem:=by simp
 obj:=fun i h st b hb=>by
  have e:b=it:=by simpa using hb
  subst e
  exact⟨_,st,fun v z=>by
   have z':Data.fields _=Data.cell v:=z
   cases z'⟩
 keep:=fun i h h' st k=>k it (by simp) _ st
 item:=by
  intro X hP hw hK hc i pins s σ H E I hf st hg
  subst hP hw hK
  obtain⟨f0,f1,f2,f3,f4,f5⟩:=hf it (by simp)
  have W:=Walks.range (prog:=X.prog) (w:=X.w) (I.ok.hd hc) it lo 1 n
  refine W.item i s _ _ hg st fun v h' tk hv st' kk=> ?_
  obtain⟨t,rfl⟩:=hv
  have I1:aA X pins σ H { s with heap:=h',toks:=tk }:=I.turned (fun b o hb e=>kk b o (by simpa using hb) e) f0 f1 f3 f4 f5
  refine⟨_,rfl,uc (s:={ s with heap:=h',toks:=tk }) (n:="range_iterator") st' rfl rfl (by decide) ⟨.int (lo+i),H,I1,⟨t,?_⟩,⟨rfl,rfl⟩,st',fun b hb=>(hf b hb).1⟩⟩
  rw[Int.mul_one]
 done:=by
  intro X hP hw hK hc i pins s σ H E I hf st hg
  subst hP hw hK
  obtain⟨f0,f1,f2,f3,f4,f5⟩:=hf it (by simp)
  exact wpAny_pyNext_range_end (I.ok.hd hc) st (by have:n<=i:=hg;omega) fun h' eb=>⟨rfl,I.turned (t':=s.toks) (fun b o hb e=>eb b o hb e) f0 f1 f3 f4 f5⟩
 self:=fun _ _ _ _ _ st h=>wpAny_pyIter_rangeiter st h
end L2
namespace L2
open PySem PySem.Spec PyProof.Rows
noncomputable section
variable{X:Cx}{tg:Expr}
def Dq(K:Fg)(tl:TE):TI:=fun σ H R=>tl σ H fun x H1=>∃a,x= .ref a/\(∃xs,eE K H1 a xs)/\R (Do K a) H1
def GT(K:Fg)(tl:TE):TI:=fun σ H R=>tl σ H fun x H1=>∃a,x= .ref a/\(∃xs,gE K H1 a xs)/\R (Dp K a) H1
theorem qd{l:Expr}{tl:TE}(hl:PE X l tl):PI X tg l (Dq X.K tl):=by
 intro pins s σ H R I h
 refine bx (hl pins s σ H _ I h) fun v s1 ⟨x,H1,I1,r1,q1⟩=> ?_
 obtain⟨a,e,⟨xs,hq⟩,q⟩:=q1
 subst e
 cases r1
 obtain⟨its,rv,p,hz⟩:=I1.list hq
 refine wpAny_pyIter_list p.isList ?_
 refine⟨s1.heap.objs.size,[s1.heap.objs.size],_,_,H1,rfl,I1.kept (t':=s1.toks) fun b o e=>Heap.get?_push_of_some _ e,rB a _,⟨_,Heap.get?_push_size _ rfl,rfl,rfl⟩,fun b hb=> ?_,q⟩
 have e:b=s1.heap.objs.size:=by simpa using hb
 subst e
 exact I1.fpOk .(Ac) (I1.hok.fresh .(Ac))
theorem Al{l:Expr}{tl:TE}(hl:PE X l tl):PI X tg l (GT X.K tl):=by
 intro pins s σ H R I h
 refine bx (hl pins s σ H _ I h) fun v s1 ⟨x,H1,I1,r1,q1⟩=> ?_
 obtain⟨a,e,⟨xs,hq⟩,q⟩:=q1
 subst e
 cases r1
 obtain⟨its,rv,p,hz⟩:=I1.tuple hq
 refine wpAny_pyIter_tuple (show s1.heap.IsTuple a its.toArray from p) ?_
 refine⟨s1.heap.objs.size,[s1.heap.objs.size],_,_,H1,rfl,I1.kept (t':=s1.toks) fun b o e=>Heap.get?_push_of_some _ e,oS a _,⟨_,Heap.get?_push_size _ rfl,rfl,rfl⟩,fun b hb=> ?_,q⟩
 have e:b=s1.heap.objs.size:=by simpa using hb
 subst e
 exact I1.fpOk .(Ac) (I1.hok.fresh .(Ac))
theorem ud{pins:List (Addr×Obj)}{σ :St}{H:Hp}{s:Shared}{R:It->Hp->Prop}{E:Value->Shared->Prop}{lo hi:Int}{t u v:Tok}{tk:Nat}(I:aA X pins σ H s)(h1: -(2 ^ 62)<=lo)(h2:lo<2 ^ 62)(h3: -(2 ^ 62)<=hi)(h4:hi<2 ^ 62)
  (q:R (CF lo (hi-lo).toNat) H):wpAny .(E) X.A (pyIter (.ref s.heap.objs.size)) (JE X pins σ tg R) E { s with heap:=s.heap.push { cls:= .type "range",data:= .fields #[.int lo t,.int hi u,.int 1 v] },toks:=tk }:=by
 refine wpAny_pyIter_range (IsRange.new ..) (small_one h1 h2 h3 h4) ?_
 have I1:aA X pins σ H { s with heap:=s.heap.push { cls:= .type "range",data:= .fields #[.int lo t,.int hi u,.int 1 v] },toks:=tk }:=I.kept fun b o e=>Heap.get?_push_of_some _ e
 refine⟨(s.heap.push { cls:= .type "range",data:= .fields #[.int lo t,.int hi u,.int 1 v] }).objs.size,[(s.heap.push { cls:= .type "range",data:= .fields #[.int lo t,.int hi u,.int 1 v] }).objs.size],_,_,H,rfl,
  I1.kept (t':=tk) fun b o e=>Heap.get?_push_of_some _ e,oT _ lo (hi-lo).toNat,?_,fun b hb=> ?_,q⟩
 ·have e1:lo+((0:Nat):Int)*1=lo:=by simp
  have e2:(((hi-lo).toNat:Nat):Int)-((0:Nat):Int)=Builtin.Range.rangeSize lo hi 1:=by rw[rangeSize_one];split <;> omega
  show IsRangeIter _ _ (lo+((0:Nat):Int)*1) ((((hi-lo).toNat:Nat):Int)-((0:Nat):Int)) 1
  rw[e1,e2]
  exact Heap.get?_push_size _ rfl
 ·have e:b=(s.heap.push { cls:= .type "range",data:= .fields #[.int lo t,.int hi u,.int 1 v] }).objs.size:=by simpa using hb
  subst e
  exact I1.fpOk .(Ac) (I1.hok.fresh .(Ac))
def Ds(ta:TA):TI:=fun σ H R=>ta σ H fun vs H1=>∃j:Int,vs=[.int j]/\ -(2 ^ 62)<=j/\j<2 ^ 62/\R (CF 0 j.toNat) H1
theorem rC{a:Expr}{ta:TA}{p pos:Pos}(hg:Gl X "range")(hm:X.mg "range"=none)(ha:PA X [a] ta)(hs:starEach [a] X.env=[(false,eval a X.env)]:=by rfl):PI X tg (.Call (.Name "range" p) [a] [] pos) (Ds ta):=by
 intro pins s σ H R I h
 refine Call_ (jC I hg hm boot_range (PyProof.Rows.callWith_type1 (bx (ha pos pins s σ H _ I h) fun us s1 ⟨vs,H1,I1,r1,q1⟩=> ?_) hs rfl))
 obtain⟨j,e,q1,q2,q⟩:=q1
 subst e
 cases r1 with
 |cons r rr =>
  cases rr
  obtain⟨t,rfl⟩:=r
  exact call_range_1 (ud I1 (by omega) (by omega) q1 q2 (by simpa using q))
def tFor(wi:TI)(g:TG)(tb:TS):TS:=fun D σ H=>wi σ H fun J H1=>∃W:Nat->Nat->St->Hp->Prop,(∃m,W 0 m σ H1)/\ ∀i m σ H,W i m σ H ->
 (J.stop i H/\D.nx σ H)\/(J.go i H/\ ∃N:St->Hp->Prop,(∀σ' H',N σ' H'->∃m',m'<m/\W (i+1) m' σ' H')/\ ∀x H',J.yld i H x H'->g x σ H' fun σ2 H2=>tb { D with nx:=N,ct:=N,bk:=D.nx } σ2 H2)
def iM(fp:List Addr)(h:Heap):List (Addr×Obj):=fp.filterMap fun b=>(h.get? b).map fun o=>(b,o)
theorem cW{fp:List Addr}{h:Heap}{b:Addr}{o:Obj}(hb:b∈fp)(e:h.get? b=some o):(b,o)∈iM fp h:=List.mem_filterMap.mpr ⟨b,hb,by rw[e];rfl⟩
theorem rD{fp:List Addr}{h:Heap}{p:Addr×Obj}(hp:p∈iM fp h):p.1∈fp/\h.get? p.1=some p.2:=by
 obtain⟨b,hb,e⟩:=List.mem_filterMap.mp hp
 cases q:h.get? b with
 |none=>rw[q]at e;cases e
 |some o =>
  rw[q]at e
  have e':(b,o)=p:=Option.some.inj e
  subst e'
  exact⟨hb,q⟩
theorem aA.pinned{pins:List (Addr×Obj)}{σ :St}{H:Hp}{s:Shared}{fp:List Addr}(I:aA X pins σ H s)(hf:∀b∈fp,iK X pins H b)(ho:∀b∈fp,∃o,s.heap.get? b=some o/\ ∀v,o.data ≠ .cell v):aA X (pins++iM fp s.heap) σ H s :=
 I.pins_of fun p hp=>(List.mem_append.mp hp).elim (fun z=>I.pin p (List.mem_append_right _ z)) fun z=>by
  obtain⟨hb,e⟩:=rD z
  obtain⟨f0,f1,f2,_⟩:=hf p.1 hb
  obtain⟨o,e',d⟩:=ho p.1 hb
  rw[e]at e';cases e'
  exact⟨e,f0,f1,f2,d⟩
theorem aA.unpinned{pins pl:List (Addr×Obj)}{σ :St}{H:Hp}{s:Shared}(I:aA X (pins++pl) σ H s):aA X pins σ H s:=I.pins_of fun p hp=>I.pin p (List.mem_append_right _ (List.mem_append_left _ hp))
theorem ue{iter:Expr}{body:List Stmt}{wi:TI}{g:TG}{tb:TS}{pos:Pos}(hp:PassesOwn .(E) X.A X.env X.xe)(hc:X.calm=true)(hi:PI X tg iter wi)(hg:PG X tg g)(hb:nI X body tb)
  (hs:∀x,foldedSetIterable iter X.env x=pure x:=by intro _;rfl):PS X (.For tg iter body [] pos) (tFor wi g tb):=by
 intro pins s σ H D I h
 refine wpAny_For (bx (hi pins s σ H _ I h) fun v s1 h1=>bx h1 fun itv s2 h2=> ?_) hs
 obtain⟨it,fp,tn,J,H2,e,I2,T,st2,f2,W,⟨m0,w0⟩,turn⟩:=h2
 subst e
 -- what stays true of the iterator's objects through the loop
 have stat:∀{H':Hp},(∀b∈fp,H' b=none)->∀b∈fp,iK X pins H' b:=fun hn b hb=>⟨hn b hb,(f2 b hb).2⟩
 refine codeAny_forLoop_any (fun n s'=>∃i σ' H',aA X pins σ' H' s'/\tn i s'.heap/\(∀b∈fp,H' b=none)/\W i n σ' H') ?_ m0 ⟨0, σ,H2,I2,st2,fun b hb=>(f2 b hb).1,w0⟩
 rintro n s3 ⟨i, σ3,H3,I3,st3,fr3,w3⟩
 rcases turn i n σ3 H3 w3 with⟨stop,qn⟩|⟨go,N,hN,step⟩
 ·refine wpAny_passesOwn hp (bx (T.done X rfl rfl rfl hc i pins s3 σ3 H3 X.xe I3 (stat fr3) st3 stop) fun r s4 ⟨hr,I4⟩=> ?_)
  subst hr
  exact wpAny_execs_nil ⟨σ3,H3,I4,qn⟩
 ·refine wpAny_passesOwn hp (bx (T.item X rfl rfl rfl hc i pins s3 σ3 H3 X.xe I3 (stat fr3) st3 go) fun r s4 ⟨u,hr,h4⟩=> ?_)
  subst hr
  refine wpAny_passesOwn hp (bx h4 fun _ s5 ⟨x,H5,I5,r5,y5,st5,fr5⟩=> ?_)
  have I5':=I5.pinned (stat fr5) (T.obj _ _ st5)
  refine wpAny_passesOwn hp (bx (hg _ s5 σ3 H5 x u _ I5' r5 (step x H5 y5)) fun _ s6 ⟨σ6,H6,I6,q6⟩=> ?_)
  refine wpAny_passesOwn hp (bx (hb _ s6 σ6 H6 _ I6 q6) fun f s7 q7=> ?_)
  have again:∀{σ7:St} {H7:Hp},aA X (pins++iM fp s5.heap) σ7 H7 s7->N σ7 H7->∃m,m<n/\ ∃i σ' H',aA X pins σ' H' s7/\tn i s7.heap/\(∀b∈fp,H' b=none)/\W i m σ' H':=fun {σ7 H7} I7 n7=>by
   obtain⟨m',hm,w7⟩:=hN σ7 H7 n7
   refine⟨m',hm,i+1, σ7,H7,I7.unpinned,T.keep _ _ _ st5 fun b hb o e=>.(Ai).1,fun b hb=> ?_,w7⟩
   obtain⟨o,e,d⟩:=T.obj _ _ st5 b hb
   exact .(Ai).2.1
  cases f with
  |next=>obtain⟨σ7,H7,I7,n7⟩:=q7;exact again I7 n7
  |cont=>obtain⟨σ7,H7,I7,n7⟩:=q7;exact again I7 n7
  |brk=>obtain⟨σ7,H7,I7,q7⟩:=q7;exact⟨σ7,H7,I7.unpinned,q7⟩
  |ret v=>exact q7
end
end L2
namespace L2
open PySem PySem.Spec PyProof.Rows
abbrev R2:=V->V->Hp->VK->Prop
def fQ(X:Cx)(f:Value->Value->Sem Value)(r:R2):Prop :=
 ∀(pins:List (Addr×Obj)) (s:Shared) (σ :St) (H:Hp) (x y:V) (v u:Value) (Q:VK),aA X pins σ H s->aQ x v->aQ y u->r x y H Q ->
  wpAny .(E) X.A (f v u) (EP X pins σ Q) X.xe s
def G5(X:Cx)(f:Value->Sem Value)(r:V->Hp->VK->Prop):Prop :=
 ∀(pins:List (Addr×Obj)) (s:Shared) (σ :St) (H:Hp) (x:V) (v:Value) (Q:VK),aA X pins σ H s->aQ x v->r x H Q ->
  wpAny .(E) X.A (f v) (EP X pins σ Q) X.xe s
def hX(X:Cx)(f:Value)(r:List V->Hp->VK->Prop):Prop :=
 ∀(pins:List (Addr×Obj)) (s:Shared) (σ :St) (H:Hp) (xs:List V) (us:List Value) (Q:VK),aA X pins σ H s->aR xs us->r xs H Q ->
  wpAny .(E) X.A (call f us) (EP X pins σ Q) X.xe s
def Dt(r:R2)(ta tb:TE):TE:=fun σ H Q=>ta σ H fun x H1=>tb σ H1 fun y H2=>r x y H2 Q
def Kx(r:V->Hp->VK->Prop)(ta:TE):TE:=fun σ H Q=>ta σ H fun x H1=>r x H1 Q
def rI(C:Int->Int->Prop)(g:Int->Int->V):R2:=fun x y H Q=>∃i j,x= .int i/\y= .int j/\C i j/\Q (g i j) H
def tW(g:Int->Int->V):R2:=fun x y H Q=>∃i j,x= .int i/\y= .int j/\Q (g i j) H
def rU(g:Int->V):V->Hp->VK->Prop:=fun x H Q=>∃i,x= .int i/\Q (g i) H
noncomputable section
variable{X:Cx}{a b c:Expr}{ta tb tc:TE}{pos:Pos}
theorem Am(ha:PE X a ta)(hb:PE X b tb){pins:List (Addr×Obj)}{s:Shared}{σ :St}{H:Hp}{R:V->V->Hp->Prop}(I:aA X pins σ H s)
  (h:ta σ H fun x H1=>tb σ H1 fun y H2=>R x y H2) {Q:Value->Shared->Prop} {f:Value->Value->Sem Value}
  (hf:∀v u s2 x y H2,aA X pins σ H2 s2->aQ x v->aQ y u->R x y H2->wpAny .(E) X.A (f v u) Q X.xe s2) :
  wpAny .(E) X.A (eval a X.env) (fun v s₁=>wpAny .(E) X.A (eval b X.env) (fun u s₂=>wpAny .(E) X.A (f v u) Q X.xe s₂) X.xe s₁) X.xe s:=by
 refine bx (ha pins s σ H _ I h) fun v s1 ⟨x,H1,I1,r1,q1⟩=> ?_
 refine bx (hb pins s1 σ H1 _ I1 q1) fun u s2 ⟨y,H2,I2,r2,q2⟩=> ?_
 exact hf v u s2 x y H2 I2 r1 r2 q2
theorem uf{op:Operator}{r:R2}(ho:fQ X (binaryOp op) r)(ha:PE X a ta)(hb:PE X b tb):PE X (.BinOp a op b pos) (Dt r ta tb):=by
 intro pins s σ H Q I h
 exact wpAny_BinOp (Am ha hb I h fun v u s2 x y H2 I2 rx ry q=>ho pins s2 σ H2 x y v u Q I2 rx ry q)
theorem zn{op:UnaryOp}{r:V->Hp->VK->Prop}(ho:G5 X (unaryOp op) r)(ha:PE X a ta):PE X (.UnaryOp op a pos) (Kx r ta):=by
 intro pins s σ H Q I h
 exact UnaryOp_ (bx (ha pins s σ H _ I h) fun v s1 ⟨x,H1,I1,r1,q1⟩=>ho pins s1 σ H1 x v Q I1 r1 q1)
theorem Du{f:Value->Value->Sem Value}{C:Int->Int->Prop}{g:Int->Int->Int}
  (rule:∀(i j:Int) (t u:Tok) (s:Shared) (Q:Value->Shared->Prop) (E:Value->Shared->Prop),C i j->Q (.int (g i j) s.toks) { s with toks:=s.toks+1 }->wpAny .(E) X.A (f (.int i t) (.int j u)) Q E s) :
  fQ X f (rI C fun i j=> .int (g i j)):=by
 intro pins s σ H x y v u Q I rx ry h
 obtain⟨i,j,rfl,rfl,hc,q⟩:=h
 obtain⟨t,rfl⟩:=rx
 obtain⟨t',rfl⟩:=ry
 exact rule i j t t' s _ _ hc ⟨.int (g i j),H,I.tok _,⟨_,rfl⟩,q⟩
theorem ug{f:Value->Value->Sem Value}{g:Int->Int->Int}
  (rule:∀(i j:Int) (t u:Tok) (s:Shared) (Q:Value->Shared->Prop) (E:Value->Shared->Prop),Q (.int (g i j) s.toks) { s with toks:=s.toks+1 }->wpAny .(E) X.A (f (.int i t) (.int j u)) Q E s) :
  fQ X f (tW fun i j=> .int (g i j)):=by
 intro pins s σ H x y v u Q I rx ry h
 obtain⟨i,j,rfl,rfl,q⟩:=h
 obtain⟨t,rfl⟩:=rx
 obtain⟨t',rfl⟩:=ry
 exact rule i j t t' s _ _ ⟨.int (g i j),H,I.tok _,⟨_,rfl⟩,q⟩
theorem xK{f:Value->Value->Sem Value}{g:Int->Int->Bool}
  (rule:∀(i j:Int) (t u:Tok) (s:Shared) (Q:Value->Shared->Prop) (E:Value->Shared->Prop),Q (.bool (g i j)) s->wpAny .(E) X.A (f (.int i t) (.int j u)) Q E s) :
  fQ X f (tW fun i j=> .bl (g i j)):=by
 intro pins s σ H x y v u Q I rx ry h
 obtain⟨i,j,rfl,rfl,q⟩:=h
 obtain⟨t,rfl⟩:=rx
 obtain⟨t',rfl⟩:=ry
 exact rule i j t t' s _ _ ⟨.bl (g i j),H,I,rfl,q⟩
def GU(i j:Int):Prop:=0<j/\j<1073741824
def GV(i j:Int):Prop:=0<=j/\j<=1000000/\i.natAbs<2 ^ 64
def An(i j:Int):Prop:=(-(2 ^ 64)<i/\i<2 ^ 64)\/(-(2 ^ 64)<j/\j<2 ^ 64)
theorem An.ok{i j:Int}(h:An i j):IntMulOk i j:=by
 rcases h with⟨h1,h2⟩|⟨h1,h2⟩
 ·exact .of_left (intBits_le_64 h1 h2)
 ·exact .of_right (intBits_le_64 h1 h2)
theorem oU(k:Nat):(0:Int)<=2 ^ k:=by
 rw[two_pow_cast]
 exact Int.natCast_nonneg _
theorem Ao:fQ X (binaryOp .Add) (tW fun i j=> .int (i+j)):=ug fun _ _ _ _ _ _ _ q=>add_int q
theorem Ap:fQ X (binaryOp .Sub) (tW fun i j=> .int (i-j)):=ug fun _ _ _ _ _ _ _ q=>sub_int q
theorem Aq:fQ X (binaryOp .Mult) (rI An fun i j=> .int (i*j)):=Du fun _ _ _ _ _ _ _ hc q=>mul_int q hc.ok
theorem xL:fQ X (binaryOp .FloorDiv) (rI GU fun i j=> .int (i / j)):=Du fun i j _ _ _ _ _ hc q=>by
 have h1:(0:Int)<j:=hc.1
 have h2:j<1073741824:=hc.2
 exact floordiv_int (by omega) (by rw[Int.fdiv_eq_ediv_of_nonneg i (by omega)];exact q) (.inl (PyProof.noPylong_small (by omega)))
theorem Ar:fQ X (binaryOp .Mod) (rI (fun _ j=>0<j) fun i j=> .int (i % j)):=Du fun i j _ _ _ _ _ hc q=>by
 have h1:(0:Int)<j:=hc
 exact mod_int' (by omega) (by rw[Int.fmod_eq_emod_of_nonneg i (by omega)];exact q)
theorem As:fQ X (binaryOp .LShift) (rI GV fun i j=> .int (i*2 ^ j.toNat)):=Du fun _ _ _ _ _ _ _ hc q=>lshift_int_small hc.1 hc.2.1 hc.2.2 q
theorem At:fQ X (binaryOp .RShift) (rI (fun _ j=>0<=j) fun i j=> .int (i / 2 ^ j.toNat)):=Du fun i j _ _ _ _ _ hc q =>
 rshift_int hc (by rw[Int.fdiv_eq_ediv_of_nonneg i (oU _)];exact q)
theorem Au:fQ X (binaryOp .BitAnd) (tW fun i j=> .int (Builtin.bitAnd i j)):=ug fun _ _ _ _ _ _ _ q=>and_int q
theorem Dv:fQ X (binaryOp .BitOr) (tW fun i j=> .int (Builtin.bitOr i j)):=ug fun _ _ _ _ _ _ _ q=>or_int q
theorem Aw:fQ X (binaryOp .BitXor) (tW fun i j=> .int (Builtin.bitXor i j)):=ug fun _ _ _ _ _ _ _ q=>xor_int q
theorem JF{f:Value->Sem Value}{g:Int->Int}
  (rule:∀(i:Int) (t:Tok) (s:Shared) (Q:Value->Shared->Prop) (E:Value->Shared->Prop),Q (.int (g i) s.toks) { s with toks:=s.toks+1 }->wpAny .(E) X.A (f (.int i t)) Q E s) :
  G5 X f (rU fun i=> .int (g i)):=by
 intro pins s σ H x v Q I rx h
 obtain⟨i,rfl,q⟩:=h
 obtain⟨t,rfl⟩:=rx
 exact rule i t s _ _ ⟨.int (g i),H,I.tok _,⟨_,rfl⟩,q⟩
theorem Ax:G5 X (unaryOp .USub) (rU fun i=> .int (-i)):=JF fun _ _ _ _ _ q=>neg_int q
theorem Ay:G5 X (unaryOp .Invert) (rU fun i=> .int (Builtin.bitNot i)):=JF fun _ _ _ _ _ q=>invert_int q
end
noncomputable section
variable{X:Cx}{a b c:Expr}{ta tb tc:TE}{pos:Pos}
theorem Az{pins:List (Addr×Obj)}{σ :St}{H:Hp}{s:Shared}{Q:VK}{k k':Bool}(I:aA X pins σ H s)(q:Q (.bl k) H)(e:k=k'):EP X pins σ Q (.bool k') s:=by
 subst e
 exact⟨.bl k,H,I,rfl,q⟩
theorem op_lt:fQ X (compareOp .Lt) (tW fun i j=> .bl (decide (i<j))):=xK fun _ _ _ _ _ _ _ q=>lt_int q
theorem op_le:fQ X (compareOp .LtE) (tW fun i j=> .bl (decide (i<=j))):=xK fun _ _ _ _ _ _ _ q=>le_int q
theorem Dw:fQ X (compareOp .Gt) (tW fun i j=> .bl (decide (j<i))):=xK fun _ _ _ _ _ _ _ q=>gt_int q
theorem Dx:fQ X (compareOp .GtE) (tW fun i j=> .bl (decide (j<=i))):=xK fun _ _ _ _ _ _ _ q=>ge_int q
theorem rE:fQ X (compareOp .Lt) (fun x y H Q=>∃i j,x= .str i/\y= .str j/\Q (.bl (decide (i.cps.toList<j.cps.toList))) H):=by
 intro pins s σ H x y v u Q I rx ry h
 obtain⟨i,j,rfl,rfl,q⟩:=h
 obtain⟨t,rfl⟩:=rx
 obtain⟨t',rfl⟩:=ry
 exact lt_str (Az I q rfl)
theorem fT(b:Expr){op:CmpOp}(h:op ≠ .In:=by decide)(h2:op ≠ .NotIn:=by decide):behindInMarks op b=false:=by
 have e1:(op == CmpOp.In)=false:=by cases op <;> first|rfl|exact absurd rfl h
 have e2:(op == CmpOp.NotIn)=false:=by cases op <;> first|rfl|exact absurd rfl h2
 cases b <;> simp[behindInMarks,e1,e2]
theorem xM{op:CmpOp}{r:R2}(ho:fQ X (compareOp op) r)(ha:PE X a ta)(hb:PE X b tb)(hm:behindInMarks op b=false):PE X (.Compare a [op] [b] pos) (Dt r ta tb):=by
 intro pins s σ H Q I h
 exact wpAny_Compare1 (Am ha hb I h fun v u s2 x y H2 I2 rx ry q=>ho pins s2 σ H2 x y v u Q I2 rx ry q) hm
def Dy(t:TE):TT:=fun σ H Q=>t σ H fun x H'=>∃k,x= .bl k/\Q k H'
theorem qe{op:CmpOp}{r:R2}(ho:fQ X (compareOp op) r)(ha:PE X a ta)(hb:PE X b tb)(hm:behindInMarks op b=false):PT X (.Compare a [op] [b] pos) (Dy (Dt r ta tb)):=by
 intro pins s σ H Q I h
 refine wpAny_isTrue_Compare1 (bx (ha pins s σ H _ I h) fun v s1 ⟨x,H1,I1,r1,q1⟩=>bx (hb pins s1 σ H1 _ I1 q1) fun u s2 ⟨y,H2,I2,r2,q2⟩ =>
  bx (ho pins s2 σ H2 x y v u _ I2 r1 r2 q2) fun c s3 ⟨z,H3,I3,r3,k,e,q3⟩=> ?_) hm
 subst e
 cases r3
 exact wpAny_truthy_bool ⟨H3,I3,q3⟩
def uh(r r':R2)(ta tb tc:TE):TE:=fun σ H Q=>ta σ H fun x H1=>tb σ H1 fun y H2=>r x y H2 fun z H3=>∃k,z= .bl k /\
 (if k=true then tc σ H3 fun w' H4=>r' y w' H4 Q else Q (.bl false) H3)
theorem ui{op op':CmpOp}{r r':R2}(ho:fQ X (compareOp op) r)(ho':fQ X (compareOp op') r')(ha:PE X a ta)(hb:PE X b tb)(hc:PE X c tc)
  (hm:lastMarks [op,op'] [b,c]=false:=by with_unfolding_all rfl):PE X (.Compare a [op,op'] [b,c] pos) (uh r r' ta tb tc):=by
 intro pins s σ H Q I h
 refine Compare_chain (bx (ha pins s σ H _ I h) fun v s1 ⟨x,H1,I1,r1,q1⟩=>chain_link (bx (hb pins s1 σ H1 _ I1 q1) fun u s2 ⟨y,H2,I2,r2,q2⟩ =>
  bx (ho pins s2 σ H2 x y v u _ I2 r1 r2 q2) fun d s3 ⟨z,H3,I3,r3,k,e,q3⟩=> ?_)) hm
 subst e
 cases r3
 refine wpAny_truthy_bool ?_
 cases k with
 |false=>exact ite_ff ⟨.bl false,H3,I3,rfl,q3⟩
 |true=>exact ite_tt (chain_last (bx (hc pins s3 σ H3 _ I3 q3) fun w' s4 ⟨z',H4,I4,r4,q4⟩=>ho' pins s4 σ H4 y z' u w' Q I4 r2 r4 q4))
theorem lZ:(sizeLine:Nat)<2 ^ 63:=by rw[sizeLine_eq];decide
theorem oV:fQ X (binaryOp .Add) (fun x y H Q=>∃i j,x= .str i/\y= .str j/\i.length+j.length<=sizeLine/\Q (.str (i++j)) H):=by
 intro pins s σ H x y v u Q I rx ry h
 obtain⟨i,j,rfl,rfl,hz,q⟩:=h
 obtain⟨t,rfl⟩:=rx
 obtain⟨t',rfl⟩:=ry
 exact add_str (fun t' tk=>⟨.str (i++j),H,I.tok _,⟨_,rfl⟩,q⟩) hz
theorem nJ{x:V}{us:List Value}(r:aR [x] us):∃u,us=[u]/\aQ x u:=by
 cases r with
 |cons r1 r2=>cases r2;exact⟨_,rfl,r1⟩
theorem zo{x y:V}{us:List Value}(r:aR [x,y] us):∃u w',us=[u,w']/\aQ x u/\aQ y w':=by
 cases r with
 |cons r1 r2 =>
  cases r2 with
  |cons r3 r4=>cases r4;exact⟨_,_,rfl,r1,r3⟩
theorem rF(hc:X.calm=true):hX X (.builtin "max") (fun xs H Q=>∃i j,xs=[.int i,.int j]/\Q (.int (if j>i then j else i)) H):=by
 intro pins s σ H xs us Q I r h
 obtain⟨i,j,rfl,q⟩:=h
 obtain⟨u,w',rfl,⟨t,rfl⟩,⟨t',rfl⟩⟩:=zo r
 refine max_two_ints (I.ok.hd hc) fun h' tk k=>⟨_,H,I.kept k,?_,q⟩
 by_cases hj:j>i
 ·rw[if_pos hj,if_pos hj];exact⟨_,rfl⟩
 ·rw[if_neg hj,if_neg hj];exact⟨_,rfl⟩
def Dz(K:Fg)(x:V)(H:Hp)(n:Nat):Prop :=
 match x with
 |.str y=>y.length<=sizeLine/\n=y.length
 |.byt y=>y.size<=sizeLine/\n=y.size
 |.ref p=>(∃xs,eE K H p xs/\n=xs.length)\/ ∃xs,gE K H p xs/\n=xs.length
 |_=>False
theorem call_len:hX X (.builtin "len") (fun xs H Q=>∃x n,xs=[x]/\Dz X.K x H n/\Q (.int n) H):=by
 intro pins s σ H xs us Q I r h
 obtain⟨x,n,rfl,e,q⟩:=h
 obtain⟨u,rfl,rx⟩:=nJ r
 have hl:=lZ
 have hs:sizeLine=16777216:=sizeLine_eq
 cases x with
 |str y =>
  obtain⟨t,rfl⟩:=rx
  obtain⟨hy,e'⟩:y.length<=sizeLine/\n=y.length:=e
  subst e'
  exact len_str (by omega) ⟨.int _,H,I.tok _,⟨_,rfl⟩,q⟩
 |byt y =>
  obtain⟨t,rfl⟩:=rx
  obtain⟨hy,e'⟩:y.size<=sizeLine/\n=y.size:=e
  subst e'
  exact PySem.W.len_bytes (by omega) ⟨.int _,H,I.tok _,⟨_,rfl⟩,q⟩
 |ref p =>
  cases rx
  have e':(∃xs,eE X.K H p xs/\n=xs.length)\/ ∃xs,gE X.K H p xs/\n=xs.length:=e
  rcases e' with⟨xs,hx,e'⟩|⟨xs,hx,e'⟩
  ·subst e'
   obtain⟨its,r',pl,hz⟩:=I.list hx
   have hlen:=r'.length
   exact Calls.call_len_list pl.isList (by simp only[List.size_toArray];omega) ⟨.int xs.length,H,I.tok _,⟨_,by simp only[List.size_toArray];rw[hlen]⟩,q⟩
  ·subst e'
   obtain⟨its,r',pl,hz⟩:=I.tuple hx
   have hlen:=r'.length
   exact len_tuple pl (by simp only[List.size_toArray];omega) ⟨.int xs.length,H,I.tok _,⟨_,by simp only[List.size_toArray];rw[hlen]⟩,q⟩
 |_=>exact(show False from e).elim
end
end L2
namespace L2
open PySem PySem.Spec PyProof.Rows
structure oW(h:Heap)(x dx C:Addr)(mA:Str->Option Value):Prop where
 obj:h.get? x=some (PySem.W.instObj C dx)
 ns:h.Ns1 dx mA
 ne:dx≠x
theorem rG{h:Heap}{dx:Addr}{mA:Str->Option Value}(n:h.Ns1 dx mA):∃od,h.get? dx=some od/\ ∀name,PySem.W.lookIn name od=some (mA name):=by
 obtain⟨o,es,ep,ho,hd,hk,_,hm⟩:=n
 refine⟨o,ho,fun name=> ?_⟩
 have e:=hm name
 unfold nsFind findBy at e
 rw[<-Array.find?_toList]at e
 unfold PySem.W.lookIn
 rw[hd]
 dsimp only
 split
 ·rename_i y q
  rw[q]at e
  exact congrArg some e
 ·rename_i q
  rw[q]at e
  have a:es.toList.any (·.refKey)=false:=by
   rw[List.any_eq_false]
   intro y hy
   obtain⟨z,t,hkey⟩:=hk y (Array.mem_toList_iff.mp hy)
   simp[DictEntry.refKey,hkey]
  have a':¬es.toList.any (·.refKey)=true:=by rw[a];exact Bool.false_ne_true
  rw[if_neg a']
  exact congrArg some e
theorem oW.look{h:Heap}{x dx C:Addr}{mA:Str->Option Value}(I:oW h x dx C mA):∃od,PySem.W.InstAt h x (PySem.W.instObj C dx) C (some od)/\ ∀name,PySem.W.lookIn name od=some (mA name) :=
 let ⟨od,ho,hl⟩:=rG I.ns
 ⟨od,⟨I.obj,rfl,rfl,ho⟩,hl⟩
noncomputable section
variable{prog:Program}{w:World}{A:Around}{E:Value->Shared->Prop}{s:Shared}{K:Fg}{x dx C f:Addr}{mA:Str->Option Value}{name:Str}{v:Value}
theorem xN{expr:Bool}{Q:Value->Shared->Prop}(X:K.In s.heap)(I:oW s.heap x dx C mA)(hg:PySem.W.plainGet K C name=true)(hh:PySem.W.hasDictIn K C=true)
  (ha:PySem.W.findIn K (.ref C) name=some none) (hv:mA name=some v) (hv':PySem.W.handedIn v=true) (h:Q v { s with toks:=s.toks+1 }) :
  wpAny (model prog w) A (getAttr (.ref x) name expr) Q E s:=by
 obtain⟨od,J,hl⟩:=I.look
 exact PySem.W.get_value X J (PySem.W.plainGet_of hg).1 (PySem.W.findObj_own hh ha rfl (by rw[hl,hv])) hv' h
theorem uj{pl:Sem Bool}{Q:Value×List Value->Shared->Prop}(X:K.In s.heap)(I:oW s.heap x dx C mA)(hg:PySem.W.plainGet K C name=true)
  (hf:PySem.W.findIn K (.ref C) name=some (some (.ref f))) (ht:PySem.W.isFn K (.ref f)=true) (hv:mA name=none) (h:Q (.ref f,[.ref x]) s) :
  wpAny (model prog w) A (getMethod (.ref x) name pl) Q E s:=by
 obtain⟨od,J,hl⟩:=I.look
 exact PySem.W.method_fn X J (PySem.W.plainGet_of hg).1 (PySem.W.plainGet_of hg).2 hf (beq_iff_eq.mp ht) (by show(PySem.W.lookIn name od).map (·.isSome)=some false;rw[hl,hv];rfl) h
theorem xO{ns:List Str}{Q:Unit->Shared->Prop}(X:K.In s.heap)(I:oW s.heap x dx C mA)
  (hs:PySem.W.findIn K (.ref C) "__setattr__"=some (some (.builtin "object.__setattr__"))) (hp:PySem.W.plainOver K C=true) (ht:PySem.W.takerIn K C name=some none) (hh:PySem.W.hasDictIn K C=true)
  (hw:PySem.Within mA ns) (hsz:ns.length<=sizeLine)
  (h:∀h',oW h' x dx C (fun y=>if y=name then some v else mA y)->Heap.SameBut dx s.heap h'->Q () { s with heap:=h',toks:=s.toks+2 }) :
  wpAny (model prog w) A (setAttr (.ref x) name v) Q E s:=by
 obtain⟨od,J,hl⟩:=I.look
 refine PySem.W.set_plain X J hs (PySem.W.osa_open (s:={ s with toks:=s.toks+1 }) (r:=none) X J hp ht fun b=> ?_)
 obtain⟨cd,hc,hd'⟩:=PySem.W.any_some hh
 have hx:s.heap.get? x=some ⟨.ref C,some dx,.plain, #[]⟩:=I.obj
 refine wpAny_bind (wpAny_pure (wpAny_bind (wpAny_bind (wpAny_loadPart hx (wpAny_bind (PySem.W.Looks.here (s:={ s with toks:=s.toks+1 }) (PySem.W.looks_clsIn X hc) ?_))))))
 rw[hd']
 refine wpAny_pure (a:=some dx) (wpAny_bind (wpAny_pure (wpAny_bind ?_)))
 refine wpAny_nsSet1 (s:={ s with toks:=s.toks+1 }) I.ns fun h' hn2 hs2=> ?_
 obtain⟨oD,esD,epD,hoD,hdD,hcD⟩:=hn2.count (PySem.Within.cons name v hw)
 refine wpAny_bind (wpAny_lookBehind hoD (by rw[hdD];exact pastItsLine_dict (Nat.le_trans hcD (by rw[List.length_cons];omega))) ?_)
 exact wpAny_pure (h _ ⟨(hs2.2 _ (Ne.symm I.ne)).trans I.obj,hn2,I.ne⟩ hs2)
theorem uk{R:Result->Shared->Prop}{vs:List Value}{kw:List (Str×Value)}(X:K.In s.heap)(hm:PySem.W.makesIn K C=true)
  (hi:PySem.W.findIn K (.ref C) "__init__"=some (some (.ref f))) (hf:PySem.W.typeIn K (.ref f)=some (.type "function"))
  (h:codeAny (model prog w) (A.under (.builtin "type.__call__" ⟨.ref C::vs,kw⟩)) (.call (.ref f) ⟨.ref .(T)::vs,kw⟩) (PySem.W.InitBack .(T) R)
   { s with heap:=.(AH).push (PySem.W.instObj C s.heap.objs.size) }) :
  codeAny (model prog w) A (.call (.ref C) ⟨vs,kw⟩) R s:=by
 obtain⟨hh,g,d,t,os⟩:=s
 exact PySem.W.make_core (PySem.W.makes_of X hm) (PySem.W.looks_findIn X hi) (fun self=>PySem.W.bind_fn X self hf) (.inl rfl) h
theorem rH{R:Result->Shared->Prop}(X:K.In s.heap)(hm:PySem.W.makesIn K C=true)
  (hi:PySem.W.findIn K (.ref C) "__init__"=some (some (.builtin "object.__init__")))
  (hb:∀self,PySem.W.Looks (model prog w) s.heap (bindSpecial (.builtin "object.__init__") self) (.builtin "object.__init__",[self]))
  (h:codeAny (model prog w) (A.under (.builtin "type.__call__" ⟨[.ref C],[]⟩)) (.call (.builtin "object.__init__") ⟨[.ref .(T)],[]⟩) (PySem.W.InitBack .(T) R)
   { s with heap:=.(AH).push (PySem.W.instObj C s.heap.objs.size) }) :
  codeAny (model prog w) A (.call (.ref C) ⟨[],[]⟩) R s:=by
 obtain⟨hh,g,d,t,os⟩:=s
 exact PySem.W.make_core (PySem.W.makes_of X hm) (PySem.W.looks_findIn X hi) hb (.inr ⟨rfl,rfl⟩) h
end
noncomputable def ck(f:Str)(v:V):List (Str×V)->List (Str×V)
 |[]=>[(f,v)]
 | (g,x)::r=>if g=f then(g,v)::r else(g,x)::ck f v r
theorem j7(f g:Str)(v:V):∀fs:List (Str×V),(ck f v fs).lookup g=if g=f then some v else fs.lookup g
 |[]=>by
  show List.lookup g [(f,v)]=_
  by_cases h:g=f
  ·have hb:(g == f)=true:=beq_iff_eq.mpr h
   simp only[List.lookup,hb,if_pos h]
  ·have hb:(g == f)=false:=beq_eq_false_iff_ne.mpr h
   simp only[List.lookup,hb,if_neg h]
 | (k,x)::r=>by
  have ih:=j7 f g v r
  rw[show ck f v ((k,x)::r)=(if k=f then(k,v)::r else(k,x)::ck f v r) from rfl]
  by_cases hk:k=f
  ·rw[if_pos hk]
   by_cases h:g=k
   ·have hb:(g == k)=true:=beq_iff_eq.mpr h
    simp only[List.lookup,hb,if_pos (h.trans hk)]
   ·have hb:(g == k)=false:=beq_eq_false_iff_ne.mpr h
    simp only[List.lookup,hb,if_neg (fun e:g=f=>h (e.trans hk.symm))]
  ·rw[if_neg hk]
   by_cases h:g=k
   ·have hb:(g == k)=true:=beq_iff_eq.mpr h
    simp only[List.lookup,hb,if_neg (fun e:g=f=>hk (h.symm.trans e))]
   ·have hb:(g == k)=false:=beq_eq_false_iff_ne.mpr h
    simp only[List.lookup,hb]
    exact ih
theorem iN(f:Str)(v:V):∀fs:List (Str×V),f∈(ck f v fs).map (·.1)/\ ∀g,g∈fs.map (·.1)->g∈(ck f v fs).map (·.1)
 |[]=>⟨by simp[ck],fun g h=>by simp at h⟩
 | (k,x)::r=>by
  obtain⟨i1,i2⟩:=iN f v r
  rw[show ck f v ((k,x)::r)=(if k=f then(k,v)::r else(k,x)::ck f v r) from rfl]
  by_cases hk:k=f
  ·rw[if_pos hk]
   subst hk
   exact⟨by simp,fun g h=>by simpa using h⟩
  ·rw[if_neg hk]
   refine⟨?_,fun g h=> ?_⟩
   ·rw[List.map_cons]
    exact List.mem_cons_of_mem _ i1
   ·rw[List.map_cons]at h ⊢
    rcases List.mem_cons.mp h with e|e
    ·exact List.mem_cons.mpr (.inl e)
    ·exact List.mem_cons_of_mem _ (i2 g e)
theorem j8(f:Str)(v:V):∀fs:List (Str×V),(ck f v fs).length<=fs.length+1
 |[]=>by simp[ck]
 | (k,x)::r=>by
  have ih:=j8 f v r
  rw[show ck f v ((k,x)::r)=(if k=f then(k,v)::r else(k,x)::ck f v r) from rfl]
  by_cases hk:k=f
  ·rw[if_pos hk,List.length_cons,List.length_cons];omega
  ·rw[if_neg hk,List.length_cons,List.length_cons];omega
theorem fP.some_of{v:V}{o:Option Value}(r:fP (some v) o):∃u,o=some u/\aQ v u:=by
 cases o with
 |none=>exact(show False from r).elim
 |some u=>exact⟨u,rfl,r⟩
theorem fP.none_of{o:Option Value}(r:fP none o):o=none:=by
 cases o with
 |none=>rfl
 |some u=>exact(show False from r).elim
theorem rJ{v:V}{u:Value}(r:aQ v u):PySem.W.handedIn u=true:=by
 cases v with
 |non=>cases (show u=Value.none from r);rfl
 |bl b=>cases (show u=Value.bool b from r);rfl
 |int i=>obtain⟨t,e⟩:=(show ∃t,u=Value.int i t from r);cases e;rfl
 |str x=>obtain⟨t,e⟩:=(show ∃t,u=Value.str x t from r);cases e;rfl
 |byt b=>obtain⟨t,e⟩:=(show ∃t,u=Value.bytes b t from r);cases e;rfl
 |flt b=>obtain⟨t,e⟩:=(show ∃t,u=Value.float b t from r);cases e;rfl
 |ref a=>cases (show u=Value.ref a from r);rfl
 |ty n=>cases (show u=Value.type n from r);rfl
noncomputable section
variable{P:Program}{w:World}{H H':Hp}{h h':Heap}{a C dx:Addr}{fs fs':List (Str×V)}
theorem hZ(hok:gD P w H h)(e:H a=some (.ins C dx fs)):∃mA,oW h a dx C mA/\(∀f,fP (fs.lookup f) (mA f))/\PySem.Within mA (fs.map (·.1))/\fs.length<=1000/\H dx=some (.own a):=by
 obtain⟨d,z,ne,ob,mA,n,r,q⟩:=(show bE P w H h a (.ins C dx fs) from hok a _ e)
 exact⟨mA,⟨ob,n,ne⟩,r,q,z,d⟩
end
structure kO(K:Fg)(C:Addr):Prop where
 pg:PySem.W.plainGet K C Str.empty=true
 hd:PySem.W.hasDictIn K C=true
 po:PySem.W.plainOver K C=true
 sa:PySem.W.findIn K (.ref C) "__setattr__"=some (some (.builtin "object.__setattr__"))
theorem kO.get{K:Fg}{C:Addr}(c:kO K C)(f:Str):PySem.W.plainGet K C f=true:=c.pg
def bj(K:Fg)(C:Addr)(f:Str):Prop:=PySem.W.findIn K (.ref C) f=some none
theorem bj.taker{K:Fg}{C:Addr}{f:Str}(n:bj K C f):PySem.W.takerIn K C f=some none:=by
 unfold PySem.W.takerIn
 rw[show PySem.W.findIn K (.ref C) f=some none from n]
 rfl
structure cO(K:Fg)(C:Addr)(m:Str)(f:Addr):Prop where
 at_:PySem.W.findIn K (.ref C) m=some (some (.ref f))
 fn:PySem.W.isFn K (.ref f)=true
 kp:PySem.W.keepIn K (.ref f)=true
noncomputable section
variable{X:Cx}{pins:List (Addr×Obj)}{σ :St}{H:Hp}{s:Shared}{a C dx:Addr}{fs:List (Str×V)}{f:Str}{v:V}{A:Around}{E:Value->Shared->Prop}
theorem jD{b:Bool}{Q:Value->Shared->Prop}(I:aA X pins σ H s)(e:H a=some (.ins C dx fs))(c:kO X.K C)(n:bj X.K C f)(l:fs.lookup f=some v)
  (h:∀u s',aA X pins σ H s'->aQ v u->Q u s'):wpAny .(E) A (getAttr (.ref a) f b) Q E s:=by
 obtain⟨mA,O,r,_,_,_⟩:=hZ I.hok e
 obtain⟨u,hu,ru⟩:=fP.some_of (v:=v) (o:=mA f) (by rw[<-l];exact r f)
 exact xN I.kIn O (c.get f) c.hd n hu (rJ ru) (h u _ (I.tok _) ru)
theorem jE{m:Str}{g:Addr}{pl:Sem Bool}{Q:Value×List Value->Shared->Prop}(I:aA X pins σ H s)(e:H a=some (.ins C dx fs))(c:kO X.K C)(k:cO X.K C m g)(l:fs.lookup m=none)
  (h:Q (.ref g,[.ref a]) s):wpAny .(E) A (getMethod (.ref a) m pl) Q E s:=by
 obtain⟨mA,O,r,_,_,_⟩:=hZ I.hok e
 have hn:mA m=none:=fP.none_of (by rw[<-l];exact r m)
 exact uj I.kIn O (c.get m) k.at_ k.fn hn h
theorem oX{y:V}{u:Value}{Q:Unit->Shared->Prop}(I:aA X pins σ H s)(e:H a=some (.ins C dx fs))(c:kO X.K C)(n:bj X.K C f)(hl:fs.length<1000)(ry:aQ y u)
  (h:∀s',aA X pins σ (upd H a (.ins C dx (ck f y fs))) s'->Q () s'):wpAny .(E) A (setAttr (.ref a) f u) Q E s:=by
 obtain⟨mA,O,r,wi,_,ho⟩:=hZ I.hok e
 have hz:(fs.map (·.1)).length<=sizeLine:=by rw[List.length_map,sizeLine_eq];omega
 refine xO I.kIn O c.sa c.po n.taker c.hd wi hz fun h' O' sb=>h _ ?_
 have hd:∃o,h'.get? dx=some o:=let ⟨o,_,_,e',_⟩:=O'.ns;⟨o,e'⟩
 refine I.write (x:=a) (e:=dx) (by rw[e];exact True.intro) (.inr ho) (fun b q hb z=>(sb.2 b hb).trans z) hd ?_
 refine⟨by rw[aq O.ne];exact ho,?_,O.ne,O'.obj,_,O'.ns,fun g=> ?_,fun g hg=> ?_⟩
 ·have:=j8 f y fs;omega
 ·show fP ((ck f y fs).lookup g) (if g=f then some u else mA g)
  rw[j7]
  by_cases q:g=f
  ·rw[if_pos q,if_pos q];exact ry
  ·rw[if_neg q,if_neg q];exact r g
 ·by_cases q:g=f
  ·rw[q];exact(iN f y fs).1
  ·refine(iN f y fs).2 g (wi g fun z=>hg ?_)
   show(if g=f then some u else mA g)=none
   rw[if_neg q];exact z
theorem aA.made(I:aA X pins σ H s):aA X pins σ (upd (upd H s.heap.objs.size (.own .(T))) .(T) (.ins C s.heap.objs.size []))
  { s with heap:=.(AH).push (PySem.W.instObj C s.heap.objs.size) }:=by
 have e1:.(AH).get? s.heap.objs.size=some PySem.W.emptyDict:=Heap.get?_push_size s.heap rfl
 have e2:(.(AH).push (PySem.W.instObj C s.heap.objs.size)).get? .(T)=some (PySem.W.instObj C s.heap.objs.size):=by
  have:=Heap.get?_push_size .(AH) (o:=PySem.W.instObj C s.heap.objs.size) rfl
  rwa [Heap.size_push]at this
 have e3:.(AH).Ns s.heap.objs.size (fun _=>none):=⟨PySem.W.emptyDict, #[],_,e1,rfl,(fun e he=>absurd he (by simp)),fun _=>rfl⟩
 have I1:=I.laid (a:=s.heap.objs.size) (o:= .own .(T)) (h':=s.heap.push PySem.W.emptyDict) (t':=s.toks) (fun b u q=>Heap.get?_push_of_some _ q) .(Ac) ⟨_,e1⟩
 refine I1.laid (a:=s.heap.objs.size+1) (o:= .ins C s.heap.objs.size []) (t':=s.toks) (fun b u q=>Heap.get?_push_of_some _ q) (Nat.le_of_eq (Heap.size_push _ _)) ?_
 have ne:s.heap.objs.size≠s.heap.objs.size+1:=Nat.ne_of_lt (Nat.lt_succ_self _)
 refine⟨by rw[aq ne,au],Nat.zero_le _,ne,e2,fun _=>none,(Heap.Ns1.of_empty e3).at fun o q=>Heap.get?_push_of_some _ q,fun _=>True.intro,fun y hy=>absurd rfl hy⟩
theorem xP{prog:Program}{w:World}{env:Env}{e:Expr}{f:Str}{pos:Pos}{s:Shared}{Q:Value->Shared->Prop}(hb:attributeBase e f env (eval e env)=eval e env)
  (h:wpAny (model prog w) A (eval e env) (fun o s₁=>wpAny (model prog w) A (getAttr o f true) Q E s₁) E s):wpAny (model prog w) A (eval (.Attribute e f pos) env) Q E s :=
 Attribute_any_ h (by rw[arm_eval_Attribute,hb])
end
def DB(K:Fg)(ta:TE)(f:Str):TE:=fun σ H Q=>ta σ H fun x H1=>∃a C dx fs v,x= .ref a/\H1 a=some (.ins C dx fs)/\kO K C/\bj K C f/\fs.lookup f=some v/\Q v H1
def GW(K:Fg)(ta tv:TE)(f:Str):TS:=fun D σ H=>tv σ H fun y H1=>ta σ H1 fun x H2=>∃a C dx fs,x= .ref a/\H2 a=some (.ins C dx fs)/\kO K C/\bj K C f/\fs.length<1000 /\
 D.nx σ (upd H2 a (.ins C dx (ck f y fs)))
noncomputable section
variable{X:Cx}{o e value:Expr}{f:Str}{pos pos' tpos:Pos}{ta tv:TE}
theorem ul(he:PE X e ta)(hb:attributeBase e f X.env (eval e X.env)=eval e X.env):PE X (.Attribute e f pos) (DB X.K ta f):=by
 intro pins s σ H Q I h
 refine xP hb (bx (he pins s σ H _ I h) fun u s1 ⟨x,H1,I1,rx,a,C,dx,fs,v,ex,ea,c,n,l,q⟩=> ?_)
 subst ex
 obtain rfl:u=Value.ref a:=rx
 exact jD I1 ea c n l fun u' s2 I2 ru=>⟨v,H1,I2,ru,q⟩
theorem dL(ha:PE X o ta)(hv:PE X value tv)(hs:swapsWith value (some (.Attribute o f pos')) pos.line X.env=pure false):PS X (.Assign [.Attribute o f pos'] value pos) (GW X.K ta tv f):=by
 intro pins s σ H D I h
 refine plainObj_wpAny_Assign_Attribute (bx (hv pins s σ H _ I h) fun u s1 ⟨y,H1,I1,ry,q⟩=>bx (ha pins s1 σ H1 _ I1 q) fun ov s2 ⟨x,H2,I2,rx,a,C,dx,fs,ex,ea,c,n,l,q2⟩=> ?_) hs
 subst ex
 obtain rfl:ov=Value.ref a:=rx
 exact oX I2 ea c n l ry fun s3 I3=>⟨σ,_,I3,q2⟩
end
noncomputable section
variable{X:Cx}{pins:List (Addr×Obj)}{σ :St}{H:Hp}{s:Shared}{A:Around}{E:Value->Shared->Prop}{Q:Value->Shared->Prop}{c:Value}{b:Bool}
inductive i7 (K:Fg) (H:Hp):V->Value->Prop where
 |non:i7 K H .non (.type "NoneType")
 |bl (x:Bool):i7 K H (.bl x) (.type "bool")
 |int (i:Int):i7 K H (.int i) (.type "int")
 |str (x:Str):i7 K H (.str x) (.type "str")
 |flt (x:UInt64):i7 K H (.flt x) (.type "float")
 |lst {a:Addr} {xs:List V} (e:H a=some (.lst xs)):i7 K H (.ref a) (.type "list")
 |frz {a:Addr} {o:Obj} {xs:List V} (e:H a=some (.frz o (.lst xs))):i7 K H (.ref a) (.type "list")
 |tup {a:Addr} {xs:List V} (e:H a=some (.tup xs)):i7 K H (.ref a) (.type "tuple")
 |dK {a:Addr} {kvs:List (Key×V)} (e:H a=some (.dK kvs)):i7 K H (.ref a) (.type "dict")
 |dT {a:Addr} {kvs:List (List Key×V)} (e:H a=some (.dT kvs)):i7 K H (.ref a) (.type "dict")
 |ins {a C dx:Addr} {fs:List (Str×V)} (e:H a=some (.ins C dx fs)) (cl:kO K C) (ha:PySem.W.findIn K (.ref C) "__class__"=some (some (.builtin "object.__class__")))
   (hn:PySem.W.specialIn K (.builtin "object.__class__") "__get__"=some (some (.builtin "getset_descriptor.__get__"))) (htk:PySem.W.takesIn K (.builtin "object.__class__")=some true)
   (hm:PySem.W.mroIn K C (.type "object")=some true):i7 K H (.ref a) (.ref C)
theorem dG{x:V}{u t:Value}(I:aA X pins σ H s)(rx:aQ x u)(ty:i7 X.K H x t)(e:PySem.W.kitOne X.K t c=some b)(h:∀tk,Q (.bool b) { s with toks:=tk }) :
  wpAny .(E) A (call (.builtin "isinstance") [u,c]) Q E s:=by
 cases ty with
 |non=>cases (show u=Value.none from rx);exact PySem.W.kia_one PySem.W.kitx_none I.kIn True.intro e (fun z=>nomatch z) h
 |bl y=>cases (show u=Value.bool y from rx);exact PySem.W.kia_one PySem.W.kitx_bool I.kIn True.intro e (fun z=>nomatch z) h
 |int i=>obtain⟨t,q⟩:=(show ∃t,u=Value.int i t from rx);cases q;exact PySem.W.kia_one PySem.W.kitx_int I.kIn True.intro e (fun z=>nomatch z) h
 |str y=>obtain⟨t,q⟩:=(show ∃t,u=Value.str y t from rx);cases q;exact PySem.W.kia_one PySem.W.kitx_str I.kIn True.intro e (fun z=>nomatch z) h
 |flt y=>obtain⟨t,q⟩:=(show ∃t,u=Value.float y t from rx);cases q;exact PySem.W.kia_one PySem.W.kitx_float I.kIn True.intro e (fun z=>nomatch z) h
 | @lst a xs ea =>
  cases (show u=Value.ref a from rx)
  obtain⟨_,_,n,_,h1⟩:=(show bE X.prog X.w H s.heap a (.lst xs) from I.hok a _ ea)
  exact PySem.W.kia_one PySem.W.kitx_list I.kIn ⟨_,h1,rfl⟩ e (fun z=>nomatch z) h
 | @frz a ob xs ea =>
  cases (show u=Value.ref a from rx)
  obtain⟨_,_,_,n,_,h1⟩:=(show bE X.prog X.w H s.heap a (.frz ob (.lst xs)) from I.hok a _ ea)
  exact PySem.W.kia_one PySem.W.kitx_list I.kIn ⟨_,h1,rfl⟩ e (fun z=>nomatch z) h
 | @tup a xs ea =>
  cases (show u=Value.ref a from rx)
  obtain⟨_,_,_,p⟩:=(show bE X.prog X.w H s.heap a (.tup xs) from I.hok a _ ea)
  obtain⟨o,h1,h2,_⟩:=p
  exact PySem.W.kia_one PySem.W.kitx_tuple I.kIn ⟨o,h1,h2⟩ e (fun z=>nomatch z) h
 | @dK a kvs ea =>
  cases (show u=Value.ref a from rx)
  obtain⟨_,_,vs,_,p⟩:=(show bE X.prog X.w H s.heap a (.dK kvs) from I.hok a _ ea)
  obtain⟨o,es,ep,h1,h2,_⟩:=p
  exact PySem.W.kia_one PySem.W.kitx_dict I.kIn ⟨o,h1,h2.1⟩ e (fun z=>nomatch z) h
 | @dT a kvs ea =>
  cases (show u=Value.ref a from rx)
  obtain⟨_,_,xs,_,o,es,ep,h1,h2,_⟩:=(show bE X.prog X.w H s.heap a (.dT kvs) from I.hok a _ ea)
  exact PySem.W.kia_one PySem.W.kitx_dict I.kIn ⟨o,h1,h2.1⟩ e (fun z=>nomatch z) h
 | @ins a C dx fs ea cl ha hn htk hm =>
  cases (show u=Value.ref a from rx)
  obtain⟨mA,O,_⟩:=hZ I.hok ea
  obtain⟨od,J,_⟩:=O.look
  exact PySem.W.kia_one (PySem.W.kitx_own (cl.get _) cl.hd ha hn htk hm) I.kIn J e (fun z=>nomatch z) h
end
end L2
namespace L2
open PySem PySem.Spec PyProof.Rows
structure br(k:Nat)(A:Around):Prop where
 hd:A.handled=none
 dp:A.depth+3*k+5<recursionLimit
 un:A.units+16*k+200<cLine
theorem br.mono{j k:Nat}{A:Around}(r:br k A)(h:j<=k):br j A:=⟨r.hd,by have:=r.dp;omega,by have:=r.un;omega⟩
theorem br.s{k:Nat}{A:Around}(h:br (k+1) A):br k A:=h.mono (Nat.le_succ _)
theorem br.deeper{k:Nat}{A:Around}(r:br (k+1) A)(env:Env):br k (A.deeper env) :=
 ⟨r.hd,by have:=r.dp;show A.depth+1+3*k+5<_;omega,by have:=r.un;show A.units+3+16*k+200<_;omega⟩
theorem oY{A:Around}{C:Addr}{us:List Value}{kw:List (Str×Value)}:(A.under (.builtin "type.__call__" ⟨.ref C::us,kw⟩)).depth=A.depth+1:=by
 first|rfl|simp[Around.under,Code.weight,Code.isCreation,Code.isGuard,Code.isCaller,Code.frames,Code.isFrame,guardIds]
theorem oZ{A:Around}{C:Addr}{us:List Value}{kw:List (Str×Value)}:(A.under (.builtin "type.__call__" ⟨.ref C::us,kw⟩)).units=A.units+1:=by
 first|rfl|simp[Around.under,Code.cUnits,Code.frames,Code.isFrame]
theorem br.make{k:Nat}{A:Around}(r:br (k+1) A)(C:Addr)(us:List Value)(kw:List (Str×Value)):br k (A.under (.builtin "type.__call__" ⟨.ref C::us,kw⟩)) :=
 ⟨r.hd,by have:=r.dp;rw[oY];omega,by have:=r.un;rw[oZ];omega⟩
theorem br.depth{k:Nat}{A:Around}(r:br k A):A.depth<recursionLimit:=by have:=r.dp;omega
theorem br.units{k:Nat}{A:Around}(r:br k A):A.units+64<cLine:=by have:=r.un;omega
def DC:TA:=fun _ H Q=>Q [] H
def DD(ta:TE)(tr:TA):TA:=fun σ H Q=>ta σ H fun x H1=>tr σ H1 fun xs H2=>Q (x::xs) H2
noncomputable section
variable{X:Cx}{e:Expr}{es:List Expr}{te:TE}{t:TA}{pos:Pos}
theorem fU:PA X [] DC:=fun _ _ _ _ H Q I h=>Calls.spliced_nil ⟨[],H,I,.nil,h⟩
theorem dg(ha:PE X e te)(hr:PA X es t)(hs:starEach (e::es) X.env=.(U)::starEach es X.env:=by rfl):PA X (e::es) (DD te t):=by
 intro pos pins s σ H Q I h
 rw[hs]
 show wpAny _ _ (spliced (.(U)::backTo pos (starEach es X.env))) _ _ s
 refine Calls.spliced_cons (bx (ha pins s σ H _ I h) fun u s1 ⟨x,H1,I1,r1,q1⟩=> ?_)
 exact bx (hr pos pins s1 σ H1 _ I1 q1) fun us s2 ⟨xs,H2,I2,r2,q2⟩=>⟨x::xs,H2,I2,.cons r1 r2,q2⟩
def GX(t:TA):TE:=fun σ H Q=>t σ H fun xs H1=>xs.length<=sizeLine/\ ∀p,H1 p=none->Q (.ref p) (upd H1 p (.tup xs))
def GY(t:TA):TE:=fun σ H Q=>t σ H fun xs H1=>xs.length<=sizeLine/\ ∀p,H1 p=none->Q (.ref p) (upd H1 p (.lst xs))
theorem um{x1}(h:PA X es t):PE X (.Tuple es x1 pos) (GX t):=by
 intro pins s σ H Q I hq
 refine wpAny_Tuple_spliced (bx (h pos pins s σ H _ I hq) fun us s1 ⟨xs,H1,I1,r,z,q⟩=>⟨by rw[<-r.length];exact z,?_⟩)
 have hf:H1 s1.heap.objs.size=none:=I1.hok.fresh .(Ac)
 refine⟨.ref s1.heap.objs.size,upd H1 s1.heap.objs.size (.tup xs),I1.laid (t':=s1.toks) (fun b u e=>Heap.get?_push_of_some _ e) .(Ac) ?_,rfl,q _ hf⟩
 exact⟨z,us,r,⟨_,Heap.get?_push_size _ rfl,rfl,_,rfl⟩⟩
theorem AA(h:PA X es t):PE X (.List es pos) (GY t):=by
 intro pins s σ H Q I hq
 refine wpAny_List_spliced (bx (h pos pins s σ H _ I hq) fun us s1 ⟨xs,H1,I1,r,z,q⟩=>⟨by rw[<-r.length];exact z,?_⟩)
 have hf:H1 s1.heap.objs.size=none:=I1.hok.fresh .(Ac)
 refine⟨.ref s1.heap.objs.size,upd H1 s1.heap.objs.size (.lst xs),I1.laid (t':=s1.toks) (fun b u e=>Heap.get?_push_of_some _ e) .(Ac) ?_,rfl,q _ hf⟩
 exact⟨z,us,0,r,Heap.get?_push_size _ rfl⟩
end
abbrev Sp:=List V->Hp->VK->XK->Prop
abbrev jF:=List Env->Hp->Shared->XK->Value->Shared->Prop
structure m4(P:Program)(w:World)(K:Fg)(mg:Str->Option Value)(base:Bs)(A:Around)(outer:List Env)(s:Shared)(H:Hp):Prop where
 frames:A.frames=some outer
 mod:Mod K mg base
 bs:∀b o,base.get? b=some o->s.heap.get? b=some o/\H b=none
 bsz:base.objs.size<=s.heap.objs.size
 funs:s.heap.FunFrames base outer
 frf:∀b∈frs outer,H b=none
 hok:gD P w H s.heap
 bare:AllBare s.gens
 tab:∀P∈base.tabs,H P=some (.tbl 0)
def CE(outer:List Env)(P:Program)(w:World)(H:Hp)(s:Shared)(Q:VK)(u:Value)(s':Shared):Prop :=
 ∃v H',s'.os=s.os/\AllBare s'.gens/\Un (frs outer) [] H H' s.heap s'.heap/\gD P w H' s'.heap/\aQ v u/\Q v H'
def CR(CX:jF)(outer:List Env)(P:Program)(w:World)(H:Hp)(s:Shared)(Q:VK)(E:XK)(r:Result)(s':Shared):Prop :=
 match r with
 |.ok (.ret u)=>CE outer P w H s Q u s'
 |.ok _=>False
 |.error e=>CX outer H s E e s'
structure cN(P:Program)(w:World)(K:Fg)(mg:Str->Option Value)(base:Bs)(CX:jF)(k:Nat)(f:Addr)(fd:FuncData)(ps:List Str)(sp:Sp):Prop where
 len:∀vs H Q E,sp vs H Q E->vs.length=ps.length
 run:∀(A:Around) (outer:List Env) (s:Shared) (H:Hp) (args:Args) (us:List Value) (vs:List V) (Q:VK) (E:XK),br k A->m4 P w K mg base A outer s H->BindsTo s fd args (ps.zip us)->aR vs us->sp vs H Q E ->
  codeAny (model P w) A (.call (.ref f) args) (CR CX outer P w H s Q E) s
theorem cN.imp{P:Program}{w:World}{K:Fg}{mg:Str->Option Value}{base:Bs}{CX:jF}{k:Nat}{f:Addr}{fd:FuncData}{ps:List Str}{sp sp':Sp}(F:cN P w K mg base CX k f fd ps sp)
  (h:∀vs H Q E,sp' vs H Q E->sp vs H Q E):cN P w K mg base CX k f fd ps sp' :=
 ⟨fun vs H Q E q=>F.len vs H Q E (h _ _ _ _ q),fun A outer s H args us vs Q E hr he hb hv hs=>F.run A outer s H args us vs Q E hr he hb hv (h _ _ _ _ hs)⟩
theorem m4.make{P:Program}{w:World}{K:Fg}{mg:Str->Option Value}{base:Bs}{A:Around}{outer:List Env}{s:Shared}{H:Hp}(e:m4 P w K mg base A outer s H)(C:Addr)(us:List Value)(kw:List (Str×Value)) :
  m4 P w K mg base (A.under (.builtin "type.__call__" ⟨.ref C::us,kw⟩)) outer s H:=⟨by first|exact e.frames|(simpa[Around.under,Code.envs,Code.isFrame,pushEnvs]using e.frames),e.mod,e.bs,e.bsz,e.funs,e.frf,e.hok,e.bare,e.tab⟩
noncomputable section
variable{X:Cx}{pins:List (Addr×Obj)}{σ :St}{H:Hp}{s s':Shared}
theorem aA.env0(I:aA X pins σ H s):m4 X.prog X.w X.K X.mg X.base X.A X.stack s H :=
 ⟨I.ok.frames,I.ok.mod,I.bs,Nat.le_trans I.ok.bsz I.sz,I.stack,I.stkFree,I.hok,I.bare,fun P z=>I.base.tbls P 0 (I.ok.tab P z)⟩
theorem aA.after{Q:VK}{u:Value}(I:aA X pins σ H s)(h:CE X.stack X.prog X.w H s Q u s'):EP X pins σ Q u s':=by
 obtain⟨v,H',os,bare,un,hok,r,q⟩:=h
 obtain⟨hh,g,d,t,os'⟩:=s'
 obtain rfl:os'=s.os:=os
 exact⟨v,H',I.call (h':=hh) (g':=g) (d':=d) (t':=t) (ch:=[]) un hok bare (fun b z=>absurd z (by simp)),r,q⟩
end
def DE(sp:Sp)(dvs:List V)(E:XK)(t:TA):TE:=fun σ H Q=>t σ H fun vs H1=>sp (vs++dvs) H1 Q E
def zp(C:Addr)(sp:Sp)(dvs:List V)(E:XK)(t:TA):TE:=fun σ H Q=>t σ H fun vs H1=>∀x dx,H1 x=none->H1 dx=none->dx≠x ->
 sp (.ref x::(vs++dvs)) (upd (upd H1 dx (.own x)) x (.ins C dx [])) (fun v H2=>v= .non/\Q (.ref x) H2) E
def bw(K:Fg)(fd:FuncData)(ps:List Str)(ds:List Value):Prop :=
 ∀(s:Shared) (us:List Value),K.In s.heap->(us++ds).length=ps.length->BindsTo s fd ⟨us,[]⟩ (ps.zip (us++ds))
theorem bw.all{K:Fg}{fd:FuncData}{ps:List Str}(h:∀us:List Value,us.length=ps.length->bindArgs fd ⟨us,[]⟩=pure (ps.zip us)):bw K fd ps []:=fun s us _ hl=>by
 rw[List.append_nil]at hl ⊢
 exact .of_eq (h us hl)
def eF(CX:jF)(X:Cx)(E:XK):Prop:=∀(pins:List (Addr×Obj)) (σ :St) (H:Hp) (s:Shared) (e:Value) (s':Shared),aA X pins σ H s->CX X.stack H s E e s'->X.xe e s'
noncomputable section
variable{X:Cx}{CX:jF}{k:Nat}{f C:Addr}{fd:FuncData}{ps:List Str}{sp:Sp}{dvs:List V}{ds:List Value}{E:XK}{x m:Str}{p pos apos:Pos}{e o:Expr}{es:List Expr}{ta:TE}{t:TA}
theorem p5{pins:List (Addr×Obj)}{σ :St}{H:Hp}{s:Shared}{Q:VK}{us:List Value}{vs:List V}(F:cN X.prog X.w X.K X.mg X.base CX k f fd ps sp)(hr:br k X.A)(hb:bw X.K fd ps ds)(hd:aR dvs ds)(hx:eF CX X E)
  (I:aA X pins σ H s) (r:aR vs us) (h:sp (vs++dvs) H Q E):wpAny .(E) X.A (call (.ref f) us) (EP X pins σ Q) X.xe s:=by
 have r2:aR (vs++dvs) (us++ds):=r.append hd
 have hl:(us++ds).length=ps.length:=by rw[<-r2.length];exact F.len _ _ _ _ h
 refine wpAny_call (codeAny_mono (F.run X.A X.stack s H ⟨us,[]⟩ (us++ds) (vs++dvs) Q E hr I.env0 (hb s us I.kIn hl) r2 h) fun r s' hq=> ?_)
 cases r with
 |error e=>exact hx pins σ H s e s' I hq
 |ok fl =>
  cases fl with
  |ret u=>exact I.after hq
  |next=>exact False.elim hq
  |brk=>exact False.elim hq
  |cont=>exact False.elim hq
theorem xQ(F:cN X.prog X.w X.K X.mg X.base CX k f fd ps sp)(hr:br k X.A)(hg:Gl X x)(hm:X.mg x=some (.ref f))(hk:PySem.W.keepIn X.K (.ref f)=true)(hb:bw X.K fd ps ds)(hd:aR dvs ds)(hx:eF CX X E)
  (ha:PA X (e::es) t) (hdb:(x == .(L))=false:=by decide) (he:starEach (e::es) X.env=.(U)::starEach es X.env:=by rfl) (hpl:.(W).any (·.1)=false:=by rfl) :
  PE X .(As) (DE sp dvs E t):=by
 intro pins s σ H Q I h
 refine wpAny_Call_Name_kw (hU I hg hm ?_ hdb)
 refine PySem.W.callWith_K (h₀:=X.base) I.ok.mod.kin hk (bx (ha pos pins s σ H _ I h) fun us s1 ⟨vs,H1,I1,r,q⟩=>⟨I1.kIn,?_⟩) he hpl
 exact p5 F hr hb hd hx I1 r q
structure Mk(K:Fg)(C f:Addr):Prop where
 makes:PySem.W.makesIn K C=true
 init:PySem.W.findIn K (.ref C) "__init__"=some (some (.ref f))
 fn:PySem.W.isFn K (.ref f)=true
 kp:PySem.W.keepIn K (.ref C)=true
theorem nK{pins:List (Addr×Obj)}{σ :St}{H:Hp}{s:Shared}{Q:VK}{us:List Value}{vs:List V}(M:Mk X.K C f)(F:cN X.prog X.w X.K X.mg X.base CX k f fd ps sp)(hr:br (k+1) X.A)(hb:bw X.K fd ps ds)(hd:aR dvs ds)
  (hx:eF CX X E) (I:aA X pins σ H s) (r:aR vs us)
  (h:∀x dx,H x=none->H dx=none->dx≠x->sp (.ref x::(vs++dvs)) (upd (upd H dx (.own x)) x (.ins C dx [])) (fun v H2=>v= .non/\Q (.ref x) H2) E) :
  wpAny .(E) X.A (call (.ref C) us) (EP X pins σ Q) X.xe s:=by
 have hq:=h .(T) s.heap.objs.size (I.hok.fresh (Nat.le_succ _)) (I.hok.fresh .(Ac)) (Nat.ne_of_lt (Nat.lt_succ_self _))
 have I2:=aA.made (C:=C) I
 have r2:aR (V.ref .(T)::(vs++dvs)) (Value.ref .(T)::(us++ds)):= .cons rfl (r.append hd)
 have hl:(Value.ref .(T)::us++ds).length=ps.length:=by
  have e:=r2.length
  rw[F.len _ _ _ _ hq]at e
  exact e.symm
 refine wpAny_call (uk (f:=f) I.kIn M.makes M.init (beq_iff_eq.mp M.fn) (codeAny_mono (F.run _ X.stack _ _ ⟨Value.ref .(T)::us,[]⟩ (Value.ref .(T)::(us++ds)) _ _ E (hr.make C us [])
  (I2.env0.make C us []) (hb _ (Value.ref .(T)::us) I2.kIn hl) r2 hq) fun r s' hq'=> ?_))
 cases r with
 |error e=>exact hx pins σ _ _ e s' I2 hq'
 |ok fl =>
  cases fl with
  |ret u =>
   obtain⟨v,H',I3,rv,ev,q3⟩:=I2.after hq'
   subst ev
   exact⟨rv,⟨V.ref .(T),H',I3,rfl,q3⟩⟩
  |next=>exact False.elim hq'
  |brk=>exact False.elim hq'
  |cont=>exact False.elim hq'
theorem xR(M:Mk X.K C f)(F:cN X.prog X.w X.K X.mg X.base CX k f fd ps sp)(hr:br (k+1) X.A)(hg:Gl X x)(hm:X.mg x=some (.ref C))(hb:bw X.K fd ps ds)(hd:aR dvs ds)(hx:eF CX X E)
  (ha:PA X (e::es) t) (hdb:(x == .(L))=false:=by decide) (he:starEach (e::es) X.env=.(U)::starEach es X.env:=by rfl) (hpl:.(W).any (·.1)=false:=by rfl) :
  PE X .(As) (zp C sp dvs E t):=by
 intro pins s σ H Q I h
 refine wpAny_Call_Name_kw (hU I hg hm ?_ hdb)
 refine PySem.W.callWith_K (h₀:=X.base) I.ok.mod.kin M.kp (bx (ha pos pins s σ H _ I h) fun us s1 ⟨vs,H1,I1,r,q⟩=>⟨I1.kIn,?_⟩) he hpl
 exact nK M F hr hb hd hx I1 r q
end
noncomputable section
variable{X:Cx}{CX:jF}{k:Nat}{f C:Addr}{fd:FuncData}{ps ks:List Str}{sp:Sp}{E:XK}{x m:Str}{p pos apos kpos:Pos}{e o:Expr}{es:List Expr}{kws:List Keyword}{te ta:TE}{t tk:TA}{nm:Option Str}
variable{g:List Value->List Value->List Value}{gV:List V->List V->List V}
end
structure am(N P:List Str)(sc:Scope):Prop where
 kind:sc.kind= .function
 co:sc.isCoroutine=false
 gen:sc.isGenerator=false
 nd:N.Nodup
 pre:N.take P.length=P
 par:∀x∈P,sc.names.lookup x=some .local\/sc.names.lookup x=some .cell
 nofree:∀y∈sc.names,y.2 ≠ .free
theorem am.q{N P:List Str}{sc:Scope}(a:sc.kind= .function:=by rfl)(b:sc.isCoroutine=false:=by rfl)(c:sc.isGenerator=false:=by rfl)(d:N.Nodup:=by decide +kernel)(e:N.take P.length=P:=by rfl)(g:∀x∈P,sc.names.lookup x=some .local\/sc.names.lookup x=some .cell:=by decide +kernel)(h:∀y∈sc.names,y.2 ≠ .free:=by decide +kernel):am N P sc:=⟨a,b,c,d,e,g,h⟩
theorem kP{kindOf:Str->Option NameKind}{x:Str}:∀{binds:List (Str×Value)} {m:Str->Option Value},(∀v,(x,v)∉binds)->bindL kindOf binds m x=m x
 |[],_,_=>rfl
 | (n,v)::r,m,h=>by
  unfold bindL
  rw[kP fun w hw=>h w (List.mem_cons_of_mem _ hw)]
  split
  ·have:x≠n:=by rintro rfl;exact h v List.mem_cons_self
   simp[this]
  ·rfl
theorem kQ{kindOf:Str->Option NameKind}{x:Str}:∀{binds:List (Str×Value)} {m:Str->Option Value},(∀v,(x,v)∉binds)->bindC kindOf binds m x=m x
 |[],_,_=>rfl
 | (n,v)::r,m,h=>by
  unfold bindC
  rw[kQ fun w hw=>h w (List.mem_cons_of_mem _ hw)]
  split
  ·rfl
  ·have:x≠n:=by rintro rfl;exact h v List.mem_cons_self
   simp[this]
theorem kR{kindOf:Str->Option NameKind}{x:Str}{v:Value}:∀{P:List Str} {vs:List Value} {i:Nat} {m:Str->Option Value},P.Nodup->P[i]? =some x->vs[i]? =some v->kindOf x=some .local ->
  bindL kindOf (P.zip vs) m x=some v
 |[],_,_,_,_,h,_,_=>by simp at h
 |_::_,[],_,_,_,_,h,_=>by simp at h
 |p::P,w::vs,0,m,nd,h1,h2,hk=>by
  simp at h1 h2;subst h1;subst h2
  show bindL kindOf ((p,w)::P.zip vs) m p=_
  unfold bindL
  rw[kP fun v hv=>(List.nodup_cons.mp nd).1 (List.of_mem_zip hv).1,if_pos hk]
  simp
 |p::P,w::vs,i+1,m,nd,h1,h2,hk=>by
  show bindL kindOf ((p,w)::P.zip vs) m x=_
  unfold bindL
  exact kR (i:=i) (List.nodup_cons.mp nd).2 (by simpa using h1) (by simpa using h2) hk
theorem kS{kindOf:Str->Option NameKind}{x:Str}{v:Value}:∀{P:List Str} {vs:List Value} {i:Nat} {m:Str->Option Value},P.Nodup->P[i]? =some x->vs[i]? =some v->kindOf x≠some .local ->
  bindC kindOf (P.zip vs) m x=some v
 |[],_,_,_,_,h,_,_=>by simp at h
 |_::_,[],_,_,_,_,h,_=>by simp at h
 |p::P,w::vs,0,m,nd,h1,h2,hk=>by
  simp at h1 h2;subst h1;subst h2
  show bindC kindOf ((p,w)::P.zip vs) m p=_
  unfold bindC
  rw[kQ fun v hv=>(List.nodup_cons.mp nd).1 (List.of_mem_zip hv).1,if_neg hk]
  simp
 |p::P,w::vs,i+1,m,nd,h1,h2,hk=>by
  show bindC kindOf ((p,w)::P.zip vs) m x=_
  unfold bindC
  exact kS (i:=i) (List.nodup_cons.mp nd).2 (by simpa using h1) (by simpa using h2) hk
noncomputable def start(N:List Str)(vs:List V):St:=vs.map some++List.replicate (N.length-vs.length) none
noncomputable def iO(CX:jF)(P:Program)(w:World)(K:Fg)(mg:Str->Option Value)(base:Bs)(N:List Str)(qual:Str)(scope:Scope)(f:Addr)(cd:Value)(A:Around)(outer:List Env)(s:Shared)(H:Hp)(E:XK):Cx where
 prog:=P
 w:=w
 K:=K
 mg:=mg
 base:=base
 A:=A.deeper (envOfC qual scope s.heap.objs.size f cd)
 N:=N
 s₀:=s
 H₀:=H
 env:=envOfC qual scope s.heap.objs.size f cd
 outer:=outer
 stack:=envOfC qual scope s.heap.objs.size f cd::outer
 ex:=[]
 calm:=true
 fn:=fun _=>true
 cw:=fun _=>true
 pn:=[]
 xe:=fun e s'=>wpAny (model P w) (A.deeper (envOfC qual scope s.heap.objs.size f cd)) (leaving (envOfC qual scope s.heap.objs.size f cd) e) (fun _ s''=>CX outer H s E e s'') (fun e' s''=>CX outer H s E e' s'') s'
theorem nL{sc:Scope}{n:Nat}{x:Str}(h:sc.names.lookup x=some .cell):∃c,(cellsFrom n sc.names []).lookup x=some c:=by
 have q:=PySem.W.cellsFrom_some sc.names n [] (.inl h)
 exact Option.isSome_iff_exists.mp q
theorem rK{CX:jF}{P:Program}{w:World}{K:Fg}{mg:Str->Option Value}{base:Bs}{N ps:List Str}{qual:Str}{scope:Scope}{f:Addr}{cd:Value}{A:Around}{outer:List Env}{s s1:Shared}{H:Hp}{E:XK}{us:List Value}{vs:List V}
  (S:am N ps scope) (hd:A.handled=none) (e0:m4 P w K mg base A outer s H) (hl:vs.length=ps.length) (r:aR vs us)
  (x:InCallC s s.heap.objs.size (bindL (envOfC qual scope s.heap.objs.size f cd).kindOf (ps.zip us) fun _=>none) (cellsFrom .(T) scope.names []) (bindC (envOfC qual scope s.heap.objs.size f cd).kindOf (ps.zip us) fun _=>none) s1) :
  aA (iO CX P w K mg base N qual scope f cd A outer s H E) [] (start N vs) H s1:=by
 have hpl:ps.length<=N.length:=by have:=congrArg List.length S.pre;rw[List.length_take]at this;omega
 obtain⟨h1,tk,rfl,hk⟩:=x.done
 have noA:∀b:Addr,b∉(iO CX P w K mg base N qual scope f cd A outer s H E).ex:=fun b z=>absurd (show b∈([]:List Addr) from z) (by simp)
 refine⟨⟨e0.mod,S.kind,rfl,rfl,Nat.le_refl _,fun y z c h1 h2=> ?_,fun y hy=> ?_,fun y c _ h=> ?_,fun _=>hd,Around.frames_deeper e0.frames,.inr ⟨rfl,rfl⟩,fun b z=>absurd z (noA b),e0.bs,e0.bsz,fun b _ _=>noA b,fun b z=>absurd z (noA b),e0.funs,e0.frf,e0.tab,fun _ z=>z⟩,
  rfl,e0.bare,Un.kept hk,⟨_,x.toInCall.ns,fun i y v h1 h2 h3=> ?_⟩,fun y c h=>⟨_,x.cell y c h⟩,e0.hok.fresh .(Ac),fun y c h=> ?_,fun p hp=>absurd (show p∈([]:List (Addr×Obj)) from hp) (by simp),e0.hok.kept hk,?_⟩
 ·exact name_of_addr x.apart (PySem.mem_of_lookup h1) (PySem.mem_of_lookup h2)
 ·have hy:scope.names.lookup y=some .cell\/scope.names.lookup y=some .free:=hy
  rcases hy with hy|hy
  ·exact nL hy
  ·exact absurd rfl (S.nofree _ (PySem.mem_of_lookup hy))
 ·exact Nat.le_of_lt (x.above y c (PySem.mem_of_lookup h))
 ·have hi:i<vs.length:=by
   unfold start at h2
   by_cases hi:i<vs.length
   ·exact hi
   ·rw[List.getElem?_append_right (by simpa using hi)]at h2
    rw[List.getElem?_replicate]at h2
    split at h2 <;> cases h2
  have ha:vs[i]? =some v:=by
   unfold start at h2
   rw[List.getElem?_append_left (by simpa using hi),List.getElem?_map]at h2
   cases e:vs[i]? with
   |none=>rw[e]at h2;cases h2
   |some a=>rw[e]at h2;cases h2;rfl
  obtain⟨u,hu,rv⟩:=r.get ha
  have hp:ps[i]? =some y:=by
   rw[<-S.pre,List.getElem?_take_of_lt (by omega)];exact h1
  have ndP:ps.Nodup:=by rw[<-S.pre];exact S.nd.sublist (List.take_sublist _ _)
  refine⟨u,rv,?_⟩
  rcases S.par y (List.mem_of_getElem? hp)with k|k
  ·exact .inl ⟨k,kR ndP hp hu k⟩
  ·obtain⟨c,e⟩:=nL (n:=s.heap.objs.size+1) k
   refine .inr ⟨.inl k,c,e,?_⟩
   have q:=x.cell y c e
   rw[kS ndP hp hu (by show scope.names.lookup y≠_;rw[k];decide)]at q
   exact q
 ·exact .inl (e0.hok.fresh (Nat.le_of_lt (x.above y c (PySem.mem_of_lookup h))))
 ·unfold start
  show _=N.length
  rw[List.length_append,List.length_map,List.length_replicate]
  omega
theorem zq{CX:jF}{P:Program}{w:World}{K:Fg}{mg:Str->Option Value}{base:Bs}{k:Nat}{f:Addr}{name qual:Str}{params:Arguments}{body:List Stmt}{scope:Scope}{dV kV doc pm cdv ct oc:Value}{an od:Option Addr}
  {osl:Array (Option Value)} {N ps:List Str} {sp:Sp} (lk:K.lookup f=some ⟨oc,od,.func (PySem.W.fnOf name qual params body scope dV kV doc pm an cdv ct),osl⟩) (hcd:PySem.W.codeIn K cdv qual=true) (S:am N ps scope)
  (len:∀vs H Q E,sp vs H Q E->vs.length=ps.length)
  (hbody:∀(A:Around) (outer:List Env) (s:Shared) (H:Hp) (vs:List V) (Q:VK) (E:XK),br k (A.deeper (envOfC qual scope s.heap.objs.size f cdv))->sp vs H Q E ->
   ∃t,nI (iO CX P w K mg base N qual scope f cdv A outer s H E) body t/\t { nx:=fun _ H'=>Q .non H',rt:=Q } (start N vs) H) :
  cN P w K mg base CX (k+1) f (PySem.W.fnOf name qual params body scope dV kV doc pm an cdv ct) ps sp:=by
 refine⟨len,fun A outer s H args us vs Q E hr e0 hb r hsp=> ?_⟩
 have hl:=len _ _ _ _ hsp
 have KX:K.In s.heap:=e0.mod.kin.keeps fun b o e=>(e0.bs b o e).1
 have lim:s.heap.NoLimit:=e0.mod.nolimit.keeps fun b o e=>(e0.bs b o e).1
 have hkind:∀y∈ps.zip us,scope.names.lookup y.1=some .local\/(scope.names.lookup y.1=some .cell/\((cellsFrom .(T) scope.names []).lookup y.1).isSome=true):=fun⟨n,v⟩ hy=>by
  rcases S.par n (List.of_mem_zip hy).1 with q|q
  ·exact .inl q
  ·exact .inr ⟨q,PySem.W.cellsFrom_some _ _ _ (.inl q)⟩
 refine codeAny_call_function hr.depth (KX _ _ lk) rfl S.co S.gen rfl (PySem.W.codeRec_of KX hcd) (hb _ _ _ _ ?_)
 refine wpAny_newFunctionEnv_cells S.kind hkind fun env he s1 x=> ?_
 subst he
 refine⟨lim.keeps x.toInCall.keep,codeAny_func ?_⟩
 obtain⟨t,ht,hq⟩:=hbody A outer s H vs Q E (hr.deeper _) hsp
 have I:aA (iO CX P w K mg base N qual scope f cdv A outer s H E) [] (start N vs) H s1:=rK S hr.hd e0 hl r x
 refine wpAny_mono (ht [] s1 (start N vs) H _ I hq) (fun fl s' hs=> ?_) fun e s' hs=>hs
 have fin:∀{σ':St} {H':Hp} {v:V} {u:Value},aA (iO CX P w K mg base N qual scope f cdv A outer s H E) [] σ' H' s'->aQ v u->Q v H'->CE outer P w H s Q u s' :=
  fun {σ' H' v u} J rv q=>⟨v,H',J.os,J.bare,J.base,J.hok,rv,q⟩
 cases fl with
 |ret u =>
  obtain⟨v,H',J,rv,q⟩:=hs
  exact⟨v,H',J.os,J.bare,J.base,J.hok,rv,q⟩
 |next =>
  obtain⟨σ',H',J,q⟩:=hs
  exact fin (v:=V.non) (u:=Value.none) J rfl q
 |brk =>
  obtain⟨_,_,_,q⟩:=hs
  exact False.elim q
 |cont =>
  obtain⟨_,_,_,q⟩:=hs
  exact False.elim q
end L2
namespace L2
open PySem PySem.Spec PyProof.Rows
noncomputable section
variable{X:Cx}{x:Str}{p pos:Pos}{e:Expr}{es:List Expr}{t:TA}{id T:String}{r:List V->Hp->VK->Prop}
def GZ(r:List V->Hp->VK->Prop)(t:TA):TE:=fun σ H Q=>t σ H fun vs H1=>r vs H1 Q
theorem nM(hc:hX X (.builtin id) r)(hg:Gl X x)(hm:X.mg x=none)(hv:bootBuiltins x=some (.builtin id))(ha:PA X (e::es) t)(hn:x ≠ "__name__":=by decide)(hdb:(x == .(L))=false:=by decide)
  (he:starEach (e::es) X.env=.(U)::starEach es X.env:=by rfl) (hpl:.(W).any (·.1)=false:=by rfl):PE X .(As) (GZ r t):=by
 intro pins s σ H Q I h
 refine wpAny_Call_Name_kw (jC I hg hm hv ?_ hn hdb)
 exact PyProof.Rows.callWith_builtin1 (bx (ha pos pins s σ H _ I h) fun us s1 ⟨vs,H1,I1,r1,q1⟩=>hc pins s1 σ H1 vs us Q I1 r1 q1) he hpl
theorem rL(hc:hX X (.type T) r)(hg:Gl X x)(hm:X.mg x=none)(hv:bootBuiltins x=some (.type T))(ha:PA X (e::es) t)(hn:x ≠ "__name__":=by decide)(hdb:(x == .(L))=false:=by decide)
  (he:starEach (e::es) X.env=.(U)::starEach es X.env:=by rfl) (hpl:.(W).any (·.1)=false:=by rfl):PE X .(As) (GZ r t):=by
 intro pins s σ H Q I h
 refine wpAny_Call_Name_kw (jC I hg hm hv ?_ hn hdb)
 exact PyProof.Rows.callWith_type1 (bx (ha pos pins s σ H _ I h) fun us s1 ⟨vs,H1,I1,r1,q1⟩=>hc pins s1 σ H1 vs us Q I1 r1 q1) he hpl
end
end L2
namespace HT
open PySem PyProof.Rows
noncomputable section
open PySem.SeqAt
open PySem.AutoSeq1 (wpAny_loadPart')
open PySem.MeetsSeq PySem.MeetsSeq2 PySem.MeetsSeq3
end
noncomputable section
variable{prog:Program}{w:World}{A:Around}{E:Value->Shared->Prop}{s:Shared}
def sIx(n d:Nat):Option Int->Nat
 |none=>d
 |some v=>if v<0 then(v+(n:Int)).toNat else min v.toNat n
end
end HT
namespace L2
open PySem PySem.Spec PyProof.Rows
abbrev TO:=St->Hp->(Option Int->Hp->Prop)->Prop
def PO(X:Cx)(e:Option Expr)(t:TO):Prop :=
 ∀(pins:List (Addr×Obj)) (s:Shared) (σ :St) (H:Hp) (Q:Option Int->Hp->Prop),aA X pins σ H s->t σ H Q ->
  wpAny .(E) X.A (evalPart e X.env) (fun u s'=>∃o H',aA X pins σ H' s'/\IsPart u o/\Q o H') X.xe s
def xS:TO:=fun _ H Q=>Q none H
def DF(t:TE):TO:=fun σ H Q=>t σ H fun x H1=>∃i,x= .int i/\Q (some i) H1
noncomputable section
variable{X:Cx}{e:Expr}{te:TE}{lo hi:Option Expr}{tl th:TO}{pos p2:Pos}
theorem xT:PO X none xS:=by
 intro pins s σ H Q I h
 rw[evalPart_none]
 exact wpAny_pure ⟨none,H,I,.none,h⟩
theorem xU(h:PE X e te):PO X (some e) (DF te):=by
 intro pins s σ H Q I hw
 rw[evalPart_some]
 refine bx (h pins s σ H _ I hw) fun u s1 ⟨x,H1,I1,r1,q1⟩=> ?_
 obtain⟨i,rfl,q⟩:=q1
 obtain⟨t,rfl⟩:=r1
 exact⟨some i,H1,I1,.int i t,q⟩
def Ha(X:Cx)(r:V->Option Int->Option Int->Hp->VK->Prop):Prop :=
 ∀(pins:List (Addr×Obj)) (s:Shared) (σ :St) (H:Hp) (x:V) (v vl vu:Value) (lo hi:Option Int) (sl:Addr) (Q:VK),aA X pins σ H s->aQ x v->s.heap.IsSliceOf sl vl vu .none->IsPart vl lo->IsPart vu hi->r x lo hi H Q ->
  ∃T id,typeLookup (.type T) "__getitem__"=pure (some (.builtin id))/\s.TypeIs v T/\wpAny .(E) X.A (getItem v (.ref sl)) (EP X pins σ Q) X.xe s
def Ky(r:V->Option Int->Option Int->Hp->VK->Prop)(te:TE)(tl th:TO):TE:=fun σ H Q=>te σ H fun x H1=>tl σ H1 fun l H2=>th σ H2 fun u H3=>r x l u H3 Q
theorem nN{r:V->Option Int->Option Int->Hp->VK->Prop}(hr:Ha X r)(he:PE X e te)(hl:PO X lo tl)(hu:PO X hi th):PE X (.Subscript e (.Slice lo hi none p2) pos) (Ky r te tl th):=by
 intro pins s σ H Q I h
 refine Subscript_ (bx (he pins s σ H _ I h) fun v s1 ⟨x,H1,I1,r1,q1⟩=> ?_)
 refine wpAny_Slice (bx (hl pins s1 σ H1 _ I1 q1) fun vl s2 ⟨l,H2,I2,pl,q2⟩=>bx (hu pins s2 σ H2 _ I2 q2) fun vu s3 ⟨u,H3,I3,pu,q3⟩=> ?_)
 rw[evalPart_none]
 refine wpAny_pure ?_
 have I4:aA X pins σ H3 { s3 with heap:=s3.heap.push { cls:= .type "slice",data:= .fields #[vl,vu,.none] } }:=I3.kept (t':=s3.toks) fun b ob q=>Heap.get?_push_of_some _ q
 obtain⟨T,id,hT,ht,hg⟩:=hr pins { s3 with heap:=s3.heap.push { cls:= .type "slice",data:= .fields #[vl,vu,.none] } } σ H3 x v vl vu l u s3.heap.objs.size Q I4 r1 (Heap.IsSliceOf.new ..) pl pu q3
 show wpAny .(E) X.A (subscriptTail e (.Slice lo hi none p2) v (.ref s3.heap.objs.size)) (EP X pins σ Q) X.xe { s3 with heap:=s3.heap.push { cls:= .type "slice",data:= .fields #[vl,vu,.none] } }
 exact tail_any (ops:=[.ref s3.heap.objs.size,v]) ht hT hg (by with_unfolding_all rfl)
noncomputable def rM(xs:List V)(lo hi:Option Int):List V:=(xs.drop (HT.sIx xs.length 0 lo)).take (HT.sIx xs.length xs.length hi-HT.sIx xs.length 0 lo)
theorem nO(xs:List V)(lo hi:Option Int):(rM xs lo hi).length<=xs.length:=by
 unfold rM
 rw[List.length_take,List.length_drop]
 omega
end
end L2
namespace L2
open PySem PySem.Spec PyProof.Rows
noncomputable def xu(n:Nat)(i:Int):Option Nat:=if 0<=i then(if i<n then some i.toNat else none) else if -(n:Int)<=i then some (i+n).toNat else none
noncomputable def gN{α :Type}(xs:List α)(i:Int):Option α :=(xu xs.length i).bind fun j=>xs[j]?
theorem xV{n:Nat}{i:Int}{j:Nat}(h:xu n i=some j):seqIndex? i n=some j/\j<n/\ -(n:Int)<=i/\i<n:=by
 unfold xu at h
 by_cases h0:0<=i
 ·rw[if_pos h0]at h
  by_cases h1:i<n
  ·rw[if_pos h1]at h
   have e:i.toNat=j:=Option.some.inj h
   exact⟨by rw[seqIndex_of h0 h1,e],by omega,by omega,h1⟩
  ·rw[if_neg h1]at h;cases h
 ·rw[if_neg h0]at h
  by_cases h1: -(n:Int)<=i
  ·rw[if_pos h1]at h
   have e:(i+n).toNat=j:=Option.some.inj h
   exact⟨by rw[seqIndex_neg (by omega) h1,e],by omega,h1,by omega⟩
  ·rw[if_neg h1]at h;cases h
theorem m5{α :Type}{xs:List α}{i:Int}{v: α}(h:gN xs i=some v):∃j,seqIndex? i xs.length=some j/\xs[j]? =some v/\j<xs.length/\ -(xs.length:Int)<=i/\i<xs.length:=by
 unfold gN at h
 cases e:xu xs.length i with
 |none=>rw[e]at h;cases h
 |some j =>
  rw[e]at h
  obtain⟨h1,h2,h3,h4⟩:=xV e
  exact⟨j,h1,h,h2,h3,h4⟩
theorem dE{α :Type}{xs:List α}{j:Nat}{v: α}(h:xs[j]? =some v):gN xs (j:Int)=some v:=by
 have hj:j<xs.length:=(List.getElem?_eq_some_iff.mp h).1
 have e:xu xs.length (j:Int)=some j:=by
  unfold xu
  rw[if_pos (by omega),if_pos (by omega)];simp
 unfold gN;rw[e];exact h
def m6(b:Expr):Prop:=∀o i,subscripted b false o i=operate [o,i] (getItem o i)
def xW(X:Cx)(r:R2):Prop :=
 ∀(value slice:Expr) (pins:List (Addr×Obj)) (s:Shared) (σ :St) (H:Hp) (x y:V) (v u:Value) (Q:VK),aA X pins σ H s->aQ x v->aQ y u->r x y H Q ->
  subscripted slice false v u=operate [v,u] (getItem v u)->wpAny .(E) X.A (subscriptTail value slice v u) (EP X pins σ Q) X.xe s
def G6(X:Cx)(id:String)(r:V->List V->Hp->VK->Prop):Prop :=
 ∀(pins:List (Addr×Obj)) (s:Shared) (σ :St) (H:Hp) (x:V) (xs:List V) (v:Value) (us:List Value) (Q:VK),aA X pins σ H s->aQ x v->aR xs us->r x xs H Q ->
  wpAny .(E) X.A (call (.builtin id) (v::us)) (EP X pins σ Q) X.xe s
noncomputable section
variable{X:Cx}{a b:Expr}{ta tb:TE}{pos:Pos}
theorem xW.or{r r':R2}(h:xW X r)(h':xW X r'):xW X (fun x y H Q=>r x y H Q\/r' x y H Q):=by
 intro value slice pins s σ H x y v u Q I rx ry q hs
 rcases q with q|q
 ·exact h value slice pins s σ H x y v u Q I rx ry q hs
 ·exact h' value slice pins s σ H x y v u Q I rx ry q hs
theorem DH{r:R2}(hr:xW X r)(ha:PE X a ta)(hb:PE X b tb)(hs:m6 b):PE X (.Subscript a b pos) (Dt r ta tb):=by
 intro pins s σ H Q I h
 exact Subscript_ (Am ha hb I h fun v u s2 x y H2 I2 rx ry q=>hr a b pins s2 σ H2 x y v u Q I2 rx ry q (hs _ _))
def DI(K:Fg):R2:=fun x y H Q=>∃p xs i v,x= .ref p/\y= .int i/\eE K H p xs/\gN xs i=some v/\Q v H
def DJ(K:Fg):R2:=fun x y H Q=>∃p xs i v,x= .ref p/\y= .int i/\gE K H p xs/\gN xs i=some v/\Q v H
def DK:R2:=fun x y H Q=>∃z i c,x= .str z/\y= .int i/\z.length<=sizeLine/\gN z.cps.toList i=some c/\Q (.str ⟨#[c]⟩) H
theorem xX:xW X (DI X.K):=by
 intro value slice pins s σ H x y v u Q I rx ry h hs
 obtain⟨p,xs,i,z,rfl,rfl,hq,he,q⟩:=h
 cases rx
 obtain⟨t,rfl⟩:=ry
 obtain⟨its,r,pl,hz⟩:=I.list hq
 obtain⟨j,h1,h2,h3,h4,h5⟩:=m5 he
 obtain⟨w,ew,rw'⟩:=r.get h2
 have hl:=r.length
 have hn:=lZ
 have fin:EP X pins σ Q w s:=⟨z,H,I,rw',q⟩
 by_cases h0:0<=i
 ·have hj:i.toNat=j:=by
   rw[seqIndex_of h0 h5]at h1
   exact Option.some.inj h1
  exact item_listR pl.isList h0 (by omega) (by rw[hj];simpa using ew) fin hs
 ·have hj:(i+(its.toArray.size:Int)).toNat=j:=by
   rw[seqIndex_neg (by omega) h4]at h1
   rw[List.size_toArray,<-hl]
   exact Option.some.inj h1
  exact subscriptTail_builtinR (x:=w) pl.isList.typeIs slot_list_getitem.lookup
   (wpAny_getItem_list_neg (Q:=fun r s'=>r=w/\EP X pins σ Q r s') pl.isList (by omega) (by rw[List.size_toArray] <;> omega) (by omega) (by rw[hj];simpa using ew) ⟨rfl,fin⟩) hs
theorem AB:xW X (DJ X.K):=by
 intro value slice pins s σ H x y v u Q I rx ry h hs
 obtain⟨p,xs,i,z,rfl,rfl,hq,he,q⟩:=h
 cases rx
 obtain⟨t,rfl⟩:=ry
 obtain⟨its,r,pl,hz⟩:=I.tuple hq
 obtain⟨j,h1,h2,h3,h4,h5⟩:=m5 he
 obtain⟨w,ew,rw'⟩:=r.get h2
 have hl:=r.length
 have hn:=lZ
 have fin:EP X pins σ Q w s:=⟨z,H,I,rw',q⟩
 exact subscriptTail_builtinR (x:=w) pl.typeIs slot_tuple_getitem.lookup
  (getItem_tuple (j:=j) (Q:=fun r s'=>r=w/\EP X pins σ Q r s') pl (by omega) (by omega) (by rw[List.size_toArray,<-hl];exact h1) (by simpa using ew) ⟨rfl,fin⟩) hs
theorem AC:xW X DK:=by
 intro value slice pins s σ H x y v u Q I rx ry h hs
 obtain⟨z,i,c,rfl,rfl,hz,he,q⟩:=h
 obtain⟨t,rfl⟩:=rx
 obtain⟨t',rfl⟩:=ry
 obtain⟨j,h1,h2,h3,h4,h5⟩:=m5 he
 have hl:z.cps.toList.length=z.length:=by simp[Str.length]
 rw[hl]at h1 h4 h5
 have hn:=lZ
 exact tail_any (typeIs_str s z t) slot_str_getitem.lookup (getItem_str (c:=c) (by
  have e1:decide (i < -(2 ^ 63:Int))=false:=decide_eq_false (by omega)
  have e2:decide (i ≥ 2 ^ 63)=false:=decide_eq_false (by omega)
  rw[e1,e2,Bool.or_false]) (by rw[h1];simpa using h2) ⟨.str ⟨#[c]⟩,H,I.tok _,⟨_,rfl⟩,q⟩) hs
def Hb(K:Fg):R2:=fun x y H Q=>DI K x y H Q\/DJ K x y H Q\/DK x y H Q
theorem AE:xW X (Hb X.K):=xX.or (AB.or AC)
theorem m7(lo hi:Option Int)(n:Nat):(sliceBounds lo hi none n).1=((HT.sIx n 0 lo:Nat):Int)/\(sliceBounds lo hi none n).2.1=((HT.sIx n n hi:Nat):Int)/\(sliceBounds lo hi none n).2.2=1:=by
 refine⟨?_,?_,rfl⟩
 ·cases lo with
  |none=>simp[sliceBounds,HT.sIx]
  |some i =>
   simp only[sliceBounds,HT.sIx,Option.getD_none,show(1:Int)>0 by decide,if_true]
   by_cases h:i<0
   ·simp only[h,if_true] <;> omega
   ·simp only[h,if_false] <;> omega
 ·cases hi with
  |none=>simp[sliceBounds,HT.sIx]
  |some i =>
   simp only[sliceBounds,HT.sIx,Option.getD_none,show(1:Int)>0 by decide,if_true]
   by_cases h:i<0
   ·simp only[h,if_true] <;> omega
   ·simp only[h,if_false] <;> omega
theorem kE(its:List Value)(lo hi:Option Int):slicePick its.toArray lo hi none=((its.drop (HT.sIx its.length 0 lo)).take (HT.sIx its.length its.length hi-HT.sIx its.length 0 lo)).toArray:=by
 obtain⟨h1,h2,h3⟩:=m7 lo hi its.toArray.size
 unfold slicePick
 rw[h1,h2,h3]
 simp only[sliceRange_one,pick_run,List.size_toArray] <;> rfl
def Hc(K:Fg):V->Option Int->Option Int->Hp->VK->Prop:=fun x lo hi H Q=>∃a xs,x= .ref a/\eE K H a xs/\ ∀p,H p=none->Q (.ref p) (upd H p (.lst (rM xs lo hi)))
theorem xY:Ha X (Hc X.K):=by
 intro pins s σ H x v vl vu lo hi sl Q I rx hs pl pu h
 obtain⟨a,xs,rfl,hx,q⟩:=h
 cases rx
 obtain⟨its,r,ht,hz⟩:=I.list hx
 have hlen:=r.length
 refine⟨"list",_,slot_list_getitem.lookup,ht.isList.typeIs,?_⟩
 refine wpAny_getItem_list_slice ht.isList hs pl pu .none (by simp) ?_ (by rw[List.size_toArray] <;> omega)
 rw[kE,<-hlen]
 refine⟨.ref s.heap.objs.size,_,I.laid (t':=s.toks) (o:= .lst (rM xs lo hi)) (fun b ob q=>Heap.get?_push_of_some _ q) .(Ac) ?_,rfl,q _ (I.hok.fresh .(Ac))⟩
 exact⟨Nat.le_trans (nO xs lo hi) hz,_,0,(r.drop (HT.sIx xs.length 0 lo)).take (HT.sIx xs.length xs.length hi-HT.sIx xs.length 0 lo),Heap.get?_push_size _ rfl⟩
def dY:V->Bool
 |.non=>true
 |.bl _=>true
 |.int _=>true
 |.str _=>true
 |_=>false
noncomputable def kT:V->V->Bool
 |.non,.non=>true
 |.bl a,.bl b=>a == b
 |.bl a,.int b=>(if a then 1 else 0) == b
 |.int a,.bl b=>a == (if b then 1 else 0)
 |.int a,.int b=>a == b
 |.str a,.str b=>a == b
 |_,_=>false
theorem AF{A:Around}{s:Shared}{y x:V}{u v:Value}(ry:aQ y u)(rx:aQ x v)(fy:dY y=true)(fx:dY x=true):SeqAt.EqAt A s u v (kT y x):=by
 cases y with
 |non =>
  cases ry
  cases x with
  |non=>cases rx;exact SeqAt.EqAt.same _
  |bl b=>cases rx;exact SeqAt.EqAt.none_bool b
  |int b=>obtain⟨t,rfl⟩:=rx;exact SeqAt.EqAt.none_int b t
  |str b=>obtain⟨t,rfl⟩:=rx;exact SeqAt.EqAt.none_str b t
  |_=>exact absurd (show false=true from fx) Bool.false_ne_true
 |bl a =>
  cases ry
  cases x with
  |non=>cases rx;exact SeqAt.EqAt.bool_none a
  |bl b=>cases rx;exact SeqAt.EqAt.bool_bool a b
  |int b=>obtain⟨t,rfl⟩:=rx;exact SeqAt.EqAt.bool_int a b t
  |str b=>obtain⟨t,rfl⟩:=rx;exact SeqAt.EqAt.bool_str a b t
  |_=>exact absurd (show false=true from fx) Bool.false_ne_true
 |int a =>
  obtain⟨t',rfl⟩:=ry
  cases x with
  |non=>cases rx;exact SeqAt.EqAt.int_none a t'
  |bl b=>cases rx;exact SeqAt.EqAt.int_bool a t' b
  |int b=>obtain⟨t,rfl⟩:=rx;exact SeqAt.EqAt.int_int a t' b t
  |str b=>obtain⟨t,rfl⟩:=rx;exact SeqAt.EqAt.int_str a t' b t
  |_=>exact absurd (show false=true from fx) Bool.false_ne_true
 |str a =>
  obtain⟨t',rfl⟩:=ry
  cases x with
  |non=>cases rx;exact SeqAt.EqAt.str_none a t'
  |bl b=>cases rx;exact SeqAt.EqAt.str_bool a t' b
  |int b=>obtain⟨t,rfl⟩:=rx;exact SeqAt.EqAt.str_int a t' b t
  |str b=>obtain⟨t,rfl⟩:=rx;exact SeqAt.EqAt.str_str a t' b t
  |_=>exact absurd (show false=true from fx) Bool.false_ne_true
 |_=>exact absurd (show false=true from fy) Bool.false_ne_true
noncomputable def ny(x:V)(u:Value):Bool:=match u with
 |.none=>kT .non x
 |.bool b=>kT (.bl b) x
 |.int i _=>kT (.int i) x
 |.str z _=>kT (.str z) x
 |_=>false
theorem m8{x y:V}{u:Value}(r:aQ y u)(f:dY y=true):ny x u=kT y x:=by
 cases y with
 |non=>cases r;rfl
 |bl b=>cases r;rfl
 |int i=>obtain⟨t,rfl⟩:=r;rfl
 |str z=>obtain⟨t,rfl⟩:=r;rfl
 |_=>exact absurd (show false=true from f) Bool.false_ne_true
theorem i8{x:V}:∀{xs:List V} {us:List Value},aR xs us->xs.all dY=true->us.any (ny x)=xs.any fun y=>kT y x
 |_,_,.nil,_=>rfl
 |y::xs,u::us,.cons r t,f=>by
  rw[List.all_cons,Bool.and_eq_true]at f
  rw[List.any_cons,List.any_cons,m8 r f.1,i8 t f.2]
theorem eQ{A:Around}{s:Shared}{x:V}{v:Value}(rx:aQ x v)(fx:dY x=true):∀{xs:List V} {us:List Value},aR xs us->xs.all dY=true->∀u∈us,SeqAt.EqAt A s u v (ny x u)
 |_,_,.nil,_=>fun u hu=>by cases hu
 |y::xs,u::us,.cons r t,f=>fun u' hu=>by
  rw[List.all_cons,Bool.and_eq_true]at f
  rcases List.mem_cons.mp hu with rfl|hu
  ·rw[m8 r f.1];exact AF r rx f.1 fx
  ·exact eQ rx fx t f.2 u' hu
def CG(x:V)(xs:List V):Bool:=xs.any fun y=>kT y x
def DL(K:Fg)(neg:Bool):R2:=fun x y H Q=>∃p xs,y= .ref p/\(eE K H p xs\/gE K H p xs)/\dY x=true/\xs.all dY=true/\Q (.bl (if neg then !CG x xs else CG x xs)) H
theorem rN:fQ X (compareOp .In) (DL X.K false):=by
 intro pins s σ H x y v u Q I rx ry h
 obtain⟨p,xs,rfl,hq,fx,fs,q⟩:=h
 cases ry
 rcases hq with hq|hq
 ·obtain⟨its,r,pl,hz⟩:=I.list hq
  refine SeqAt.in_listAt (ny x) pl.isList (fun w hw=>eQ rx fx r fs w (by simpa using hw)) ⟨.bl _,H,I,rfl,?_⟩
  rw[show its.toArray.any (ny x)=its.any (ny x)by simp,i8 r fs]
  exact q
 ·obtain⟨its,r,pl,hz⟩:=I.tuple hq
  refine SeqAt.in_tupleAt (ny x) pl (fun w hw=>eQ rx fx r fs w (by simpa using hw)) ⟨.bl _,H,I,rfl,?_⟩
  rw[show its.toArray.any (ny x)=its.any (ny x)by simp,i8 r fs]
  exact q
theorem i9:fQ X (compareOp .NotIn) (DL X.K true):=by
 intro pins s σ H x y v u Q I rx ry h
 obtain⟨p,xs,rfl,hq,fx,fs,q⟩:=h
 cases ry
 rcases hq with hq|hq
 ·obtain⟨its,r,pl,hz⟩:=I.list hq
  refine SeqAt.notIn_listAt (ny x) pl.isList (fun w hw=>eQ rx fx r fs w (by simpa using hw)) ⟨.bl _,H,I,rfl,?_⟩
  rw[show its.toArray.any (ny x)=its.any (ny x)by simp,i8 r fs]
  exact q
 ·obtain⟨its,r,pl,hz⟩:=I.tuple hq
  refine SeqAt.notIn_tupleAt (ny x) pl (fun w hw=>eQ rx fx r fs w (by simpa using hw)) ⟨.bl _,H,I,rfl,?_⟩
  rw[show its.toArray.any (ny x)=its.any (ny x)by simp,i8 r fs]
  exact q
theorem m9:hX X (.type "list") (fun xs H Q=>∃p ys,xs=[.ref p]/\(eE X.K H p ys\/gE X.K H p ys)/\ ∀l,H l=none->Q (.ref l) (upd H l (.lst ys))):=by
 intro pins s σ H xs us Q I r h
 obtain⟨p,ys,rfl,hq,q⟩:=h
 obtain⟨u,rfl,rx⟩:=nJ r
 cases rx
 have fin:∀(its:List Value),aR ys its->ys.length<=sizeLine->∀(h':Heap) (c':Nat),(∀b o',s.heap.get? b=some o'->h'.get? b=some o') ->
   h'.get? s.heap.objs.size=some { cls:= .type "list",dict:=none,data:= .seq its.toArray c',slots:= #[] }->EP X pins σ Q (.ref s.heap.objs.size) { s with heap:=h' }:=fun its r' hz h' c' kp e =>
  ⟨.ref s.heap.objs.size,_,I.laid (t':=s.toks) kp .(Ac) (show bE X.prog X.w _ h' _ (.lst ys) from⟨hz,its,c',r',e⟩),rfl,q _ (I.hok.fresh .(Ac))⟩
 rcases hq with hq|hq
 ·obtain⟨its,r',pl,hz⟩:=I.list hq
  have hlen:=r'.length
  obtain⟨o,ho,hc,n,hd⟩:=pl.isList
  exact call_list_seq p (.inl rfl) ho hc hd (fun h' c' kp e=>fin its r' hz h' c' kp e) (by simp only[List.size_toArray] <;> omega)
 ·obtain⟨its,r',pl,hz⟩:=I.tuple hq
  have hlen:=r'.length
  obtain⟨o,ho,hc,n,hd⟩:=pl
  exact call_list_seq p (.inr rfl) ho hc hd (fun h' c' kp e=>fin its r' hz h' c' kp e) (by simp only[List.size_toArray] <;> omega)
def G7(K:Fg)(T:String)(x:V)(H:Hp):Prop:=match x with
 |.str _=>T="str"
 |.int _=>T="int"
 |.ref p=>(T="list"/\ ∃xs,eE K H p xs)\/(T="tuple"/\ ∃o,K.lookup p=some o/\o.cls= .type "tuple"/\o.dict=none) \/
   (T="dict"/\((∃kvs,H p=some (.dK kvs))\/ ∃kvs,H p=some (.dT kvs)))\/(T="set"/\ ∃S n,H p=some (.set S n))
 |_=>False
theorem uo{pins:List (Addr×Obj)}{σ :St}{H:Hp}{s:Shared}{T:String}{x:V}{v:Value}(I:aA X pins σ H s)(r:aQ x v)(ty:G7 X.K T x H) :
  s.TypeIs v T/\ ∀a,v= .ref a->∃ob,s.heap.get? a=some ob/\ob.dict=none:=by
 cases x with
 |str z =>
  obtain⟨t,rfl⟩:=r
  cases (show T="str" from ty)
  exact⟨typeIs_str s z t,fun _ e=>nomatch e⟩
 |int i =>
  obtain⟨t,rfl⟩:=r
  cases (show T="int" from ty)
  exact⟨typeIs_int s i t,fun _ e=>nomatch e⟩
 |ref p =>
  cases r
  rcases ty with⟨rfl,xs,hq⟩|⟨rfl,o,hk,hc,hd⟩|⟨rfl,hk⟩|⟨rfl,S,n,hk⟩
  ·obtain⟨its,_,pl,_⟩:=I.list hq
   refine⟨pl.isList.typeIs,fun a e=> ?_⟩
   cases e
   obtain⟨o,n,e,c,hd,_⟩:=pl
   exact⟨o,e,hd⟩
  ·refine⟨⟨o,I.kIn p o hk,hc⟩,fun a e=> ?_⟩
   cases e
   exact⟨o,I.kIn _ o hk,hd⟩
  ·have z:∃o,s.heap.get? p=some o/\o.ExactDict:=by
    rcases hk with⟨kvs,hk⟩|⟨kvs,hk⟩
    ·obtain⟨_,_,_,_,o,_,_,e,ex,_⟩:=I.hok p _ hk
     exact⟨o,e,ex⟩
    ·obtain⟨_,_,_,_,o,_,_,e,ex,_⟩:=I.hok p _ hk
     exact⟨o,e,ex⟩
   obtain⟨o,e,ex⟩:=z
   refine⟨⟨o,e,ex.1⟩,fun a e2=> ?_⟩
   cases e2
   exact⟨o,e,ex.2.1⟩
  ·obtain⟨o,_,_,_,e,ex,_⟩:=I.hok p _ hk
   refine⟨⟨o,e,ex.1⟩,fun a e2=> ?_⟩
   cases e2
   exact⟨o,e,ex.2.1⟩
 |_=>exact False.elim ty
def Hd(K:Fg)(T:String)(r:V->List V->Hp->VK->Prop)(to:TE):TE:=fun σ H Q=>to σ H fun x H1=>G7 K T x H1/\r x [] H1 Q
def Kz(K:Fg)(T:String)(r:V->List V->Hp->VK->Prop)(to:TE)(t:TA):TE:=fun σ H Q=>to σ H fun x H1=>G7 K T x H1/\t σ H1 fun xs H2=>r x xs H2 Q
variable{o e:Expr}{es:List Expr}{to:TE}{t:TA}{name:Str}{apos cpos:Pos}{T id:String}{r:V->List V->Hp->VK->Prop}
theorem p6(pa:PlainAttrs T)(slot:Slot T name id)(hty:typeOf (.builtin id)=pure (.type "method_descriptor"))(hm:G6 X id r)(ho:PE X o to)
  (hbase:attributeBase o name X.env (eval o X.env)=eval o X.env:=by rfl) (hline:(apos.endLine == cpos.line)=true:=by rfl):PE X (.Call (.Attribute o name apos) [] [] cpos) (Hd X.K T r to):=by
 intro pins s σ H Q I h
 refine wpAny_Call_method0_late hbase hline (bx (ho pins s σ H _ I h) fun v s1 ⟨x,H1,I1,r1,ty,q1⟩=> ?_)
 obtain⟨h1,h2⟩:=uo I1 r1 ty
 exact⟨T,id,pa,slot,hty,h1,h2,Calls.callWith_builtin rfl (PySem.evalArgs_none (hm pins s1 σ H1 x [] v [] Q I1 r1 .nil q1))⟩
theorem qf(pa:PlainAttrs T)(slot:Slot T name id)(hty:typeOf (.builtin id)=pure (.type "method_descriptor"))(hm:G6 X id r)(ho:PE X o to)(ha:PA X (e::es) t)
  (hbase:attributeBase o name X.env (eval o X.env)=eval o X.env:=by rfl)
  (hfew:((backTo cpos (starEach (e::es) X.env)).all (fun x=> !x.1) && (backToKw cpos (keywordEach [] X.env)).all (fun x=>x.1.isSome)
   && decide ((e::es).length+([]:List Keyword).length+(if ([]:List Keyword).isEmpty then 0 else 1)<30))=true:=by rfl)
  (hline:(apos.endLine == cpos.line)=true:=by rfl) (hs:starEach (e::es) X.env=.(U)::starEach es X.env:=by rfl) (hplain:(backTo cpos (starEach es X.env)).any (·.1)=false:=by rfl) :
  PE X (.Call (.Attribute o name apos) (e::es) [] cpos) (Kz X.K T r to t):=by
 intro pins s σ H Q I h
 refine wpAny_Call_method_late hbase hfew hline rfl (bx (ho pins s σ H _ I h) fun v s1 ⟨x,H1,I1,r1,ty,q1⟩=> ?_)
 obtain⟨h1,h2⟩:=uo I1 r1 ty
 refine⟨T,id,pa,slot,hty,h1,h2,?_⟩
 have hA:=ha cpos pins s1 σ H1 _ I1 q1
 rw[hs]at hA ⊢
 refine Calls.callWith_builtin (by show(false || (backTo cpos (starEach es X.env)).any (·.1))=false;rw[hplain] <;> rfl) (Calls.evalArgs_plain ?_)
 exact bx hA fun us s2 ⟨vs,H2,I2,r2,q2⟩=>hm pins s2 σ H2 x vs v us Q I2 r1 r2 q2
end
end L2
namespace L2
open PySem PySem.Spec PyProof.Rows
def DO(X:Cx)(id:String)(r:V->List V->Hp->VK->Prop):Prop :=
 ∀(pins:List (Addr×Obj)) (s:Shared) (σ :St) (H:Hp) (x:V) (xs:List V) (v:Value) (us:List Value) (Q:VK),aA X pins σ H s->aQ x v->aR xs us->r x xs H Q ->
  wpAny .(E) X.A (call (.builtin id) (v::us)) (EP X pins σ Q) X.xe s
theorem aR.one:∀{x:V} {us:List Value},aR [x] us->∃u,us=[u]/\aQ x u
 |_,_,.cons r .nil=>⟨_,rfl,r⟩
theorem aR.zero:∀{us:List Value},aR [] us->us=[]
 |_,.nil=>rfl
theorem aR.dropLast{xs:List V}{us:List Value}(h:aR xs us):aR xs.dropLast us.dropLast:=by
 induction h with
 |nil=>exact .nil
 |cons r t ih =>
  cases t with
  |nil=>exact .nil
  |cons q t'=>exact .cons r ih
theorem aR.reverse{xs:List V}{us:List Value}(h:aR xs us):aR xs.reverse us.reverse:=by
 induction h with
 |nil=>exact .nil
 |cons r t ih=>rw[List.reverse_cons,List.reverse_cons];exact aR.append ih (.cons r .nil)
theorem aR.rep{xs:List V}{us:List Value}(h:aR xs us):∀k:Nat,aR (List.replicate k xs).flatten (List.replicate k us).flatten
 |0=> .nil
 |k+1=>by
  rw[List.replicate_succ,List.replicate_succ,List.flatten_cons,List.flatten_cons]
  exact aR.append h (aR.rep h k)
theorem p7{α :Type}(l:List α):l.eraseIdx (l.length-1)=l.dropLast:=by
 induction l with
 |nil=>rfl
 |cons a r ih =>
  cases r with
  |nil=>rfl
  |cons b r =>
   have e:(a::b::r).length-1=((b::r).length-1)+1:=by
    have h1:(a::b::r).length=r.length+2:=rfl
    have h2:(b::r).length=r.length+1:=rfl
    omega
   rw[e,List.eraseIdx_cons_succ,ih]
   all_goals rfl
theorem kU(its:List Value):∀(k:Nat) (acc:List Value),
  List.foldl (fun x1 x2=>x1++x2) acc.toArray (List.replicate k its.toArray)=(acc++(List.replicate k its).flatten).toArray
 |0,acc=>by simp
 |k+1,acc=>by
  have e:acc.toArray++its.toArray=(acc++its).toArray:=by simp
  have e2:(acc++its)++(List.replicate k its).flatten=acc++(List.replicate (k+1) its).flatten:=by
   rw[List.replicate_succ,List.flatten_cons,List.append_assoc]
  rw[<-e2,<-kU its k (acc++its),<-e,List.replicate_succ,List.foldl_cons]
noncomputable section
variable{X:Cx}{pins:List (Addr×Obj)}{σ :St}{H:Hp}{s:Shared}{l b:Addr}{xs ys zs:List V}
theorem aA.lset{its its':List Value}{n:Nat}{f:Array Value->Array Value}{t':Nat}(I:aA X pins σ H s)(hH:H l=some (.lst xs))
  (e:s.heap.get? l=some { cls:= .type "list",data:= .seq its.toArray n }) (hf:f its.toArray=its'.toArray) (hv:aR ys its') (hz:ys.length<=sizeLine) :
  aA X pins σ (upd H l (.lst ys)) { s with heap:=s.heap.update l (Obj.mapSeq f),toks:=t' }:=by
 have q:=PySem.IsL.update e f
 rw[hf]at q
 refine I.write (x:=l) (e:=l) (by rw[hH];exact trivial) (.inl rfl) (fun b' u hb hu=>(Heap.get?_update_other s.heap (Obj.mapSeq f) (Ne.symm hb)).trans hu) ⟨_,q⟩ ?_
 exact⟨hz,its',_,hv,q⟩
theorem aA.lnew{its:List Value}{t':Nat}(I:aA X pins σ H s)(hv:aR ys its)(hz:ys.length<=sizeLine) :
  aA X pins σ (upd H s.heap.objs.size (.lst ys)) { s with heap:=s.heap.push { cls:= .type "list",data:= .seq its.toArray },toks:=t' } :=
 I.laid (fun _ _ q=>Heap.get?_push_of_some _ q) .(Ac) ⟨hz,its,0,hv,Heap.get?_push_size _ rfl⟩
theorem aA.fresh(I:aA X pins σ H s):H s.heap.objs.size=none:=I.hok.fresh .(Ac)
theorem aA.lstM(I:aA X pins σ H s)(hH:H l=some (.lst xs)):xs.length<=sizeLine/\ ∃(its:List Value) (n:Nat),aR xs its/\xs.length=its.length/\s.heap.get? l=some { cls:= .type "list",data:= .seq its.toArray n }:=by
 obtain⟨z,its,n,r,e⟩:=I.hok l _ hH
 exact⟨z,its,n,r,r.length,e⟩
theorem nQ{n:Nat}(h:n<=sizeLine):Builtin.List.listTooLong n=false:=by
 unfold Builtin.List.listTooLong
 exact decide_eq_false (by omega)
end
noncomputable section
variable{X:Cx}
def xZ:V->List V->Hp->VK->Prop:=fun x vs H Q=>∃l xs y,x= .ref l/\vs=[y]/\H l=some (.lst xs)/\xs.length<sizeLine/\Q .non (upd H l (.lst (xs++[y])))
theorem iP:DO X "list.append" xZ:=by
 intro pins s σ H x vs v us Q I rx rv h
 obtain⟨l,xs,y,rfl,rfl,hH,hz,q⟩:=h
 cases rx
 obtain⟨u,rfl,ru⟩:=rv.one
 obtain⟨z,its,n,r,hl,e⟩:=I.lstM hH
 refine call_meets F.slot_list_append ⟨_,e,rfl⟩ F.entry_list_append (F.args_list_append_2 _ _) (PySem.list_append l its.toArray n u (by rw[List.size_toArray];omega)) ⟨e,?_⟩
 refine⟨.non,_,I.lset (its':=its++[u]) hH e (by simp) (r.append (.cons ru .nil)) ?_,rfl,q⟩
 rw[List.length_append,List.length_singleton]
 omega
def y0:V->List V->Hp->VK->Prop:=fun x vs H Q=>∃l b xs zs,x= .ref l/\vs=[.ref b]/\H l=some (.lst xs)/\H b=some (.lst zs)/\xs.length+zs.length<=sizeLine/\Q .non (upd H l (.lst (xs++zs)))
theorem rO:DO X "list.extend" y0:=by
 intro pins s σ H x vs v us Q I rx rv h
 obtain⟨l,b,xs,zs,rfl,rfl,hH,hB,hz,q⟩:=h
 cases rx
 obtain⟨u,rfl,ru⟩:=rv.one
 cases ru
 obtain⟨z,its,n,r,hl,e⟩:=I.lstM hH
 obtain⟨z2,its2,n2,r2,hl2,e2⟩:=I.lstM hB
 have hsz:its.toArray.size+its2.toArray.size<=sizeLine:=by rw[List.size_toArray,List.size_toArray];omega
 have hlong:¬(!its.toArray.isEmpty && Builtin.List.listTooLong (its.toArray.size+its2.toArray.size))=true:=by
  rw[nQ hsz,Bool.and_false]
  exact Bool.false_ne_true
 refine call_meets F.slot_list_extend ⟨_,e,rfl⟩ F.entry_list_extend (F.args_list_extend_2 _ _)
  (AutoSeq1.list_extend_list_list_0 l its.toArray n b its2.toArray n2 hlong (by rw[List.size_toArray];omega) (by omega)) ⟨e,e2,?_⟩
 refine⟨.non,_,I.lset (its':=its++its2) hH e (by simp) (r.append r2) ?_,rfl,q⟩
 rw[List.length_append]
 omega
def He:V->List V->Hp->VK->Prop:=fun x vs H Q=>∃l xs y,x= .ref l/\vs=[]/\H l=some (.lst xs)/\xs[xs.length-1]? =some y/\Q y (upd H l (.lst xs.dropLast))
theorem AG:DO X "list.pop" He:=by
 intro pins s σ H x vs v us Q I rx rv h
 obtain⟨l,xs,y,rfl,rfl,hH,hy,q⟩:=h
 cases rx
 have hus:=rv.zero
 subst hus
 obtain⟨z,its,n,r,hl,e⟩:=I.lstM hH
 obtain⟨u,hu,ru⟩:=r.get hy
 have hy':its.toArray[its.toArray.size-1]? =some u:=by
  show its.toArray[its.length-1]? =some u
  rw[<-Array.getElem?_toList,<-hl]
  exact hu
 refine call_meets F.slot_list_pop ⟨_,e,rfl⟩ F.entry_list_pop (F.args_list_pop_1 _) (MeetsSeq.list_pop_last l its.toArray n u hy' (by rw[List.size_toArray];omega)) ⟨e,?_⟩
 refine⟨y,_,I.lset (its':=its.dropLast) hH e ?_ r.dropLast ?_,ru,q⟩
 ·show its.toArray.eraseIdxIfInBounds (its.toArray.size-1)=its.dropLast.toArray
  rw[List.size_toArray,List.eraseIdxIfInBounds_toArray,p7]
 ·rw[List.length_dropLast]
  omega
def uq:V->List V->Hp->VK->Prop:=fun x vs H Q=>∃l xs,x= .ref l/\vs=[]/\H l=some (.lst xs)/\Q .non (upd H l (.lst xs.reverse))
theorem p8:DO X "list.reverse" uq:=by
 intro pins s σ H x vs v us Q I rx rv h
 obtain⟨l,xs,rfl,rfl,hH,q⟩:=h
 cases rx
 have hus:=rv.zero
 subst hus
 obtain⟨z,its,n,r,hl,e⟩:=I.lstM hH
 refine call_meets F.slot_list_reverse ⟨_,e,rfl⟩ F.entry_list_reverse (F.args_list_reverse_1 _) (AutoSeq1.list_reverse_list_0 l its.toArray n (by rw[List.size_toArray];omega)) ⟨e,?_⟩
 refine⟨.non,_,I.lset (its':=its.reverse) hH e (by simp) r.reverse ?_,rfl,q⟩
 rw[List.length_reverse]
 omega
def AH:V->List V->Hp->VK->Prop:=fun x vs H Q=>∃l xs,x= .ref l/\vs=[]/\H l=some (.lst xs)/\Q .non (upd H l (.lst []))
theorem ur:DO X "list.clear" AH:=by
 intro pins s σ H x vs v us Q I rx rv h
 obtain⟨l,xs,rfl,rfl,hH,q⟩:=h
 cases rx
 have hus:=rv.zero
 subst hus
 obtain⟨z,its,n,r,hl,e⟩:=I.lstM hH
 refine call_meets F.slot_list_clear ⟨_,e,rfl⟩ F.entry_list_clear (F.args_list_clear_1 _) (AutoSeq1.list_clear_list_0 l its.toArray n (by rw[List.size_toArray];omega)) ⟨e,?_⟩
 exact⟨.non,_,I.lset (its':=[]) (ys:=[]) hH e rfl .nil (Nat.zero_le _),rfl,q⟩
def Hf:R2:=fun x y H Q=>∃l k xs,x= .ref l/\y= .int k/\H l=some (.lst xs)/\ -(2 ^ 63)<=k/\k<2 ^ 63/\xs.length*k.toNat<=sizeLine /\
 ∀p,H p=none->Q (.ref p) (upd H p (.lst (List.replicate k.toNat xs).flatten))
theorem y1{α :Type}(xs:List α)(k:Nat):(List.replicate k xs).flatten.length=k*xs.length:=by
 induction k with
 |zero=>simp
 |succ k ih=>rw[List.replicate_succ,List.flatten_cons,List.length_append,ih,Nat.succ_mul,Nat.add_comm]
theorem AI:fQ X (binaryOp .Mult) Hf:=by
 intro pins s σ H x y v u Q I rx ry h
 obtain⟨l,k,xs,rfl,rfl,hH,h1,h2,hz,q⟩:=h
 cases rx
 obtain⟨t,rfl⟩:=ry
 obtain⟨z,its,n,r,hl,e⟩:=I.lstM hH
 have hlen:its.toArray.size*k.toNat<=sizeLine:=by rw[List.size_toArray,<-hl];exact hz
 have hcap:¬its.toArray.size*k.toNat>(2 ^ 63-1) / 8:=by
  have:(sizeLine:Nat)<=(2 ^ 63-1) / 8:=by decide
  omega
 have hfit:¬(!Builtin.List.listFitsIndex k)=true:=by
  rw[fitsIndex_both h1 h2]
  exact Bool.false_ne_true
 have hlong:¬Builtin.List.listTooLong (its.toArray.size*k.toNat)=true:=by
  rw[nQ hlen]
  exact Bool.false_ne_true
 have hnew:List.foldl (fun x1 x2=>x1++x2) #[] (List.replicate (if its.toArray.isEmpty=true then 0 else k.toNat) its.toArray)=(List.replicate k.toNat its).flatten.toArray:=by
  have f0:∀m:Nat,List.foldl (fun x1 x2=>x1++x2) #[] (List.replicate m its.toArray)=(List.replicate m its).flatten.toArray:=fun m=>by
   have:=kU its m []
   rw[List.nil_append]at this
   exact this
  rw[f0]
  cases its with
  |nil=>simp
  |cons a r'=>rw[if_neg (by simp)]
 refine wpAny_binaryOp_repeat_ref (T:="list") (U:="int") (by decide) ⟨_,e,rfl⟩ (fun s'=>typeIs_int s' k t) noFill_list_mul F.fills_int_mul F.slot_int_rmul repeat_list F.slot_int_index.lookup
  (call_meets F.slot_int_rmul (typeIs_int s k t) F.entry_int_rmul (F.args_int_rmul_2 _ _) (int___rmul___int_list k t l its.toArray n)
   ⟨e,rfl,⟨_,e,rfl⟩,call_meets F.slot_list_mul ⟨_,e,rfl⟩ F.entry_list_mul (F.args_list_mul_2 _ _) (AutoListH.list___mul___list_int_3 l its.toArray n k t hfit hcap hlong) ⟨e,?_⟩⟩)
 rw[hnew]
 exact⟨.ref _,_,I.lnew (t':=s.toks) (r.rep k.toNat) (by rw[y1,Nat.mul_comm];exact hz),rfl,q _ I.fresh⟩
end
noncomputable section
variable{prog:Program}{w:World}{A:Around}{E:Value->Shared->Prop}{s:Shared}
end
noncomputable section
variable{X:Cx}
end
end L2
namespace Att
open PySem PySem.W PySem.Calls PyProof.Rows
theorem jl{P:Params}{h:Heap}:∀(ns:List Int) (vs:List Value),WellAll P h vs (ns.map WData.int)->IntsAre vs ns:=by
 intro ns
 induction ns with
 |nil =>
  intro vs w
  rw[List.map_nil]at w
  cases w
  exact .nil
 |cons n ns ih =>
  intro vs w
  rw[List.map_cons]at w
  cases w with
  |cons a b =>
   cases a
   exact .cons _ _ (ih _ b)
theorem rP{l:OpenLaw}{n:Nat}(hn:l.most=some n){P:Params}{h:Heap}{args:List WData}{vals:List Value}
  (hpre:l.row.toRowW.claim.pre args=true) (hwl:WellAll P h vals args) :
  ∃a vs ns,vals=[Value.ref a]/\args=[WData.list (ns.map WData.int)]/\h.get? a=some { cls:= .type "list",data:= .seq vs.toArray }/\IntsAre vs ns/\ns.length<=n:=by
 have hsh:WShape.hasAll [] args [.list .int]=true:=(pre_splitW hpre).1
 have hc:l.pre.holds [] { args:=args }=true:=(pre_splitW hpre).2
 obtain⟨d,r,rfl,h1,h2⟩:=hasAllW_cons hsh
 obtain rfl:=hasAllW_nil h2
 obtain⟨xs,rfl,h3⟩:=hasW_list h1
 obtain⟨ns,rfl⟩:=items_int h3
 have hlen:ns.length<=n:=by
  unfold OpenLaw.pre at hc
  have h4:(WTm.not (.lt (.lit (.int (n:Int))) (.len (.arg 0)))).holds [] { args:=[.list (ns.map .int)] }=true:=by
   have h4:=(holds_andW hc).1
   rw[hn]at h4
   exact h4
  have h5:=condW_of h4 (w_not (w_lt w_lit (w_len_list (w_arg rfl))))
  rw[List.length_map]at h5
  refine Nat.le_of_not_lt fun q=> ?_
  have q':(n:Int)<((ns.length:Nat):Int):=by omega
  first
   | (rw[decide_eq_true q']at h5;exact absurd h5 (by decide))
   | (simp at h5;omega)
 cases hwl with
 |cons w1 w2 =>
  cases w2
  cases w1 with
  |list ho hall=>exact⟨_,_,ns,rfl,rfl,ho,jl ns _ hall,hlen⟩
theorem rQ(l:OpenLaw)(args:List WData):l.row.toRowW.claim.post args (.bool true) args=true :=
 postW_of (r:=l.row.toRowW) (X:=(true == true))
  (show WShape.has [] (.bool true) .bool=true by first|rfl|decide|simp[WShape.has,WShape.arms,WShape.armsAll])
  (show(WTm.eq .res (.lit (.bool true))).value [] { args:=args,res:=some (.bool true),after:=args }=some (.bool (true == true)) from w_eq_bool (w_res rfl) w_lit) rfl
theorem attach_call{l:OpenLaw}{n:Nat}{q:Program}{loose:List Str}{XP:(Str->Option Value)->Heap->Prop}{YP:World->Heap->Prop}{d:DefRec}
  (hn:l.most=some n) (hdf:d.params.defaults=[])
  (call:∀(w:World) (s₀ s₁:Shared) (mg mb:Str->Option Value) (fa:Addr) (o:Obj) (pm cd doc:Value) (a:Addr) (vs:List Value) (ns:List Int),
   Ground q loose [] XP w s₀ mg mb s₁.heap->YP w s₁.heap ->
   s₁.heap.get? fa=some o->o.data= .func (docDef d.name d.params d.body d.scope pm cd doc)->s₁.heap.CodeRec cd d.name->mg d.name=some (.ref fa) ->
   s₁.heap.get? a=some { cls:= .type "list",data:= .seq vs.toArray }->IntsAre vs ns->ns.length<=n->s₁.gens= #[] ->
   codeAny (model l.prog w) callerA (.call (.ref fa) ⟨[.ref a],[]⟩) (fun r s'=>r= .ok (.ret (.bool true))/\OldK s₁.heap s'.heap/\s'.os=s₁.os/\AllBare s'.gens) s₁) :
  WalkO q loose XP YP l.row.toRowW d [] (fun f vs=>PySem.call f vs):=by
 intro w s₀ s₁ mg mb G Y fa o pm cd doc dV kV ho hd hcd hD hmg hg args vals as hpre hlay hrd hwl hlo
 obtain rfl:dV= .none:=Dflts.none hD hdf
 obtain rfl:kV= .none:=Dflts.noKw hD
 obtain⟨a,vs,ns,rfl,rfl,hobj,hints,hlen⟩:=rP hn hpre hwl
 refine enter_call (codeAny_mono (call w s₀ s₁ mg mb fa o pm cd doc a vs ns G Y ho (fd_plain hd) hcd hmg hobj hints hlen hg) fun r s' hq=> ?_)
 obtain⟨rfl,h2,h3,h4⟩:=hq
 exact⟨.inl ⟨.bool true,.bool true,[],rfl,fun _=>rfl,.bool true,rQ l _,fun _=>⟨List.Pairwise.nil,fun _ hm=>(nomatch hm)⟩⟩,h2,h3,h4⟩
noncomputable section
variable{prog:Program}{w:World}{A:Around}{E:Value->Shared->Prop}{s:Shared}{K:Frag}
end
end Att
namespace L2
open PySem PySem.Spec PyProof.Rows
theorem kW:∀{vs:List Value} {ns:List Int},IntsAre vs ns->aR (ns.map V.int) vs
 |_,_,.nil=> .nil
 |_,_,.cons n t h=> .cons ⟨t,rfl⟩ (kW h)
def ut(H:Hp):Prop:=∀b,H b=none\/(∃o xs,H b=some (.frz o (.lst xs)))\/H b=some (.tbl 0)
theorem DQ:TriplesOk []:=by first|trivial|constructor|simp[TriplesOk]
theorem AJ(pos:Pos):codeAmong pos []=none:=by first|rfl|simp[codeAmong]
theorem AK{h₀ h:Heap}(k:∀b o,h₀.get? b=some o->h.get? b=some o\/(isCodeTable h₀ b/\o=PySem.W.tabObj #[]/\ ∃ps,h.get? b=some (PySem.W.tabObj ps))):OldK h₀ h :=
 ⟨fun b o e=>by
  rcases k b o e with z|⟨ht,rfl,ps,hP⟩
  ·exact .inl z
  ·exact .inr (.inl ⟨ht,rfl, #[],ps,rfl,by rw[Array.empty_append];exact hP⟩),fun b o e=>by
  rcases k b o e with z|⟨_,_,ps,hP⟩
  ·exact⟨o,z⟩
  ·exact⟨_,hP⟩⟩
open Classical in
noncomputable def qg(ts:List Addr)(H:Hp):Hp:=fun b=>if b∈ts then some (.tbl 0) else H b
theorem eR{ts:List Addr}{H:Hp}{b:Addr}(h:b∈ts):qg ts H b=some (.tbl 0):=if_pos h
theorem cM{ts:List Addr}{H:Hp}{b:Addr}(h:b∉ts):qg ts H b=H b:=if_neg h
theorem uv{P:Program}{w:World}{K:Fg}{mg mb:Str->Option Value}{CX:jF}{k:Nat}{fa a:Addr}{fd:FuncData}{x:Str}{sp:Sp}{s₁:Shared}{vs:List Value}{ns:List Int}
  (KX:K.In s₁.heap) (hns:s₁.heap.Ns mainGlobals mg) (hb:s₁.heap.Ns builtinsNs mb) (hbb:∀x:Str,x ≠ "__name__"->mb x=bootBuiltins x) (hlim:s₁.heap.NoLimit) (hbm:∃bm ob,mg "__builtins__"=some (.ref bm)/\bm≠builtinsNs/\s₁.heap.get? bm=some ob/\ob.cls= .type "module"/\ob.dict=some builtinsNs/\ob.data= .plain) (hg:s₁.gens= #[])
  (ha:s₁.heap.get? a=some { cls:= .type "list",data:= .seq vs.toArray }) (hi:IntsAre vs ns) (hl:ns.length<=sizeLine) (hr:br k callerA)
  {ts:List Addr} (hts:∀P∈ts,s₁.heap.get? P=some (PySem.W.tabObj #[])/\isCodeTable s₁.heap P/\K.lookup P=none)
  (F:∀base:Bs,K.In base->base.Ns mainGlobals mg->base.tabs=ts->cN P w K mg base CX k fa fd [x] sp) (hbind:∀(s:Shared) (u:Value),BindsTo s fd ⟨[u],[]⟩ [(x,u)])
  (hsp:∀H:Hp,ut H->eE K H a (ns.map V.int)->sp [.ref a] H (fun v _=>v= .bl true) fun _ _ _=>False)
  (hCX:∀H e s',CX [] H s₁ (fun _ _ _=>False) e s'->False) :
  codeAny (model P w) callerA (.call (.ref fa) ⟨[.ref a],[]⟩) (fun r s'=>r= .ok (.ret (.bool true))/\OldK s₁.heap s'.heap/\s'.os=s₁.os/\AllBare s'.gens) s₁:=by
 have rv:=kW hi
 have lenV:=hi.length
 -- from an abstract heap in which nothing but the script may be tracked
 have core:∀H:Hp,ut H->eE K H a (ns.map V.int)->gD P w H s₁.heap->(∀b,H b≠none->b=a\/b∈ts)->(H a≠none->K.lookup a=none)->(∀P∈ts,H P=some (.tbl 0)) ->
   codeAny (model P w) callerA (.call (.ref fa) ⟨[.ref a],[]⟩) (fun r s'=>r= .ok (.ret (.bool true))/\OldK s₁.heap s'.heap/\s'.os=s₁.os/\AllBare s'.gens) s₁:=by
  intro H hO hS hok hA hK hTb
  have base_of:∀{b:Addr} {o:Obj},s₁.heap.get? b=some o->H b=none->(kC s₁.heap H).get? b=some o:=fun e n=>u0 e n
  have noA:∀{b:Addr} {o:Obj} {es:Array DictEntry} {ep:Nat},s₁.heap.get? b=some o->o.data= .dict es ep->H b=none:=fun {b o es ep} e d=>by
   cases q:H b with
   |none=>rfl
   |some u =>
    rcases hA b (by rw[q];simp)with e'|e'
    case inr=>rw[(hts b e').1]at e;cases e;cases d
    subst e'
    rw[ha]at e;cases e
    have d':Data.seq vs.toArray _=Data.dict es ep:=d
    cases d'
  have nsK:∀{b:Addr} {m:Str->Option Value},s₁.heap.Ns b m->(kC s₁.heap H).Ns b m:=fun {b m} ⟨o,es,ep,e,d,r⟩=>⟨o,es,ep,base_of e (noA e d),d,r⟩
  have hKb:K.In (kC s₁.heap H):=fun b o e=>base_of (KX b o e) (by
   cases q:H b with
   |none=>rfl
   |some u =>
    rcases hA b (by rw[q];simp)with e'|e'
    case inr=>rw[(hts b e').2.2]at e;cases e
    subst e'
    rw[hK (by rw[q];simp)]at e;cases e)
  have hM:Mod K mg (⟨kC s₁.heap H,ts⟩:Bs):=⟨hKb,nsK hns,⟨mb,nsK hb,hbb⟩,let ⟨mc,h1,h2⟩:=hlim;⟨mc,nsK h1,h2⟩,let ⟨bm,ob,a1,a2,a3,a4,a5,a6⟩:=hbm;⟨bm,ob,a1,a2,base_of a3 (by
   cases q:H bm with
   |none=>rfl
   |some u =>
    rcases hA bm (by rw[q];simp)with e'|e'
    ·rw[e',ha]at a3;cases a3;exact absurd a6 (by simp)
    ·rw[(hts bm e').1]at a3;cases a3;exact absurd a6 (by simp)),a4,a5,a6⟩⟩
  have e0:m4 P w K mg (⟨kC s₁.heap H,ts⟩:Bs) callerA [] s₁ H:=⟨rfl,hM,fun b o e=>xA e,Nat.le_of_eq (rA _ _),trivial,fun b hb=>absurd (show b∈([]:List Addr) from hb) (by simp),hok,.of_eq hg,hTb⟩
  refine codeAny_mono ((F ⟨kC s₁.heap H,ts⟩ hKb (nsK hns) rfl).run callerA [] s₁ H ⟨[.ref a],[]⟩ [.ref a] [.ref a] _ _ hr e0 (hbind s₁ (.ref a)) (.cons rfl .nil) (hsp H hO hS)) fun r s' h=> ?_
  cases r with
  |error e=>exact(hCX H e s' h).elim
  |ok fl =>
   cases fl with
   |next=>exact False.elim h
   |brk=>exact False.elim h
   |cont=>exact False.elim h
   |ret u =>
    obtain⟨v,H',os,bare,un,hok',r',q⟩:=h
    have q':v= .bl true:=q
    subst q'
    obtain rfl:u=Value.bool true:=r'
    refine⟨rfl,AK fun b o e=> ?_,os,bare⟩
    cases q:H b with
    |none=>exact .inl (un.keep b o e q (by intro z;exact absurd (show b∈([]:List Addr) from z) (by simp)) (by simp))
    |some u =>
     rcases hO b with z|⟨ob,xs,z⟩|z
     case inr.inr =>
      rcases hA b (by rw[q];simp)with e'|e'
      case inl =>
       subst e'
       obtain⟨ps,e1,_⟩:=hok _ _ z
       rw[ha]at e1;cases e1
      obtain⟨ps,e2,_⟩:=hok' b _ (un.tbls b 0 z)
      rw[(hts b e').1]at e;cases e
      exact .inr ⟨(hts b e').2.1,rfl,ps,e2⟩
     ·rw[q]at z;cases z
     ·have z2:=un.frzs b ob _ z
      obtain⟨e1,_⟩:=hok b _ z
      obtain⟨e2,_⟩:=hok' b _ z2
      rw[e]at e1;cases e1
      exact .inl e2
 have haT:a∉ts:=fun z=>by have:=(hts a z).1;rw[ha]at this;cases this
 have okT:∀b∈ts,∀H:Hp,bE P w H s₁.heap b (.tbl 0):=fun b hb H=>⟨#[],(hts b hb).1,DQ,fun pos cv z=>by rw[show(#[]:Array Value).toList=[] from rfl,AJ]at z;cases z⟩
 cases hk:K.lookup a with
 |some o =>
  have e:=KX a o hk
  rw[ha]at e
  cases e
  refine core (qg ts fun _=>none) (fun b=> ?_) (.inr ⟨_,vs.toArray,_,hk,rfl,rfl,rfl,by rw[List.size_toArray,lenV];exact hl,by simpa using rv⟩) (fun b u z=> ?_) (fun b z=> ?_) (fun z=> ?_) fun P hP=>eR hP
  ·by_cases hb:b∈ts
   ·exact .inr (.inr (eR hb))
   ·exact .inl (cM hb)
  ·by_cases hb:b∈ts
   ·rw[eR hb]at z;cases z;exact okT b hb _
   ·rw[cM hb]at z;cases z
  ·by_cases hb:b∈ts
   ·exact .inr hb
   ·exact absurd (cM hb) z
  ·exact absurd (cM haT) z
 |none =>
  refine core (qg ts fun b=>if b=a then some (.frz { cls:= .type "list",data:= .seq vs.toArray } (.lst (ns.map V.int))) else none) (fun b=> ?_) (.inl (.inr ⟨{ cls:= .type "list",data:= .seq vs.toArray },by rw[cM haT];exact if_pos rfl⟩)) (fun b u z=> ?_) (fun b z=> ?_) (fun _=>hk) fun P hP=>eR hP
  ·by_cases hb:b∈ts
   ·exact .inr (.inr (eR hb))
   ·rw[cM hb]
    by_cases hb:b=a
    ·exact .inr (.inl ⟨_,_,if_pos hb⟩)
    ·exact .inl (if_neg hb)
  ·by_cases hT:b∈ts
   ·rw[eR hT]at z;cases z;exact okT b hT _
   ·rw[cM hT]at z
    by_cases hb:b=a
    ·have z':=(if_pos hb).symm.trans z
     cases z'
     subst hb
     exact⟨ha,by rw[List.length_map];exact hl,vs,_,rv,ha⟩
    ·have z':=(if_neg hb).symm.trans z
     cases z'
  ·by_cases hT:b∈ts
   ·exact .inr hT
   ·rw[cM hT]at z
    by_cases hb:b=a
    ·exact .inl hb
    ·exact absurd (if_neg hb) z
end L2
namespace L2
open PySem PySem.Spec PyProof.Rows
theorem y2{l:PySem.W.OpenLaw}{n k:Nat}{q:Program}{loose:List Str}{XP:(Str->Option Value)->Heap->Prop}{YP:World->Heap->Prop}{d:DefRec}{K:Params->Fg}{CX:World->jF}{sp:World->Sp}{x:Str}
  (hn:l.most=some n) (hn2:n<=sizeLine) (hdf:d.params.defaults=[]) (hr:br k callerA)
  (hY:∀(w:World) (h:Heap),YP w h->(K w.params).In h) {ts:List Addr} (hts:∀(w:World) (h:Heap),YP w h->∀P∈ts,h.get? P=some (PySem.W.tabObj #[])/\isCodeTable h P/\(K w.params).lookup P=none)
  (F:∀(w:World) (mg:Str->Option Value) (fa:Addr) (h:Heap),(K w.params).In h->h.Ns mainGlobals mg->mg d.name=some (.ref fa) ->
   ∃fd:FuncData,(∀(s:Shared) (u:Value),BindsTo s fd ⟨[u],[]⟩ [(x,u)]) /\
    ∀base:Bs,(K w.params).In base->base.Ns mainGlobals mg->base.tabs=ts->cN l.prog w (K w.params) mg base (CX w) k fa fd [x] (sp w))
  (hsp:∀(w:World) (H:Hp) (a:Addr) (ns:List Int),ns.length<=n->ut H->eE (K w.params) H a (ns.map V.int)->sp w [.ref a] H (fun v _=>v= .bl true) fun _ _ _=>False)
  (hCX:∀(w:World) (H:Hp) (s:Shared) (e:Value) (s':Shared),CX w [] H s (fun _ _ _=>False) e s'->False) :
  PySem.W.WalkO q loose XP YP l.row.toRowW d [] (fun f vs=>PySem.call f vs):=by
 refine Att.attach_call hn hdf fun w s₀ s₁ mg mb fa o pm cd doc a vs ns G Y ho hd hcd hmg hobj hints hlen hg=> ?_
 have KX:=hY w _ Y
 obtain⟨fd,hb,hF⟩:=F w mg fa _ KX G.T.g hmg
 exact uv KX G.T.g G.T.b G.T.builtins G.T.nolimit G.T.bmain hg hobj hints (Nat.le_trans hlen hn2) hr (hts w _ Y) hF hb (fun H hO hS=>hsp w H a ns hlen hO hS) fun H e s'=>hCX w H s₁ e s'
theorem DR{l:PySem.W.OpenLaw}{n k:Nat}{q:Program}{loose:List Str}{XP:(Str->Option Value)->Heap->Prop}{YP:World->Heap->Prop}{d:DefRec}{K:Params->Fg}{CX:jF}{sp:Fg->Sp}{x:Str}
  (hn:l.most=some n) (hn2:n<=sizeLine) (hdf:d.params.defaults=[]) (hr:br k callerA)
  (hY:∀(w:World) (h:Heap),YP w h->(K w.params).In h) {ts:List Addr} (hts:∀(w:World) (h:Heap),YP w h->∀P∈ts,h.get? P=some (PySem.W.tabObj #[])/\isCodeTable h P/\(K w.params).lookup P=none)
  (F:∀(w:World) (mg:Str->Option Value) (fa:Addr) (h:Heap),(K w.params).In h->h.Ns mainGlobals mg->mg d.name=some (.ref fa) ->
   ∃fd:FuncData,(∀(s:Shared) (u:Value),BindsTo s fd ⟨[u],[]⟩ [(x,u)]) /\
    ∀base:Bs,(K w.params).In base->base.Ns mainGlobals mg->base.tabs=ts->cN l.prog w (K w.params) mg base CX k fa fd [x] (sp (K w.params)))
  (hsp:∀(K:Fg) (H:Hp) (a:Addr) (ns:List Int),ns.length<=n->ut H->eE K H a (ns.map V.int)->sp K [.ref a] H (fun v _=>v= .bl true) fun _ _ _=>False)
  (hCX:∀(H:Hp) (s:Shared) (e:Value) (s':Shared),CX [] H s (fun _ _ _=>False) e s'->False) :
  PySem.W.WalkO q loose XP YP l.row.toRowW d [] (fun f vs=>PySem.call f vs) :=
 y2 (K:=K) (CX:=fun _=>CX) (sp:=fun w=>sp (K w.params)) hn hn2 hdf hr hY hts F (fun w H a ns h1 h2 h3=>hsp (K w.params) H a ns h1 h2 h3) fun _ H s e s'=>hCX H s e s'
end L2
namespace L2
open PySem PySem.Spec PyProof.Rows
noncomputable def aP(s:Stmt)(j:Nat):Stmt:=match s with
 |.ClassDef _ _ _ body _ _ _ _ _ _ _=>body.getD j (.Pass ⟨0,0,0,0⟩)
 |_=> .Pass ⟨0,0,0,0⟩
noncomputable def dZ(s:Stmt):Arguments:=match s with
 |.FunctionDef _ a _ _ _ _ _ _ _ _=>a
 |_=>{ posonlyargs:=[],args:=[],vararg:=none,kwonlyargs:=[],kw_defaults:=[],kwarg:=none,defaults:=[] }
def bz(s:Stmt):List Stmt:=match s with
 |.FunctionDef _ _ b _ _ _ _ _ _ _=>b
 |_=>[]
noncomputable def ah(s:Stmt):Scope:=match s with
 |.FunctionDef _ _ _ _ _ _ sc _ _ _=>sc
 |_=>{ kind:= .function,names:=[],isGenerator:=false,isCoroutine:=false }
abbrev fS:jF:=fun _ _ _ _ _ _=>False
abbrev E0:XK:=fun _ _ _=>False
theorem kX{X:Cx}:eF fS X E0:=fun _ _ _ _ _ _ _ h=>h.elim
structure fE(K:Fg)(x qual:Str)(st:Stmt)(f:Addr)(fd:FuncData):Prop where
 ex:∃(oc:Value) (od:Option Addr) (kV doc pm:Value) (an:Option Addr) (cdv ct:Value) (osl:Array (Option Value)),
  fd=PySem.W.fnOf x qual (dZ st) (bz st) (ah st) .none kV doc pm an cdv ct/\K.lookup f=some ⟨oc,od,.func fd,osl⟩/\PySem.W.codeIn K cdv qual=true
 kp:PySem.W.keepIn K (.ref f)=true
noncomputable section
variable{P:Program}{w:World}{K:Fg}{mg:Str->Option Value}{base:Bs}
theorem fE.ok{x qual:Str}{st:Stmt}{f:Addr}{fd:FuncData}{N ps:List Str}{k:Nat}{sp:Sp}(F:fE K x qual st f fd)(S:am N ps (ah st))(len:∀vs H Q E,sp vs H Q E->vs.length=ps.length)
  (hbody:∀(cdv:Value) (A:Around) (outer:List Env) (s:Shared) (H:Hp) (vs:List V) (Q:VK) (E:XK),br k (A.deeper (envOfC qual (ah st) s.heap.objs.size f cdv))->sp vs H Q E ->
   ∃t,nI (iO fS P w K mg base N qual (ah st) f cdv A outer s H E).nox (bz st) t/\t { nx:=fun _ H'=>Q .non H',rt:=Q } (start N vs) H):cN P w K mg base fS (k+1) f fd ps sp:=by
 obtain⟨oc,od,kV,doc,pm,an,cdv,ct,osl,rfl,lk,hcd⟩:=F.ex
 refine zq lk hcd S len fun A outer s H vs Q E hr hsp=> ?_
 obtain⟨t,h,q⟩:=hbody cdv A outer s H vs Q E hr hsp
 exact⟨t,h.nox,q⟩
theorem fE.binds{x qual:Str}{st:Stmt}{f:Addr}{fd:FuncData}{ps:List Str}(F:fE K x qual st f fd)
  (h:∀(kV doc pm:Value) (an:Option Addr) (cdv ct:Value) (us:List Value),us.length=ps.length->bindArgs (PySem.W.fnOf x qual (dZ st) (bz st) (ah st) .none kV doc pm an cdv ct) ⟨us,[]⟩=pure (ps.zip us)):bw K fd ps []:=by
 obtain⟨oc,od,kV,doc,pm,an,cdv,ct,osl,rfl,lk,hcd⟩:=F.ex
 exact .all (h kV doc pm an cdv ct)
theorem uw{x qual:Str}{st:Stmt}{f:Addr}{oc:Value}{od an:Option Addr}{osl:Array (Option Value)}{kV doc pm cdv ct:Value}(l:K.lookup f=some ⟨oc,od,.func (PySem.W.fnOf x qual (dZ st) (bz st) (ah st) .none kV doc pm an cdv ct),osl⟩)
  (c:PySem.W.codeIn K cdv qual=true) (k:PySem.W.keepIn K (.ref f)=true):fE K x qual st f (PySem.W.fnOf x qual (dZ st) (bz st) (ah st) .none kV doc pm an cdv ct):=⟨⟨oc,od,kV,doc,pm,an,cdv,ct,osl,rfl,l,c⟩,k⟩
end
theorem gG{A:Around}{k:Nat}(hr:br k A):A.units+1<cLine:=Nat.lt_of_le_of_lt (Nat.add_le_add_left (by decide:1<=64) _) hr.units
theorem iQ{n:Nat}(h:n<=1000):n<sizeLine:=Nat.lt_of_le_of_lt h (by decide)
noncomputable section
variable{X:Cx}
end
theorem ma{A B:Prop}(h:B):if false=true then A else B:=by
 rw[if_neg Bool.false_ne_true]
 exact h
theorem iteT{A B:Prop}(h:A):if true=true then A else B:=by
 rw[if_pos rfl]
 exact h
def Same(H H':Hp):Prop:=∀b o,H b=some o->H' b=some o
theorem Same.refl(H:Hp):Same H H:=fun _ _ h=>h
theorem Same.trans{H H1 H2:Hp}(a:Same H H1)(b:Same H1 H2):Same H H2:=fun c o h=>b c o (a c o h)
theorem Same.free{H H':Hp}(e:Same H H'){l:Addr}(h:H' l=Option.none):H l=Option.none:=by
 cases q:H l with
 |none=>rfl
 |some o =>
  rw[e l o q]at h
  cases h
theorem Same.seq{K:Fg}{H H':Hp}{a:Addr}{xs:List V}(e:Same H H')(h:eE K H a xs):eE K H' a xs:=by
 rcases h with(h|⟨o,h⟩)|h
 ·exact .inl (.inl (e _ _ h))
 ·exact .inl (.inr ⟨o,e _ _ h⟩)
 ·exact .inr h
end L2
end
noncomputable section
namespace L2
open PySem PySem.Spec PyProof.Rows
noncomputable section
variable{κ :Type}[DecidableEq κ]
noncomputable def eS(kvs:List (κ×V))(k: κ):Option V:=(kvs.find? fun kv=>decide (kv.1=k)).map (·.2)
noncomputable def dj(kvs:List (κ×V))(k: κ)(v:V):List (κ×V) :=
 if (kvs.any fun kv=>decide (kv.1=k))=true then kvs.map (fun kv=>if kv.1=k then(kv.1,v) else kv) else kvs++[(k,v)]
theorem ia{p: κ×V}{r:List (κ×V)}{k: κ}(e:p.1=k):eS (p::r) k=some p.2:=by simp[eS,List.find?_cons,e]
theorem ib{p: κ×V}{r:List (κ×V)}{k: κ}(e:¬p.1=k):eS (p::r) k=eS r k:=by simp[eS,List.find?_cons,e]
theorem nR(k: κ):∀kvs:List (κ×V),(kvs.any fun kv=>decide (kv.1=k))=(eS kvs k).isSome
 |[]=>rfl
 |p::r=>by
  rw[List.any_cons]
  by_cases e:p.1=k
  ·simp only[ia e,decide_eq_true e,Bool.true_or,Option.isSome_some]
  ·rw[ib e,decide_eq_false e,Bool.false_or];exact nR k r
theorem fV(kvs:List (κ×V))(k: κ)(v:V):(dj kvs k v).length<=kvs.length+1:=by
 unfold dj
 split
 ·rw[List.length_map];omega
 ·rw[List.length_append,List.length_cons,List.length_nil];omega
theorem fP.isSome_eq{o:Option V}{u:Option Value}(r:fP o u):o.isSome=u.isSome:=by
 cases o with
 |none=>cases u with
  |none=>rfl
  |some _=>exact(show False from r).elim
 |some _=>cases u with
  |none=>exact(show False from r).elim
  |some _=>rfl
theorem fP.getD{o:Option V}{u:Option Value}{d:V}{d':Value}(r:fP o u)(rd:aQ d d'):aQ (o.getD d) (u.getD d'):=by
 cases o with
 |none=>cases u with
  |none=>exact rd
  |some _=>exact(show False from r).elim
 |some _=>cases u with
  |none=>exact(show False from r).elim
  |some _=>exact r
theorem KV.val{kvs:List (κ×V)}{vs:List (κ×Value)}(r:KV kvs vs)(k: κ):fP (eS kvs k) (valueAt vs k):=by
 unfold KV at r
 induction r with
 |nil=>exact True.intro
 | @cons p q ps qs h t ih =>
  obtain⟨h1,h2⟩:=h
  by_cases e:p.1=k
  ·have e':q.1=k:=h1.symm.trans e
   have b:valueAt (q::qs) k=some q.2:=by simp[valueAt,List.find?_cons,e']
   rw[ia e,b];exact h2
  ·have e':¬q.1=k:=fun z=>e (h1.trans z)
   have b:valueAt (q::qs) k=valueAt qs k:=by simp[valueAt,List.find?_cons,e']
   rw[ib e,b];exact ih
theorem KV.any{kvs:List (κ×V)}{vs:List (κ×Value)}(r:KV kvs vs)(k: κ):(kvs.any fun kv=>decide (kv.1=k))=vs.any fun kv=>decide (kv.1=k):=by
 unfold KV at r
 induction r with
 |nil=>rfl
 |cons h t ih=>rw[List.any_cons,List.any_cons,ih,h.1]
theorem KV.repl{kvs:List (κ×V)}{vs:List (κ×Value)}(r:KV kvs vs)(k: κ){y:V}{u:Value}(ry:aQ y u) :
  KV (kvs.map fun kv=>if kv.1=k then(kv.1,y) else kv) (vs.map fun kv=>if kv.1=k then(kv.1,u) else kv):=by
 unfold KV at r ⊢
 induction r with
 |nil=>exact .nil
 | @cons p q ps qs h t ih =>
  rw[List.map_cons,List.map_cons]
  refine .cons ?_ ih
  obtain⟨h1,h2⟩:=h
  by_cases e:p.1=k
  ·rw[if_pos e,if_pos (h1.symm.trans e)];exact⟨h1,ry⟩
  ·rw[if_neg e,if_neg (fun z=>e (h1.trans z))];exact⟨h1,h2⟩
theorem KV.put{kvs:List (κ×V)}{vs:List (κ×Value)}(r:KV kvs vs)(k: κ){y:V}{u:Value}(ry:aQ y u):KV (dj kvs k y) (stored vs k u):=by
 unfold dj stored
 rw[r.any k]
 by_cases e:(vs.any fun kv=>decide (kv.1=k))=true
 ·rw[if_pos e,if_pos e];exact r.repl k ry
 ·rw[if_neg e,if_neg e];exact Paired.snoc r ⟨rfl,ry⟩
theorem KV.length{kvs:List (κ×V)}{vs:List (κ×Value)}(r:KV kvs vs):kvs.length=vs.length:=Paired.length r
end
theorem kY{P:Program}{w:World}{k:Key}{u:Value}(r:aQ (kV k) u):(bG P w).is k u=true:=by
 cases k with
 |inl i=>obtain⟨t,e⟩:=(show ∃t,u=Value.int i t from r);subst e;exact nD P w i t
 |inr x=>obtain⟨t,e⟩:=(show ∃t,u=Value.str x t from r);subst e;exact nE P w x t
theorem kZ{P:Program}{w:World}:∀{ks:List Key} {us:List Value},aR (ks.map kV) us->ItemsAre (bG P w) ks us
 |[],_,r=>by rw[List.map_nil]at r;cases r;exact .nil
 |k::ks,_,r=>by
  rw[List.map_cons]at r
  cases r with
  |cons h t=>exact .cons (kY h) (kZ t)
abbrev KT(H:Hp):List (List Key×V)->List (List Key×Addr×Value)->Prop:=Paired fun p q=>p.1=q.1/\H q.2.1=some (.tup (p.1.map kV))/\aQ p.2 q.2.2
theorem KT.val{H:Hp}{kvs:List (List Key×V)}{xs:List (List Key×Addr×Value)}(r:KT H kvs xs)(k:List Key):fP (eS kvs k) ((atKey xs k).map (·.2)):=by
 induction r with
 |nil=>exact True.intro
 | @cons p q ps qs h t ih =>
  obtain⟨h1,_,h2⟩:=h
  by_cases e:p.1=k
  ·have e':q.1=k:=h1.symm.trans e
   have b:atKey (q::qs) k=some q.2:=by simp[atKey,List.find?_cons,e']
   rw[ia e,b];exact h2
  ·have e':¬q.1=k:=fun z=>e (h1.trans z)
   have b:atKey (q::qs) k=atKey qs k:=by simp[atKey,List.find?_cons,e']
   rw[ib e,b];exact ih
theorem KT.repl{H:Hp}{kvs:List (List Key×V)}{xs:List (List Key×Addr×Value)}(r:KT H kvs xs)(k:List Key){y:V}{u:Value}(ry:aQ y u) :
  KT H (kvs.map fun kv=>if kv.1=k then(kv.1,y) else kv) (xs.map (putAt k u)):=by
 induction r with
 |nil=>exact .nil
 | @cons p q ps qs h t ih =>
  rw[List.map_cons,List.map_cons]
  refine .cons ?_ ih
  obtain⟨h1,h2,h3⟩:=h
  unfold putAt
  by_cases e:p.1=k
  ·rw[if_pos e,if_pos (h1.symm.trans e)];exact⟨h1,h2,ry⟩
  ·rw[if_neg e,if_neg (fun z=>e (h1.trans z))];exact⟨h1,h2,h3⟩
theorem KT.put{H:Hp}{kvs:List (List Key×V)}{xs:List (List Key×Addr×Value)}(r:KT H kvs xs)(k:List Key){b:Addr}{y:V}{u:Value}(hb:H b=some (.tup (k.map kV)))(ry:aQ y u) :
  KT H (dj kvs k y) (storedH xs k b u):=by
 have e:(kvs.any fun kv=>decide (kv.1=k))=(atKey xs k).isSome:=by
  rw[nR,(r.val k).isSome_eq,Option.isSome_map]
 unfold dj storedH
 rw[e]
 by_cases q:(atKey xs k).isSome=true
 ·rw[if_pos q,if_pos q];exact r.repl k ry
 ·rw[if_neg q,if_neg q];exact Paired.snoc r ⟨rfl,hb,ry⟩
theorem KT.keeps{H H':Hp}{kvs:List (List Key×V)}{xs:List (List Key×Addr×Value)}(r:KT H kvs xs)(ht:∀b ys,H b=some (.tup ys)->H' b=some (.tup ys)):KT H' kvs xs :=
 Paired.mapP r fun _ _ z=>⟨z.1,ht _ _ z.2.1,z.2.2⟩
noncomputable section
variable{P:Program}{w:World}{H:Hp}{h:Heap}{a:Addr}
theorem zr{u:HO}(ok:gD P w H h)(e:Rd H a u):bE P w H h a u:=e.ok ok
theorem l4{kvs:List (Key×V)}(ok:gD P w H h)(e:Rd H a (.dK kvs)):kvs.length<=sizeLine/\(a == sysModules)=false/\ ∃vs,KV kvs vs/\h.DictOf (bG P w) a vs :=
 show bE P w H h a (.dK kvs) from zr ok e
theorem zt{kvs:List (Key×V)}(ok:gD P w H h)(e:H a=some (.dK kvs)):kvs.length<=sizeLine/\(a == sysModules)=false/\ ∃vs,KV kvs vs/\h.DictOf (bG P w) a vs:=l4 ok (.inl e)
theorem jG{ks:List Key}(ok:gD P w H h)(e:H a=some (.tup (ks.map kV))):(tupleKind (bG P w)).is h ks a:=by
 obtain⟨_,its,r,o,h1,h2,n,h3⟩:=(show bE P w H h a (.tup (ks.map kV)) from ok a _ e)
 exact⟨o,its.toArray,n,h1,h2,h3,by simpa using kZ r⟩
theorem l5{kvs:List (List Key×V)}(ok:gD P w H h)(e:Rd H a (.dT kvs)):kvs.length<=sizeLine/\(a == sysModules)=false /\
  ∃xs,KT H kvs xs/\h.DictOfH (tupleKind (bG P w)) a xs:=by
 obtain⟨z,y,xs,r,o,es,ep,h1,h2,h3,h4,h5⟩:=(show bE P w H h a (.dT kvs) from zr ok e)
 refine⟨z,y,xs,r,o,es,ep,h1,h2,h3,h4,fun x hx=> ?_,h5⟩
 have all:∀{l:List (List Key×V)} {m:List (List Key×Addr×Value)},KT H l m->∀x∈m,(tupleKind (bG P w)).is h x.1 x.2.1:=by
  intro l m q
  induction q with
  |nil=>intro x hx;exact nomatch hx
  | @cons p q ps qs hq t ih =>
   intro x hx
   rcases List.mem_cons.mp hx with e|hx
   ·subst e
    exact jG ok (by rw[<-hq.1];exact hq.2.1)
   ·exact ih x hx
 exact all r x hx
theorem DU{kvs:List (List Key×V)}(ok:gD P w H h)(e:H a=some (.dT kvs)):kvs.length<=sizeLine/\(a == sysModules)=false /\
  ∃xs,KT H kvs xs/\h.DictOfH (tupleKind (bG P w)) a xs:=l5 ok (.inl e)
end
def gO(H:Hp)(a:Addr)(y:V)(r:Option V):Prop :=
 (∃kvs k,Rd H a (.dK kvs)/\y=kV k/\r=eS kvs k)\/ ∃kvs k b,Rd H a (.dT kvs)/\y= .ref b/\H b=some (.tup (k.map kV))/\r=eS kvs k
def nS(H:Hp)(a:Addr)(y v:V)(H':Hp):Prop :=
 (∃kvs k,H a=some (.dK kvs)/\y=kV k/\kvs.length<sizeLine/\H'=upd H a (.dK (dj kvs k v))) \/
 ∃kvs k b,H a=some (.dT kvs)/\y= .ref b/\H b=some (.tup (k.map kV))/\kvs.length<sizeLine/\H'=upd H a (.dT (dj kvs k v))
theorem gO.k{H:Hp}{a:Addr}{kvs:List (Key×V)}{k:Key}(e:H a=some (.dK kvs)):gO H a (kV k) (eS kvs k):= .inl ⟨kvs,k,.inl e,rfl,rfl⟩
theorem gO.t{H:Hp}{a b:Addr}{kvs:List (List Key×V)}{k:List Key}(e:H a=some (.dT kvs))(eb:H b=some (.tup (k.map kV))):gO H a (.ref b) (eS kvs k):= .inr ⟨kvs,k,b,.inl e,rfl,eb,rfl⟩
theorem nS.k{H:Hp}{a:Addr}{kvs:List (Key×V)}{k:Key}{v:V}(e:H a=some (.dK kvs))(hl:kvs.length<sizeLine):nS H a (kV k) v (upd H a (.dK (dj kvs k v))):= .inl ⟨kvs,k,e,rfl,hl,rfl⟩
theorem nS.t{H:Hp}{a b:Addr}{kvs:List (List Key×V)}{k:List Key}{v:V}(e:H a=some (.dT kvs))(eb:H b=some (.tup (k.map kV)))(hl:kvs.length<sizeLine) :
  nS H a (.ref b) v (upd H a (.dT (dj kvs k v))):= .inr ⟨kvs,k,b,e,rfl,eb,hl,rfl⟩
noncomputable section
variable{X:Cx}{pins:List (Addr×Obj)}{σ :St}{H:Hp}{s:Shared}{a:Addr}{y v:V}{u r:Value}{o:Option V}{A:Around}{E:Value->Shared->Prop}
theorem aA.big(I:aA X pins σ H s):sysModules<s.heap.objs.size:=by
 have h:mainGlobals<s.heap.objs.size:=(I.mod.glob.keeps I.bk).lt
 exact Nat.lt_trans (by decide) h
theorem rR{Q:Value->Shared->Prop}(hu:A.units+1<cLine)(I:aA X pins σ H s)(g:gO H a y (some v))(ry:aQ y u)(h:∀w' s',aA X pins σ H s'->aQ v w'->Q w' s') :
  wpAny .(E) A (getItem (.ref a) u) Q E s:=by
 rcases g with⟨kvs,k,e,ey,l⟩|⟨kvs,k,b,e,ey,eb,l⟩
 ·subst ey
  obtain⟨z,hd,vs,rel,dd⟩:=l4 I.hok e
  obtain⟨w',hw,rw'⟩:=fP.some_of (v:=v) (o:=valueAt vs k) (by rw[l];exact rel.val k)
  exact wpAny_getItem_of (kY ry) dd.mapOf hw (h w' _ (I.tok _) rw')
 ·subst ey
  cases (show u=Value.ref b from ry)
  obtain⟨z,hd,xs,rel,dd⟩:=l5 I.hok e
  obtain⟨w',hw,rw'⟩:=fP.some_of (v:=v) (o:=(atKey xs k).map (·.2)) (by rw[l];exact rel.val k)
  obtain⟨p,hp,hp2⟩:=Option.map_eq_some_iff.mp hw
  refine wpAny_getItem_heap (tupleKind_room_in1 hu) (jG I.hok eb) dd hp ?_
  rw[hp2]
  exact h w' _ (I.tok _) rw'
theorem y3{Q:Value->Shared->Prop}(hu:A.units+1<cLine)(I:aA X pins σ H s)(g:gO H a y o)(ry:aQ y u)(h:∀s',aA X pins σ H s'->Q (.bool (!o.isSome)) s') :
  wpAny .(E) A (compareOp .NotIn u (.ref a)) Q E s:=by
 rcases g with⟨kvs,k,e,ey,l⟩|⟨kvs,k,b,e,ey,eb,l⟩
 ·subst ey
  obtain⟨z,hd,vs,rel,dd⟩:=l4 I.hok e
  refine wpAny_notIn_of (kY ry) hd dd.mapOf ?_
  rw[<- (rel.val k).isSome_eq,<-l]
  exact h _ (I.tok _)
 ·subst ey
  cases (show u=Value.ref b from ry)
  obtain⟨z,hd,xs,rel,dd⟩:=l5 I.hok e
  refine wpAny_notIn_heap (tupleKind_room_in1 hu) (jG I.hok eb) hd dd ?_
  have q:=(rel.val k).isSome_eq
  rw[Option.isSome_map]at q
  rw[<-q,<-l]
  exact h _ (I.tok _)
theorem md{h':Heap}{t':Nat}{ob:HO}(I:aA X pins σ H s)(mu:CZ (H a))(hs:Heap.SameBut a s.heap h')(he:∃q,h'.get? a=some q)(new:bE X.prog X.w (upd H a ob) h' a ob) :
  aA X pins σ (upd H a ob) { s with heap:=h',toks:=t' } :=
 I.write (x:=a) (e:=a) mu (.inl rfl) (fun b q hb z=>(hs.2 b hb).trans z) he new
theorem dk_new{P:Program}{w:World}{H':Hp}{h':Heap}{kvs:List (Key×V)}{vs:List (Key×Value)}(z:kvs.length<=sizeLine)(hd:(a == sysModules)=false)(rel:KV kvs vs)(dd:h'.DictOf (bG P w) a vs) :
  bE P w H' h' a (.dK kvs):=⟨z,hd,vs,rel,dd⟩
theorem rS{H':Hp}{Q:Unit->Shared->Prop}(hu:A.units+1<cLine)(I:aA X pins σ H s)(g:nS H a y v H')(ry:aQ y u)(rv:aQ v r)(h:∀s',aA X pins σ H' s'->Q () s') :
  wpAny .(E) A (setItem (.ref a) u r) Q E s:=by
 rcases g with⟨kvs,k,e,ey,l,eH⟩|⟨kvs,k,b,e,ey,eb,l,eH⟩
 ·subst ey eH
  obtain⟨z,hd,vs,rel,dd⟩:=zt I.hok e
  have hz:vs.length<=sizeLine:=by rw[<-rel.length];exact z
  have hl:(dj kvs k v).length<=sizeLine:=by have:=fV kvs k v;omega
  refine wpAny_setItem_pairs (hsz:=hz) (kY ry) dd fun h' dd' hs=>h _ ?_
  have he:∃q,h'.get? a=some q:=let ⟨q,_,_,hq,_⟩:=dd';⟨q,hq⟩
  exact md I (by rw[e];exact True.intro) hs he (dk_new hl hd (rel.put k rv) dd')
 ·subst ey eH
  cases (show u=Value.ref b from ry)
  obtain⟨z,hd,xs,rel,dd⟩:=DU I.hok e
  have hz:xs.length<=sizeLine:=by rw[<-Paired.length rel];exact z
  have hl:(dj kvs k v).length<=sizeLine:=by have:=fV kvs k v;omega
  refine wpAny_setItem_heap (hsz:=hz) (tupleKind_room_in1 hu) (jG I.hok eb) dd fun h' dd' hs=>h _ ?_
  obtain⟨q,es,ep,hq,h2,h3,h4,_,h5⟩:=dd'
  refine md I (by rw[e];exact True.intro) hs ⟨q,hq⟩ ⟨hl,hd,_,(rel.put k eb rv).keeps fun c ys ec=> ?_,q,es,ep,hq,h2,h3,h4,h5⟩
  rw[aq (CY ec e (fun z=>nomatch z))]
  exact ec
end
noncomputable section
variable{X:Cx}{pins:List (Addr×Obj)}{σ :St}{H:Hp}{s:Shared}{a:Addr}{kvs:List (Key×V)}{k:Key}{u:Value}{A:Around}{E:Value->Shared->Prop}
end
def AL(i:Expr):Prop:=∀ov iv,subscripted i false ov iv=operate [ov,iv] (getItem ov iv)
theorem y4{prog:Program}{w:World}{A:Around}{E:Value->Shared->Prop}{s:Shared}{env:Env}{value slice:Expr}{pos:Pos}{T id:String}{Q:Value->Shared->Prop}
  (hl:typeLookup (.type T) "__getitem__"=pure (some (.builtin id))) (hs:AL slice)
  (h:wpAny (model prog w) A (eval value env) (fun o s₁=>wpAny (model prog w) A (eval slice env) (fun i s₂=>s₂.TypeIs o T/\wpAny (model prog w) A (getItem o i) Q E s₂) E s₁) E s) :
  wpAny (model prog w) A (eval (.Subscript value slice pos) env) Q E s:=by
 refine Subscript_ (wpAny_mono h (fun o s₁ h₁=>wpAny_mono h₁ (fun i s₂ h₂=> ?_) fun _ _ x=>x) fun _ _ x=>x)
 obtain⟨hT,h₂⟩:=h₂
 unfold subscriptTail
 refine wpAny_bind ?_
 rw[getitemInPython_of_ne hT.not_modules]
 refine wpAny_bind (wpAny_specialOf hT hl ?_)
 have fin:wpAny (model prog w) A (subscripted slice false o i) (fun r s₃ =>wpAny (model prog w) A (letTemporaryGo value o r >>= fun _=>pure r) Q E s₃) E s₂:=by
  rw[hs o i]
  exact wpAny_operating (wpAny_mono h₂ (fun r s₃ h₃ =>wpAny_bind (wpAny_letTemporaryGo (wpAny_pure h₃))) fun _ _ x=>x)
 first
  |exact wpAny_pure (wpAny_bind fin)
  |exact wpAny_bind (wpAny_pure (wpAny_bind fin))
  |exact wpAny_bind fin
theorem nT{X:Cx}{pins:List (Addr×Obj)}{σ :St}{H:Hp}{s:Shared}{a:Addr}{y:V}{o:Option V}(I:aA X pins σ H s)(g:gO H a y o):s.TypeIs (.ref a) "dict":=by
 rcases g with⟨kvs,k,e,_,_⟩|⟨kvs,k,b,e,_,_,_⟩
 ·obtain⟨_,_,vs,_,dd⟩:=l4 I.hok e
  exact dd.typeIs
 ·obtain⟨_,_,xs,_,dd⟩:=l5 I.hok e
  exact dd.typeIs
def DV(td ty:TE):TE:=fun σ H Q=>td σ H fun x H1=>ty σ H1 fun y H2=>∃a v,x= .ref a/\gO H2 a y (some v)/\Q v H2
def y6(ty td:TE):TE:=fun σ H Q=>ty σ H fun y H1=>td σ H1 fun x H2=>∃a o,x= .ref a/\gO H2 a y o/\Q (.bl (!o.isSome)) H2
def DW(td ty tv:TE):TS:=fun D σ H=>tv σ H fun v H1=>td σ H1 fun x H2=>ty σ H2 fun y H3=>∃a H4,x= .ref a/\nS H3 a y v H4/\D.nx σ H4
noncomputable section
variable{X:Cx}{o i e value:Expr}{pos pos' tpos:Pos}{td ty tv:TE}
theorem y7(hu:X.A.units+1<cLine)(ho:PE X o td)(hi:PE X i ty)(hs:AL i):PE X (.Subscript o i pos) (DV td ty):=by
 intro pins s σ H Q I h
 refine y4 PySem.F.slot_dict_getitem.lookup hs (bx (ho pins s σ H _ I h) fun u s1 ⟨x,H1,I1,rx,q1⟩=>bx (hi pins s1 σ H1 _ I1 q1) fun iv s2 ⟨y,H2,I2,ry,a,v,ex,g,q2⟩=> ?_)
 subst ex
 obtain rfl:u=Value.ref a:=rx
 exact⟨nT I2 g,rR hu I2 g ry fun w' s3 I3 rw'=>⟨v,H2,I3,rw',q2⟩⟩
theorem rV(hu:X.A.units+1<cLine)(hi:PE X i ty)(ho:PE X o td):PC X .NotIn i o (y6 ty td):=by
 intro pins s σ H Q I h
 refine bx (hi pins s σ H _ I h) fun iv s1 ⟨y,H1,I1,ry,q1⟩=>bx (ho pins s1 σ H1 _ I1 q1) fun u s2 ⟨x,H2,I2,rx,a,ov,ex,g,q2⟩=> ?_
 subst ex
 obtain rfl:u=Value.ref a:=rx
 exact y3 hu I2 g ry fun s3 I3=>⟨.bl (!ov.isSome),H2,I3,rfl,q2⟩
theorem qh(hu:X.A.units+1<cLine)(ho:PE X o td)(hi:PE X i ty)(hv:PE X value tv)(hs:swapsWith value (some (.Subscript o i pos')) pos.line X.env=pure false) :
  PS X (.Assign [.Subscript o i pos'] value pos) (DW td ty tv):=by
 intro pins s σ H D I h
 refine wpAny_Assign_Subscript (bx (hv pins s σ H _ I h) fun r s1 ⟨v,H1,I1,rv,q1⟩=>bx (ho pins s1 σ H1 _ I1 q1) fun u s2 ⟨x,H2,I2,rx,q2⟩=>bx (hi pins s2 σ H2 _ I2 q2) fun iv s3 ⟨y,H3,I3,ry,a,H4,ex,g,q3⟩=> ?_) hs
 subst ex
 obtain rfl:u=Value.ref a:=rx
 exact rS hu I3 g ry rv fun s4 I4=>⟨σ,H4,I4,q3⟩
end
theorem nU{P:Program}{w:World}{H:Hp}(h:Heap)(hb:sysModules<h.objs.size):bE P w H (h.push { cls:= .type "dict",data:= .dict #[] }) h.objs.size (.dK []) :=
 ⟨Nat.zero_le _,beq_eq_false_iff_ne.mpr (Ne.symm (Nat.ne_of_lt hb)),[],.nil,Heap.DictOf.new h⟩
theorem ux{P:Program}{w:World}{H:Hp}(h:Heap)(hb:sysModules<h.objs.size):bE P w H (h.push { cls:= .type "dict",data:= .dict #[] }) h.objs.size (.dT []) :=
 ⟨Nat.zero_le _,beq_eq_false_iff_ne.mpr (Ne.symm (Nat.ne_of_lt hb)),[],.nil,_, #[],0,Heap.get?_push_size _ rfl,⟨rfl,rfl,rfl⟩,rfl,rfl,List.nodup_nil⟩
def AM:TE:=fun _ H Q=>∀p,H p=none->Q (.ref p) (upd H p (.dK []))
def AN:TE:=fun _ H Q=>∀p,H p=none->Q (.ref p) (upd H p (.dT []))
noncomputable section
variable{X:Cx}{pos:Pos}
theorem uy:PE X (.Dict [] [] pos) AM:=fun pins s σ H Q I h =>
 wpAny_Dict_empty ⟨.ref s.heap.objs.size,_,I.laid (a:=s.heap.objs.size) (o:= .dK []) (t':=s.toks) (fun _ _ q=>Heap.get?_push_of_some _ q) .(Ac) (nU s.heap I.big),rfl,h _ (I.hok.fresh .(Ac))⟩
theorem uz:PE X (.Dict [] [] pos) AN:=fun pins s σ H Q I h =>
 wpAny_Dict_empty ⟨.ref s.heap.objs.size,_,I.laid (a:=s.heap.objs.size) (o:= .dT []) (t':=s.toks) (fun _ _ q=>Heap.get?_push_of_some _ q) .(Ac) (ux s.heap I.big),rfl,h _ (I.hok.fresh .(Ac))⟩
end
def p9:List (TE×TE)->St->Hp->(List (V×V)->Hp->Prop)->Prop
 |[],_,H,Q=>Q [] H
 | (tk,tv)::r, σ,H,Q=>tk σ H fun x H1=>tv σ H1 fun y H2=>p9 r σ H2 fun ps H3=>Q ((x,y)::ps) H3
abbrev VV:List (V×V)->List (Value×Value)->Prop:=Paired fun p q=>aQ p.1 q.1/\aQ p.2 q.2
def G8(X:Cx)(pos:Pos)(keys:List (Option Expr))(values:List Expr)(trs:List (TE×TE)):Prop :=
 ∀(pins:List (Addr×Obj)) (s:Shared) (σ :St) (H:Hp) (Q:List (V×V)->Hp->Prop),aA X pins σ H s->p9 trs σ H Q ->
  wpAny .(E) X.A (evalPairs (pairTrees keys values X.env pos)) (fun vs s'=>∃ps H',aA X pins σ H' s'/\VV ps vs/\Q ps H') X.xe s
theorem y8{X:Cx}{pos:Pos}:G8 X pos [] [] []:=fun pins s σ H Q I h=>pairTrees_nil_walk ⟨[],H,I,.nil,h⟩
theorem uA{X:Cx}{pos:Pos}{k v:Expr}{ks:List (Option Expr)}{vs:List Expr}{tk tv:TE}{trs:List (TE×TE)}(hk:PE X k tk)(hv:PE X v tv)(hr:G8 X pos ks vs trs) :
  G8 X pos (some k::ks) (v::vs) ((tk,tv)::trs):=fun pins s σ H Q I h =>
 pairTrees_cons_walk (bx (hk pins s σ H _ I h) fun u s1 ⟨x,H1,I1,rx,q1⟩=>bx (hv pins s1 σ H1 _ I1 q1) fun w2 s2 ⟨y,H2,I2,ry,q2⟩ =>
  bx (hr pins s2 σ H2 _ I2 q2) fun ws s3 ⟨ps,H3,I3,rel,q3⟩=>⟨(x,y)::ps,H3,I3,.cons ⟨rx,ry⟩ rel,q3⟩)
def jH(kvs more:List (Key×V)):List (Key×V):=more.foldl (fun acc kv=>dj acc kv.1 kv.2) kvs
theorem KV.merge:∀{more:List (Key×V)} {rs:List (Key×Value)} {kvs:List (Key×V)} {vs:List (Key×Value)},KV more rs->KV kvs vs->KV (jH kvs more) (merged vs rs):=by
 intro more rs kvs vs r
 unfold KV at r
 induction r generalizing kvs vs with
 |nil=>intro q;exact q
 | @cons p q ps qs h t ih =>
  intro r0
  have e:KV (dj kvs p.1 p.2) (stored vs q.1 q.2):=by
   have:=r0.put p.1 h.2
   rw[<-h.1];exact this
  exact ih e
theorem gH:∀(more kvs:List (Key×V)),(jH kvs more).length<=kvs.length+more.length
 |[],kvs=>by show kvs.length<=kvs.length+0;omega
 |p::r,kvs=>by
  have h1:=gH r (dj kvs p.1 p.2)
  have h2:=fV kvs p.1 p.2
  show(jH (dj kvs p.1 p.2) r).length<=_
  rw[List.length_cons];omega
theorem jI{P:Program}{w:World}:∀{kvs:List (Key×V)} {ws:List (Value×Value)},VV (kvs.map fun kv=>(kV kv.1,kv.2)) ws->∃rs,Carries (bG P w) ws rs/\KV kvs rs
 |[],_,r=>by rw[List.map_nil]at r;cases r;exact⟨[],True.intro,.nil⟩
 |p::kvs,_,r=>by
  rw[List.map_cons]at r
  cases r with
  | @cons a b as bs h t =>
   obtain⟨rs,c,q⟩:=jI (P:=P) (w:=w) t
   obtain⟨b1,b2⟩:=b
   exact⟨(p.1,b2)::rs,⟨kY h.1,rfl,c⟩,.cons ⟨rfl,h.2⟩ q⟩
def DX(trs:List (TE×TE)):TE:=fun σ H Q=>∀p,H p=none->p9 trs σ (upd H p (.dK [])) fun ps H2=>H2 p=some (.dK [])/\ ∃kvs:List (Key×V),ps=kvs.map (fun kv=>(kV kv.1,kv.2))/\kvs.length<=15/\Q (.ref p) (upd H2 p (.dK (jH [] kvs)))
theorem y9{X:Cx}{pos:Pos}{keys:List (Option Expr)}{values:List Expr}{trs:List (TE×TE)}(h:G8 X pos keys values trs)(hall:keys.all (·.isSome)=true)(hl:keys.length=values.length)(h0:keys≠[])
  (h15:keys.length<=15):PE X (.Dict keys values pos) (DX trs):=by
 intro pins s σ H Q I q
 have hn:=I.hok.fresh (Nat.le_refl s.heap.objs.size)
 have I1:=I.laid (a:=s.heap.objs.size) (o:= .dK []) (h':=s.heap.push { cls:= .type "dict",data:= .dict #[] }) (t':=s.toks) (fun _ _ q=>Heap.get?_push_of_some _ q) .(Ac) (nU s.heap I.big)
 refine wpAny_Dict_walk (knd:=bG X.prog X.w) hall hl h0 h15 (bx (h pins _ σ _ _ I1 (q _ hn)) fun ws s2 ⟨ps,H2,I2,rel,e,kvs,ep,lk,q2⟩=> ?_)
 subst ep
 obtain⟨rs,c,rk⟩:=jI (P:=X.prog) (w:=X.w) rel
 obtain⟨z,hd,vs0,r0,dd⟩:=zt I2.hok e
 cases r0
 refine⟨rs,c,dd,fun h' dd' hs=>⟨.ref s.heap.objs.size,_,?_,rfl,q2⟩⟩
 have hz:(jH [] kvs).length<=sizeLine:=by
  have h1:=gH kvs []
  rw[List.length_nil]at h1
  rw[sizeLine_eq];omega
 have he:∃q,h'.get? s.heap.objs.size=some q:=let ⟨q,_,_,hq,_⟩:=dd';⟨q,hq⟩
 exact md I2 (by rw[e];exact True.intro) hs he (dk_new hz hd (rk.merge .nil) dd')
structure M2(X:Cx)(o:Expr)(m:Str)(apos:Pos)(e f:Expr)(cpos:Pos):Prop where
 base:attributeBase o m X.env (eval o X.env)=eval o X.env
 few:((backTo cpos (starEach [e,f] X.env)).all (fun x=> !x.1) && (backToKw cpos (keywordEach [] X.env)).all (fun x=>x.1.isSome)
  && decide (([e,f]:List Expr).length+([]:List Keyword).length+(if ([]:List Keyword).isEmpty then 0 else 1)<30))=true
 line:(apos.endLine == cpos.line)=true
 trees:backTo cpos (starEach [e,f] X.env)=[.(U),(false,eval f X.env)]
def JH(H:Hp)(a:Addr):Prop:=(∃kvs,Rd H a (.dK kvs))\/ ∃kvs,Rd H a (.dT kvs)
theorem AO{X:Cx}{pins:List (Addr×Obj)}{σ :St}{H:Hp}{s:Shared}{a:Addr}(I:aA X pins σ H s)(d:JH H a) :
  s.TypeIs (.ref a) "dict"/\(∀b,Value.ref a= .ref b->∃ob,s.heap.get? b=some ob/\ob.dict=none)/\(a == sysModules)=false:=by
 rcases d with⟨kvs,e⟩|⟨kvs,e⟩
 ·obtain⟨_,hd,vs,_,dd⟩:=l4 I.hok e
  refine⟨dd.typeIs,fun b q=> ?_,hd⟩
  cases q
  obtain⟨ob,_,_,h1,h2,_⟩:=dd
  exact⟨ob,h1,h2.2.1⟩
 ·obtain⟨_,hd,xs,_,dd⟩:=l5 I.hok e
  refine⟨dd.typeIs,fun b q=> ?_,hd⟩
  cases q
  obtain⟨ob,_,_,h1,h2,_⟩:=dd
  exact⟨ob,h1,h2.2.1⟩
noncomputable section
variable{X:Cx}{pins:List (Addr×Obj)}{σ :St}{H:Hp}{s:Shared}{a:Addr}{y d:V}{u r:Value}{o:Option V}{A:Around}{E:Value->Shared->Prop}
theorem AQ{Q:Value->Shared->Prop}(hu:A.units+1<cLine)(I:aA X pins σ H s)(g:gO H a y o)(ry:aQ y u)(rd:aQ d r)(h:∀w' s',aA X pins σ H s'->aQ (o.getD d) w'->Q w' s') :
  wpAny .(E) A (call (.builtin "dict.get") [.ref a,u,r]) Q E s:=by
 rcases g with⟨kvs,k,e,ey,l⟩|⟨kvs,k,b,e,ey,eb,l⟩
 ·subst ey
  obtain⟨z,hd,vs,rel,dd⟩:=l4 I.hok e
  refine call_meetsIn PySem.F.slot_dict_get dd.typeIs PySem.F.entry_dict_get (PySem.F.args_dict_get_3 _ _ _) (meets_dict_get_default (bG X.prog X.w) a (kY ry) hd r) ⟨_,dd.mapOf,h _ _ (I.tok _) ?_⟩
  rw[l]
  exact(rel.val k).getD rd
 ·subst ey
  cases (show u=Value.ref b from ry)
  obtain⟨z,hd,xs,rel,dd⟩:=l5 I.hok e
  refine call_meetsIn PySem.F.slot_dict_get dd.typeIs PySem.F.entry_dict_get (PySem.F.args_dict_get_3 _ _ _) (meetsH_dict_get_default (tupleKind (bG X.prog X.w)) a b hd r) ⟨tupleKind_room_in1 hu,k,xs,jG I.hok eb,dd,h _ _ (I.tok _) ?_⟩
  rw[l]
  exact(rel.val k).getD rd
end
def AR(td ty tx:TE):TE:=fun σ H Q=>td σ H fun x H1=>∃a,x= .ref a/\JH H1 a/\ty σ H1 fun y H2=>tx σ H2 fun z H3=>∃o,gO H3 a y o/\Q (o.getD z) H3
noncomputable section
variable{X:Cx}{o e f:Expr}{apos cpos:Pos}{td ty tx:TE}
theorem uB(hu:X.A.units+1<cLine)(ho:PE X o td)(he:PE X e ty)(hf:PE X f tx)(m:M2 X o "get" apos e f cpos):PE X (.Call (.Attribute o "get" apos) [e,f] [] cpos) (AR td ty tx):=by
 intro pins s σ H Q I h
 refine wpAny_Call_method m.base m.few m.line PySem.F.plainAttrs_dict PySem.F.slot_dict_get PySem.F.type_dict_get (bx (ho pins s σ H _ I h) fun u s1 ⟨x,H1,I1,rx,a,ex,d,q1⟩=> ?_)
 subst ex
 obtain rfl:u=Value.ref a:=rx
 obtain⟨t1,t2,_⟩:=AO I1 d
 refine⟨t1,t2,?_⟩
 rw[m.trees]
 refine Calls.callWith_builtin rfl (Calls.evalArgs_plain (Calls.spliced_cons (bx (he pins s1 σ H1 _ I1 q1) fun iv s2 ⟨y,H2,I2,ry,q2⟩ =>
  Calls.spliced_cons (bx (hf pins s2 σ H2 _ I2 q2) fun fv s3 ⟨z,H3,I3,rz,ov,g,q3⟩=>Calls.spliced_nil ?_))))
 exact AQ hu I3 g ry rz fun w' s4 I4 rw'=>⟨_,H3,I4,rw',q3⟩
end
noncomputable section
variable{X:Cx}{pins:List (Addr×Obj)}{σ :St}{H:Hp}{s:Shared}{a:Addr}{kvs:List (Key×V)}{A:Around}{E:Value->Shared->Prop}
end
noncomputable section
variable{X:Cx}{pins:List (Addr×Obj)}{σ :St}{H:Hp}{s:Shared}{a:Addr}{y:V}{u:Value}{A:Around}{E:Value->Shared->Prop}
end
end L2
namespace L2
open PySem PySem.Spec PyProof.Rows
noncomputable section
variable{X:Cx}
end
noncomputable section
variable{κ :Type}[DecidableEq κ]
end
end L2
end
noncomputable section
namespace L2
open PySem PySem.Spec PyProof.Rows
structure me(P:Program)(w:World)(K:Fg)(mg:Str->Option Value)(base:Bs)(CX:jF)(k:Nat)(C:Addr)(m:Str)(sp:Sp):Prop where
 cl:kO K C
 ex:∃(f:Addr) (fd:FuncData) (ps:List Str),cO K C m f/\cN P w K mg base CX k f fd ps sp/\bw K fd ps []
noncomputable section
variable{X:Cx}{CX:jF}{k:Nat}{E:XK}{m:Str}{pos apos:Pos}{e o:Expr}{es:List Expr}{ta:TE}{t:TA}
def pb{ι :Type}(R: ι ->Addr)(m:Str)(sp: ι ->Sp)(E:XK)(ta:TE)(t:TA):TE:=fun σ H Q=>ta σ H fun x H1=>∃i a dx fs,x= .ref a/\H1 a=some (.ins (R i) dx fs)/\fs.lookup m=none /\
 t σ H1 fun vs H2=>sp i (x::vs) H2 Q E
theorem uC{ι :Type}{R: ι ->Addr}{sp: ι ->Sp}{pl:Sem Bool}(he:PE X o ta)(hR:∀i,me X.prog X.w X.K X.mg X.base CX k (R i) m (sp i))(hr:br k X.A)(hx:eF CX X E)(ha:PA X (e::es) t)
  (hst:starEach (e::es) X.env=.(U)::starEach es X.env:=by rfl) (hpl:.(W).any (·.1)=false:=by rfl)
  (ht:eval .(AD) X.env=(do
   let ov <- eval o X.env
   standAt apos.atName
   let (f,first) <- holding [ov] (getMethod ov m pl)
   callWith pos f first (backTo pos (starEach (e::es) X.env)) (backToKw pos (keywordEach [] X.env))):=by rfl) :
  PE X .(AD) (pb R m sp E ta t):=by
 intro pins s σ H Q I h
 refine PySem.W.methodCall_KW (pl:=pl) (bx (he pins s σ H _ I h) fun u s1 ⟨x,H1,I1,rx,i,a,dx,fs,ex,ea,l,q⟩=> ?_) ht
 subst ex
 obtain rfl:u=Value.ref a:=rx
 obtain⟨c,f,fd,ps,hm,F,hb⟩:=hR i
 refine jE I1 ea c hm l ?_
 refine PySem.W.callWith_K (first:=[.ref a]) (h₀:=X.base) I.ok.mod.kin hm.kp (bx (ha pos pins s1 σ H1 _ I1 q) fun us s2 ⟨vs,H2,I2,r,q2⟩=>⟨I2.kIn,?_⟩) hst hpl
 exact p5 (us:= .ref a::us) (vs:= .ref a::vs) (dvs:=[]) (ds:=[]) F hr hb .nil hx I2 (.cons rfl r) (by rw[List.append_nil];exact q2)
theorem rW{ι :Type}{R: ι ->Addr}{sp: ι ->Sp}{pl:Sem Bool}(he:PE X o ta)(hR:∀i,me X.prog X.w X.K X.mg X.base CX k (R i) m (sp i))(hr:br k X.A)(hx:eF CX X E)
  (ht:eval (.Call (.Attribute o m apos) [] [] pos) X.env=(do
   let ov <- eval o X.env
   standAt apos.atName
   let (f,first) <- holding [ov] (getMethod ov m pl)
   callWith pos f first (backTo pos (starEach [] X.env)) (backToKw pos (keywordEach [] X.env))):=by rfl) :
  PE X (.Call (.Attribute o m apos) [] [] pos) (pb R m sp E ta DC):=by
 intro pins s σ H Q I h
 refine PySem.W.methodCall_KW (pl:=pl) (bx (he pins s σ H _ I h) fun u s1 ⟨x,H1,I1,rx,i,a,dx,fs,ex,ea,l,q⟩=> ?_) ht
 subst ex
 obtain rfl:u=Value.ref a:=rx
 obtain⟨c,f,fd,ps,hm,F,hb⟩:=hR i
 refine jE I1 ea c hm l ?_
 exact PySem.W.callWith_K0 (first:=[.ref a]) I1.kIn hm.kp (p5 (us:=[.ref a]) (vs:=[.ref a]) (dvs:=[]) (ds:=[]) F hr hb .nil hx I1 (.cons rfl .nil) (by rw[List.append_nil];exact q))
end
noncomputable section
variable{X:Cx}
theorem ya{x:Str}{n:String}{pos:Pos}(hg:Gl X x)(hm:X.mg x=none)(hv:bootBuiltins x=some (.type n))(hn:x ≠ "__name__":=by decide)(hd:(x == .(L))=false:=by decide):PE X (.Name x pos) (tC (.ty n)) :=
 xC hg hm hv rfl hn hd
end
structure AS(K:Fg)(C:Addr):Prop where
 makes:PySem.W.makesIn K C=true
 init:PySem.W.findIn K (.ref C) "__init__"=some (some (.builtin "object.__init__"))
 kp:PySem.W.keepIn K (.ref C)=true
noncomputable section
variable{X:Cx}{C:Addr}{x:Str}{p pos:Pos}
def AT(C:Addr):TE:=fun _ H Q=>∀x dx,H x=none->H dx=none->dx≠x->Q (.ref x) (upd (upd H dx (.own x)) x (.ins C dx []))
theorem rX{pins:List (Addr×Obj)}{σ :St}{H:Hp}{s:Shared}{Q:VK}(M:AS X.K C)(I:aA X pins σ H s)
  (h:∀x dx,H x=none->H dx=none->dx≠x->Q (.ref x) (upd (upd H dx (.own x)) x (.ins C dx []))) :
  wpAny .(E) X.A (call (.ref C) []) (EP X pins σ Q) X.xe s:=by
 have hq:=h .(T) s.heap.objs.size (I.hok.fresh (Nat.le_succ _)) (I.hok.fresh .(Ac)) (Nat.ne_of_lt (Nat.lt_succ_self _))
 have I2:=aA.made (C:=C) I
 have Y:=PySem.W.makes_of (M:=model X.prog X.w) I.kIn M.makes
 refine wpAny_call (rH I.kIn M.makes M.init (fun self=>PySem.W.Looks.of_pure (PySem.W.oi_bind self)) ?_)
 have e2:(.(AH).push (PySem.W.instObj C s.heap.objs.size)).get? .(T)=some (PySem.W.instObj C s.heap.objs.size):=by
  have:=Heap.get?_push_size .(AH) (o:=PySem.W.instObj C s.heap.objs.size) rfl
  rwa [Heap.size_push]at this
 have t1:PySem.W.Looks .(E) (.(AH).push (PySem.W.instObj C s.heap.objs.size)) (typeOf (.ref .(T))) (.ref C):=(PySem.W.Looks.ld e2).andThen .now
 have t2:PySem.W.Looks .(E) (.(AH).push (PySem.W.instObj C s.heap.objs.size)) (isInstance (.ref .(T)) (.type "object")) true:=t1.andThen (Y.top.keeps fun b o e=>Heap.get?_push_of_some _ (Heap.get?_push_of_some _ e))
 refine codeAny_call_builtin PySem.W.oi_plain PySem.W.entry_oi (@PySem.W.check_slot .(E) _ _ _ "object.__init__" "object" "__init__" (.ref .(T)) [] [] _ PySem.W.oi_kind PySem.W.oi_split t2 (PySem.W.oi_args (.ref .(T))) ?_)
 rw[PySem.W.oi_run]
 exact wpAny_pure (And.intro rfl ⟨V.ref .(T),_,I2,rfl,hq⟩)
theorem rY(M:AS X.K C)(hg:Gl X x)(hm:X.mg x=some (.ref C))(hdb:(x == .(L))=false:=by decide):PE X (.Call (.Name x p) [] [] pos) (AT C):=by
 intro pins s σ H Q I h
 refine wpAny_Call_Name_kw (hU I hg hm ?_ hdb)
 exact PySem.W.callWith_K0 I.kIn M.kp (rX M I h)
end
noncomputable def clos(env:Env):List (Str×NameKind)->List (Str×Addr)->List (Str×Addr)
 |[],cs=>cs
 | (n,k)::r,cs=>clos env r (if k == .free then(match env.cells.lookup n with|some a=>(n,a)::cs|none=>cs) else cs)
theorem qi(env:Env):∀(ns:List (Str×NameKind)) (cs:List (Str×Addr)),(∀y∈ns,y.2= .free->∃c,env.cells.lookup y.1=some c) ->
  (forIn ns cs fun(x:Str×NameKind) (r:List (Str×Addr))=>(if (x.2 == .free)=true then do let a <- cellOf env x.1;pure (ForInStep.yield ((x.1,a)::r)) else pure (ForInStep.yield r):Sem (ForInStep (List (Str×Addr)))))=pure (clos env ns cs)
 |[],cs,_=>rfl
 | (n,k)::r,cs,h=>by
  have ih:=qi env r
  rw[List.forIn_cons]
  by_cases hk:k= .free
  ·subst hk
   obtain⟨c,e⟩:=h (n,.free) List.mem_cons_self rfl
   have e':env.cells.lookup n=some c:=e
   simp only[beq_self_eq_true,if_true,cellOf,e',pure_bind,clos]
   exact ih _ fun y hy=>h y (List.mem_cons_of_mem _ hy)
  ·have hb:(k == NameKind.free)=false:=by simpa using hk
   simp only[hb,Bool.false_eq_true,if_false,pure_bind,clos]
   exact ih _ fun y hy=>h y (List.mem_cons_of_mem _ hy)
theorem eG{scope:Scope}{env:Env}(h:∀y∈scope.names,y.2= .free->∃c,env.cells.lookup y.1=some c):closureFor scope env=pure (clos env scope.names []):=by
 have q:=qi env scope.names [] h
 simp only[closureFor]
 first
  | (rw[q];rfl)
  | (refine Eq.trans (congrArg (fun z=>z >>= fun cs=>pure cs) q) ?_;rfl)
theorem ie{env:Env}{x:Str}{c:Addr}:∀{ns:List (Str×NameKind)} {cs:List (Str×Addr)},(clos env ns cs).lookup x=some c->cs.lookup x=some c\/env.cells.lookup x=some c
 |[],cs,h=> .inl h
 | (n,k)::r,cs,h=>by
  have ih:=ie (ns:=r) h
  rcases ih with ih|ih
  ·by_cases hk:(k == NameKind.free)=true
   ·rw[if_pos hk]at ih
    cases e:env.cells.lookup n with
    |none=>rw[e]at ih;exact .inl ih
    |some a =>
     rw[e]at ih
     by_cases hx:x == n
     ·have hx':x=n:=by simpa using hx
      subst hx'
      simp at ih
      subst ih
      exact .inr e
     ·simp only[List.lookup_cons,hx]at ih
      exact .inl ih
   ·rw[if_neg hk]at ih
    exact .inl ih
  ·exact .inr ih
theorem jJ{env:Env}{x:Str}{c:Addr}(hc:env.cells.lookup x=some c):∀{ns:List (Str×NameKind)} {cs:List (Str×Addr)},cs.lookup x=some c->(clos env ns cs).lookup x=some c
 |[],cs,h=>h
 | (n,k)::r,cs,h=>by
  refine jJ hc (ns:=r) ?_
  by_cases hk:(k == NameKind.free)=true
  ·rw[if_pos hk]
   cases e:env.cells.lookup n with
   |none=>exact h
   |some a =>
    by_cases hx:x == n
    ·have hx':x=n:=by simpa using hx
     subst hx'
     rw[hc]at e
     cases e
     simp
    ·simp only[List.lookup_cons,hx]
     exact h
  ·rw[if_neg hk]
   exact h
theorem ig{env:Env}{x:Str}{c:Addr}(hc:env.cells.lookup x=some c):∀{ns:List (Str×NameKind)} {cs:List (Str×Addr)},(x,NameKind.free)∈ns->(clos env ns cs).lookup x=some c
 |[],cs,h=>by simp at h
 | (n,k)::r,cs,h=>by
  rcases List.mem_cons.mp h with h|h
  ·cases h
   refine jJ hc (ns:=r) ?_
   simp[hc]
  ·exact ig hc (ns:=r) h
theorem fj{scope:Scope}{env:Env}{x:Str}:∀{ns:List (Str×NameKind)} {k:NameKind},
  .(AK).lookup x=some k->(k= .cell\/k= .free)->(∀y∈ns,y.2 ≠ .cell)->(x,NameKind.free)∈ns
 |[],_,h,_,_=>by simp at h
 | (n,j)::r,k,h,hk,nc=>by
  by_cases hx:x == n
  ·have hx':x=n:=by simpa using hx
   subst hx'
   have hj:j ≠ .cell:=nc _ List.mem_cons_self
   by_cases hc:(j == NameKind.free && env.scope.kind == .function && env.kindOf x == some .cell)=true
   ·have:j= .free:=by
     have:=(Bool.and_eq_true_iff.mp (Bool.and_eq_true_iff.mp hc).1).1
     simpa using this
    subst this
    exact List.mem_cons_self
   ·simp only[List.map_cons,hc,if_neg,Bool.false_eq_true,not_false_eq_true,List.lookup_cons,beq_self_eq_true]at h
    have:j=k:=by simpa using h
    subst this
    rcases hk with hk|hk
    ·exact absurd hk hj
    ·subst hk;exact List.mem_cons_self
  ·refine List.mem_cons_of_mem _ (fj (scope:=scope) (env:=env) (ns:=r) (k:=k) ?_ hk fun y hy=>nc y (List.mem_cons_of_mem _ hy))
   simp only[List.map_cons]at h
   by_cases hc:(j == NameKind.free && env.scope.kind == .function && env.kindOf n == some .cell)=true
   ·rw[if_pos hc]at h
    simpa only[List.lookup_cons,hx]using h
   ·rw[if_neg hc]at h
    simpa only[List.lookup_cons,hx]using h
theorem ii{env:Env}{x:Str}:∀{ns:List (Str×NameKind)},ns.lookup x=some .free ->
  .(AK).lookup x=some .cell \/
  .(AK).lookup x=some .free
 |[],h=>by simp at h
 | (n,j)::r,h=>by
  by_cases hx:x == n
  ·have hx':x=n:=by simpa using hx
   subst hx'
   have:j= .free:=by simpa using h
   subst this
   by_cases hc:(NameKind.free == NameKind.free && env.scope.kind == .function && env.kindOf x == some .cell)=true
   ·left;simp only[List.map_cons];rw[if_pos hc];simp
   ·right;simp only[List.map_cons];rw[if_neg hc];simp
  ·have h':r.lookup x=some .free:=by simpa only[List.lookup_cons,hx]using h
   have ih:=ii (env:=env) (ns:=r) h'
   simp only[List.map_cons]
   by_cases hc:(j == NameKind.free && env.scope.kind == .function && env.kindOf n == some .cell)=true
   ·rw[if_pos hc];simpa only[List.lookup_cons,hx]using ih
   ·rw[if_neg hc];simpa only[List.lookup_cons,hx]using ih
end L2
end
noncomputable section
namespace L2
open PySem PySem.Spec PyProof.Rows
abbrev gI(X:Cx)(scope:Scope)(C:Addr)(N':List Str)(s₀:Shared)(H₀:Hp)(fp:List Addr):Cx :=
 { X with N:=N',s₀:=s₀,H₀:=H₀,env:=compEnvC scope (clos X.env scope.names []) C X.env,outer:=X.stack,stack:=X.stack,ex:=fp,fn:=fun _=>false,cw:=fun _=>false,pn:=[],xe:=fun _ _=>False }
def jK(X:Cx)(scope:Scope):List (Str×Nat)->Prop
 |[]=>True
 |p::r=>(scope.names.lookup p.1=some .free/\X.N[p.2]? =some p.1/\(X.env.scope.names.lookup p.1=some .cell\/X.env.scope.names.lookup p.1=some .free))/\jK X scope r
theorem jK.mem{X:Cx}{scope:Scope}:∀{l:List (Str×Nat)},jK X scope l->∀p∈l,scope.names.lookup p.1=some .free/\X.N[p.2]? =some p.1/\(X.env.scope.names.lookup p.1=some .cell\/X.env.scope.names.lookup p.1=some .free)
 |[],_,p,h=>by simp at h
 |q::r,h,p,hp=>by
  rcases List.mem_cons.mp hp with e|e
  ·rw[e];exact h.1
  ·exact jK.mem h.2 p e
def mf(X:Cx)(names:List (Str×NameKind)):Prop:=(names.all fun y=>y.2 != .free || X.env.scope.names.lookup y.1 == some .cell || X.env.scope.names.lookup y.1 == some .free)=true
theorem mf.mem{X:Cx}{l:List (Str×NameKind)}(h:mf X l):∀y∈l,y.2= .free->(X.env.scope.names.lookup y.1=some .cell\/X.env.scope.names.lookup y.1=some .free):=fun y hy e=>by
 have q:=List.all_eq_true.mp h y hy
 rw[e]at q
 have q':((X.env.scope.names.lookup y.1 == some .cell) || (X.env.scope.names.lookup y.1 == some .free))=true:=q
 rcases Bool.or_eq_true_iff.mp q' with z|z
 ·exact .inl (eq_of_beq z)
 ·exact .inr (eq_of_beq z)
structure dH(X:Cx)(scope:Scope)(own:List Str)(caps:List (Str×Nat)):Prop where
 kind:scope.kind= .function
 nocell:∀y∈scope.names,y.2 ≠ .cell
 names:∀y∈scope.names,y.2= .local->scope.names.lookup y.1=some .local
 caps:jK X scope caps
 frees:mf X scope.names
abbrev cy(own:List Str)(caps:List (Str×Nat)):List Str:=own++caps.map (·.1)
abbrev mh(own:List Str)(caps:List (Str×Nat))(σ :St):St:=List.replicate own.length none++caps.map fun p=>(σ[p.2]?).getD none
theorem ik{prog:Program}{w:World}{A:Around}{R:Result->Shared->Prop}{s:Shared}{elt target iter:Expr}{ifs:List Expr}{scope:Scope}{pos:Pos}{it acc:Value}{env:Env}(I:Nat->Shared->Prop)
  (turn:∀n s,I n s->wpAny (model prog w) A (pyNext it) (fun r s₁=>match r with
   |none=>R (.ok .next) s₁
   |some v=>wpAny (model prog w) A (letOwnedTupleGo target it v) (fun _ s₁'=>wpAny (model prog w) A (assign target env v) (fun _ s₂ =>
     wpAny (model prog w) A (forIn ifs true fun c r=>if r=true then do let ok <- isTrue c env (eval c env);pure (ForInStep.yield ok) else pure (ForInStep.yield r)) (fun ok s₃ =>
      if ok=true then wpAny (model prog w) A (eval elt env) (fun x s₄ =>
       wpAny (model prog w) A (call (.builtin "list.append") [acc,x]) (fun _ s₅ =>∃m,m<n/\I m s₅) (fun _ _=>False) s₄) (fun _ _=>False) s₃
      else ∃m,m<n/\I m s₃) (fun _ _=>False) s₂) (fun _ _=>False) s₁') (fun _ _=>False) s₁) (fun _ _=>False) s)
  (n:Nat) (h:I n s) :
  codeAny (model prog w) A (.compLoop (.ListComp elt [⟨target,iter,ifs,0⟩] scope pos) 0 it acc env) R s:=by
 refine codeAny_loop rfl I (fun n s hI=> ?_) n h
 show wpAny _ A ((compTurn (.ListComp elt [⟨target,iter,ifs,0⟩] scope pos) 0 it acc env).onRaise (fun x=>do noteFrame x env;theTreesLotGoes x)) _ _ s
 refine wpAny_noted ?_
 rw[compTurn_list]
 refine wpAny_bind (wpAny_standAt (wpAny_bind (wpAny_mono (turn n s hI) (fun r s₁ h₁=> ?_) fun _ _ h'=>h'.elim)))
 cases r with
 |none=>exact wpAny_pure h₁
 |some v =>
  refine wpAny_bind (wpAny_mono h₁ (fun _ s₁' h₁'=> ?_) fun _ _ h'=>h'.elim)
  refine wpAny_bind (wpAny_mono h₁' (fun _ s₂ h₂=>wpAny_bind (wpAny_mono h₂ (fun ok s₃ h₃ => ?_) fun _ _ h'=>h'.elim)) fun _ _ h'=>h'.elim)
  cases ok with
  |false=>exact wpAny_pure ⟨rfl,h₃⟩
  |true =>
   exact wpAny_bind (wpAny_bind (wpAny_mono h₃ (fun x s₄ h₄ =>wpAny_bind (wpAny_mono h₄ (fun _ s₅ h₅ =>wpAny_pure (wpAny_pure ⟨rfl,h₅⟩)) fun _ _ h'=>h'.elim)) fun _ _ h'=>h'.elim))
noncomputable section
variable{X:Cx}{pins:List (Addr×Obj)}{σ :St}{H:Hp}{s s1:Shared}{scope:Scope}{own:List Str}{caps:List (Str×Nat)}{fp:List Addr}
theorem aA.block{h1:Heap}{tk:Nat}(I:aA X pins σ H s)(S:dH X scope own caps)(hf:∀b∈fp,iK X pins H b)
  (hns:h1.Ns s.heap.objs.size fun _=>none) (hk:∀b o,s.heap.get? b=some o->h1.get? b=some o) (hfl:∀b∈fp,b<s.heap.objs.size) :
  aA (gI X scope s.heap.objs.size (cy own caps) s H fp) [] (mh own caps σ) H { s with heap:=h1,toks:=tk }:=by
 have hfree:∀y∈scope.names,y.2= .free->∃c,X.env.cells.lookup y.1=some c:=fun y hy e=>I.ok.has _ (S.frees.mem y hy e)
 have sub:∀x c,(clos X.env scope.names []).lookup x=some c->X.env.cells.lookup x=some c:=fun x c e=>by
  rcases ie e with z|z
  ·simp at z
  ·exact z
 have celT:∀{c:Addr} {v:Option Value},s.heap.IsCell c v->h1.IsCell c v:=fun {c v} ⟨o,ho,hd⟩=>⟨o,hk _ _ ho,hd⟩
 refine⟨⟨I.ok.mod,?_,I.ok.glob,I.ok.blt,Nat.le_refl _,fun y z c e1 e2=>I.ok.inj y z c (sub _ _ e1) (sub _ _ e2),fun y hy=> ?_,(fun y c e=>(nomatch e)),I.ok.hd,I.ok.frames,.inl rfl,fun b hb=>⟨Nat.ne_of_lt (hfl b hb),fun x c e=>(hf b hb).2.2.2.2.1 x c (sub x c e)⟩,
   I.bs,Nat.le_trans I.ok.bsz I.sz,fun b o e hb=> ?_,fun b hb z=> ?_,I.stack,I.stkFree,fun P z=>I.base.tbls P 0 (I.ok.tab P z),fun _ z=>z⟩,
  rfl,I.bare,Un.kept hk,⟨_,hns,fun i y v e1 e2 e3=> ?_⟩,fun y c e=> ?_,I.hok.fresh .(Ac),fun y c e=>(I.freeC y c (sub y c e)).imp id fun⟨_,z⟩=>⟨rfl,z⟩,fun p hp=>absurd (show p∈([]:List (Addr×Obj)) from hp) (by simp),I.hok.kept hk,?_⟩
 ·exact S.kind
 ·have hy:(relabel scope X.env).names.lookup y=some .cell\/(relabel scope X.env).names.lookup y=some .free:=hy
  have m:(y,NameKind.free)∈scope.names:=by
   rcases hy with z|z
   ·exact fj (scope:=scope) (env:=X.env) z (.inl rfl) S.nocell
   ·exact fj (scope:=scope) (env:=X.env) z (.inr rfl) S.nocell
  obtain⟨c,e⟩:=hfree _ m rfl
  exact⟨c,ig e m⟩
 ·rcases(hf b hb).2.2.2.1 with z|z
  ·exact I.ok.noex b o e z
  ·exact absurd (Nat.lt_of_lt_of_le (Heap.lt_size e) (Nat.le_trans I.ok.bsz z)) (Nat.lt_irrefl _)
 ·rcases List.mem_cons.mp (I.stkSub b z)with q|q
  ·exact(hf b hb).2.1 q
  ·exact(hf b hb).2.2.1 q
 ·-- a captured name
  have hi:own.length<=i:=by
   rcases Nat.lt_or_ge i own.length with q|q
   ·rw[List.getElem?_append_left (by simpa using q),List.getElem?_replicate,if_pos q]at e2
    cases e2
   ·exact q
  rw[List.getElem?_append_right hi,List.getElem?_map]at e1
  rw[List.getElem?_append_right (by simpa using hi),List.length_replicate,List.getElem?_map]at e2
  cases ep:caps[i-own.length]? with
  |none=>rw[ep]at e1;cases e1
  |some p =>
   rw[ep]at e1 e2
   have ey:p.1=y:=Option.some.inj e1
   subst ey
   obtain⟨f1,f2,f3⟩:=S.caps.mem p (List.mem_of_getElem? ep)
   have eσ : σ[p.2]? =some (some v):=by
    have e2':(σ[p.2]?).getD none=some v:=Option.some.inj e2
    cases q: σ[p.2]? with
    |none=>rw[q]at e2';cases e2'
    |some o=>rw[q]at e2';exact congrArg some e2'
   obtain⟨m,_,hl⟩:=I.loc
   obtain⟨u,ru,L⟩:=hl p.2 p.1 v f2 eσ (f3.elim (fun z=> .inr (.inl z)) fun z=> .inr (.inr z))
   refine⟨u,ru,.inr ⟨ii f1,?_⟩⟩
   rcases L with⟨L,_⟩|⟨_,c,e,ic⟩
   ·have L:X.env.scope.names.lookup p.1=some .local:=L
    rcases f3 with z|z <;> (rw[z]at L;cases L)
   ·exact⟨c,ig e (PySem.mem_of_lookup f1),celT ic⟩
 ·obtain⟨v,z⟩:=I.cell y c (sub y c e)
  exact⟨v,celT z⟩
 ·show(mh own caps σ).length=(cy own caps).length
  simp
def DY(X:Cx)(ifs:List Expr)(t:TT):Prop:=∀(pins:List (Addr×Obj)) (s:Shared) (σ :St) (H:Hp) (Q:Bool->Hp->Prop),aA X pins σ H s->t σ H Q ->
 wpAny .(E) X.A (forIn ifs true fun c r=>if r=true then do let ok <- isTrue c X.env (eval c X.env);pure (ForInStep.yield ok) else pure (ForInStep.yield r)) (TP X pins σ Q) X.xe s
def Hg:TT:=fun _ H Q=>Q true H
theorem yb{X:Cx}:DY X [] Hg:=fun _ _ _ H _ I h=>wpAny_tests_nil ⟨H,I,h⟩
theorem yc{X:Cx}{c:Expr}{t:TT}(h:PT X c t):DY X [c] t:=fun pins s σ H Q I hq=>wpAny_tests_one (h pins s σ H Q I hq)
def uD(own:List Str)(caps:List (Str×Nat))(g:TG)(tc:TT)(te:TE)(σ :St)(Q:VK)(J:It)(H1:Hp):Prop:=∀D,H1 D=none->∃W:Nat->Nat->St->Hp->Prop,(∃m,W 0 m (mh own caps σ) (upd H1 D (.lst [])))/\ ∀i m σ' H',W i m σ' H' ->
 (J.stop i H'/\Q (.ref D) H')\/(J.go i H'/\ ∃N:St->Hp->Prop,(∀σ2 H2,N σ2 H2->∃m',m'<m/\W (i+1) m' σ2 H2)/\ ∀x H2,J.yld i H' x H2->g x σ' H2 fun σ3 H3=>tc σ3 H3 fun b H4 =>
  if b=true then te σ3 H4 fun y H5=>∃ys,H5 D=some (.lst ys)/\ys.length<sizeLine/\N σ3 (upd H5 D (.lst (ys++[y]))) else N σ3 H4)
def tComp(own:List Str)(caps:List (Str×Nat))(wi:TI)(g:TG)(tc:TT)(te:TE):TE:=fun σ H Q=>wi σ H (uD own caps g tc te σ Q)
theorem yd{elt tg iter:Expr}{ifs:List Expr}{pos:Pos}{wi:TI}{g:TG}{tc:TT}{te:TE}(S:dH X scope own caps)(hc:X.calm=true)(hi:PI X tg iter wi)
  (hg:∀C s₀ H₀ fp,PG .(N) tg g) (ht:∀C s₀ H₀ fp,DY .(N) ifs tc) (he:∀C s₀ H₀ fp,PE .(N) elt te)
  (hs:∀x,foldedSetIterable iter X.env x=pure x:=by intro _;rfl):PE X (.ListComp elt [⟨tg,iter,ifs,0⟩] scope pos) (tComp own caps wi g tc te):=by
 intro pins s σ H Q I h
 rw[eval_ListComp]
 have hfree:∀y∈scope.names,y.2= .free->∃c,X.env.cells.lookup y.1=some c:=fun y hy e=>I.ok.has _ (S.frees.mem y hy e)
 refine wpAny_comprehension_free (use:=none) rfl hs (eG hfree) S.kind S.names (bx (hi pins s σ H _ I h) fun v s1 h1=>bx h1 fun itv s2 h2=> ?_)
 obtain⟨it,fp,tn,J,H2,e,I2,T,st2,f2,hW⟩:=h2
 subst e
 -- the new list
 refine wpAny_newList ?_
 have hD:H2 s2.heap.objs.size=none:=I2.fresh
 have I3:=I2.lnew (its:=[]) (ys:=[]) (t':=s2.toks) .nil (Nat.zero_le _)
 have k3:∀b o,s2.heap.get? b=some o->(s2.heap.push { cls:= .type "list",data:= .seq ([]:List Value).toArray }).get? b=some o:=fun b o q=>Heap.get?_push_of_some _ q
 have st3:tn 0 (s2.heap.push { cls:= .type "list",data:= .seq ([]:List Value).toArray }):=T.keep _ _ _ st2 fun b _ o q=>k3 b o q
 have lt2:∀b∈fp,b<s2.heap.objs.size:=fun b hb=>let ⟨o,q,_⟩:=T.obj _ _ st2 b hb;Heap.lt_size q
 have neD:∀b∈fp,b≠s2.heap.objs.size:=fun b hb=>Nat.ne_of_lt (lt2 b hb)
 have f3:∀b∈fp,iK X pins (upd H2 s2.heap.objs.size (.lst [])) b:=fun b hb=>⟨by rw[aq (neD b hb)];exact(f2 b hb).1,(f2 b hb).2⟩
 obtain⟨W,⟨m0,w0⟩,turn⟩:=hW _ hD
 generalize eD:s2.heap.objs.size=D at *
 generalize eH:upd H2 D (.lst [])=H3 at *
 generalize eh:s2.heap.push { cls:= .type "list",data:= .seq ([]:List Value).toArray }=hp3 at *
 have I3':aA X pins σ H3 { s2 with heap:=hp3 }:=I3
 -- the block's frame
 refine wpAny_newFunctionEnv S.nocell (fun y hy=>by simp at hy) (fun h1 hns hsb=> ?_) S.kind
 have kb:∀b o,hp3.get? b=some o->h1.get? b=some o:=fun b o q=>hsb.extBut b o (Nat.ne_of_lt (Heap.lt_size q)) (Heap.get?_push_of_some _ q)
 have lt3:∀b∈fp,b<hp3.objs.size:=fun b hb=>let ⟨o,q,_⟩:=T.obj _ _ st3 b hb;Heap.lt_size q
 have IB:=aA.block (s:={ s2 with heap:=hp3 }) (h1:=h1) (tk:=s2.toks) I3' S f3 hns kb lt3
 have stB:tn 0 h1:=T.keep _ _ _ st3 fun b _ o q=>kb b o q
 have back:∀{σ':St} {H':Hp} {s':Shared} {h':Heap},aA .(G) [] σ' H' s'->Heap.SameBut hp3.objs.size s'.heap h'->aA X pins σ H' { s' with heap:=h' }:=fun {σ' H' s' h'} J hsm=>by
  have nC:∀b o,H' b=some o->b≠hp3.objs.size:=fun b o q z=>by
   have:=J.free
   rw[z]at q
   have q2:H' hp3.objs.size=none:=this
   rw[q]at q2;cases q2
  have hok:gD X.prog X.w H' h':=fun b o q=>(J.hok b o q).stay (fun c v hc z=>hsm.extBut c v (by
   rcases hc with hc|hc
   ·rw[hc];exact nC b o q
   ·exact nC c _ hc) z) (fun _ z=>z) (fun _ _ z=>z) fun _ _ _ z=>z
  have nb:∀b o,hp3.get? b=some o->b≠hp3.objs.size:=fun b o q=>Nat.ne_of_lt (Heap.lt_size q)
  have un:Un (frs X.stack) fp H3 H' hp3 h':=⟨fun b o q n hb hx=>hsm.extBut b o (nb b o q) (J.base.keep b o q n hb hx),fun b o q n hb hx=>by
    obtain⟨sl,z⟩:=J.base.slot b o q n hb hx
    exact⟨sl,hsm.extBut b _ (nb b o q) z⟩,J.base.free,fun b o q hx=>by
    obtain⟨o',z⟩:=J.base.there b o q hx
    exact⟨o',hsm.extBut b _ (nb b o q) z⟩,J.base.tups,J.base.frzs,J.base.tbls⟩
  have os:=J.os
  have bare:=J.bare
  obtain⟨hh,g,d,t,os'⟩:=s'
  obtain rfl:os'=s2.os:=os
  show aA X pins σ H' { ({ s2 with heap:=hp3 }:Shared)with heap:=h',gens:=g,drawn:=d,toks:=t }
  exact I3'.call (h':=h') (g':=g) (d':=d) (t':=t) (ch:=fp) un hok bare fun b hb=>⟨(f3 b hb).2.2.2.1,(f3 b hb).2.1,(f3 b hb).2.2.2.2.1,(f3 b hb).2.2.2.2.2⟩
 have statB:∀{H':Hp},(∀b∈fp,H' b=none)->∀b∈fp,iK .(G) [] H' b:=fun hn b hb =>
  ⟨hn b hb,Nat.ne_of_lt (lt3 b hb),fun z=>(IB.ok.exfs b hb) z,.inl hb,(IB.ok.exf b hb).2,fun p hp=>absurd (show p∈([]:List (Addr×Obj)) from hp) (by simp)⟩
 have loop:∀s₃ :Shared,s₃ ={ s2 with heap:=h1,toks:=s2.toks }->codeAny .(E) X.A (.compLoop (.ListComp elt [⟨tg,iter,ifs,0⟩] scope pos) 0 (.ref it) (.ref D) (compEnvC scope (clos X.env scope.names []) hp3.objs.size X.env))
   (compPost .(E) X.A X.xe none (EP X pins σ Q) (.ref D) hp3.objs.size) s₃ :=by
  rintro s₃ rfl
  refine ik (fun n s'=>∃i σ' H',aA .(G) [] σ' H' s'/\tn i s'.heap/\(∀b∈fp,H' b=none)/\W i n σ' H') ?_ m0 ⟨0,mh own caps σ,H3,IB,stB,fun b hb=>(f3 b hb).1,w0⟩
  rintro n s3 ⟨i, σ3,H4,I4,st4,fr4,w4⟩
  rcases turn i n σ3 H4 w4 with⟨stop,qn⟩|⟨go,N,hN,step⟩
  ·refine bx (T.done .(G) rfl rfl rfl hc i [] s3 σ3 H4 _ I4 (statB fr4) st4 stop) fun r s4 ⟨hr,I5⟩=> ?_
   subst hr
   obtain⟨m,hn,_⟩:=I5.loc
   exact⟨m,hn,fun h' hsm=>⟨.ref D,H4,back I5 hsm,rfl,qn⟩⟩
  ·refine bx (T.item .(G) rfl rfl rfl hc i [] s3 σ3 H4 (fun _ _=>False) I4 (statB fr4) st4 go) fun r s4 ⟨u,hr,h4⟩=> ?_
   subst hr
   refine bx h4 fun _ s5 ⟨x,H5,I5,r5,y5,st5,fr5⟩=> ?_
   have I5':=I5.pinned (statB fr5) (T.obj _ _ st5)
   refine bx (hg hp3.objs.size { s2 with heap:=hp3 } H3 fp _ s5 σ3 H5 x u _ I5' r5 (step x H5 y5)) fun _ s6 ⟨σ6,H6,I6,q6⟩=> ?_
   refine bx (ht hp3.objs.size { s2 with heap:=hp3 } H3 fp _ s6 σ6 H6 _ I6 q6) fun ok s7 ⟨H7,I7,q7⟩=> ?_
   have again:∀{σ7:St} {H7:Hp} {s7:Shared},aA .(G) ([]++iM fp s5.heap) σ7 H7 s7->N σ7 H7->∃m,m<n/\ ∃i σ' H',aA .(G) [] σ' H' s7/\tn i s7.heap/\(∀b∈fp,H' b=none)/\W i m σ' H':=fun {σ7 H7 s7} I7 n7=>by
    obtain⟨m',hm,w7⟩:=hN σ7 H7 n7
    refine⟨m',hm,i+1, σ7,H7,I7.unpinned,T.keep _ _ _ st5 fun b hb o e=>.(Ai).1,fun b hb=> ?_,w7⟩
    obtain⟨o,e,d⟩:=T.obj _ _ st5 b hb
    exact .(Ai).2.1
   cases ok with
   |false =>
    rw[if_neg (by decide)]
    rw[if_neg (by decide)]at q7
    exact again I7 q7
   |true =>
    rw[if_pos rfl]
    rw[if_pos rfl]at q7
    refine bx (he hp3.objs.size { s2 with heap:=hp3 } H3 fp _ s7 σ6 H7 _ I7 q7) fun y s8 ⟨yv,H8,I8,r8,ys,e8,z8,n8⟩=> ?_
    refine bx (iP (X:=gI X scope hp3.objs.size (cy own caps) { s2 with heap:=hp3 } H3 fp) _ s8 σ6 H8 (.ref D) [yv] (.ref D) [y] (fun _ H'=>N σ6 H') I8 rfl (.cons r8 .nil) ⟨D,ys,yv,rfl,rfl,e8,z8,n8⟩) fun _ s9 ⟨v9,H9,I9,_,q9⟩=> ?_
    exact again I9 q9
 exact codeAny_compStart_list (loop _ rfl) (T.self _ 0 _ _ _ stB (loop _ rfl))
end
end L2
end
noncomputable section
namespace L2
open PySem PySem.Spec PyProof.Rows
inductive D where
 |at(v:V)
 |tup (ds:List D)
mutual
noncomputable def D.depth:D->Nat
 |.at _=>0
 |.tup ds=>uE ds+1
noncomputable def uE:List D->Nat
 |[]=>0
 |d::ds=>max d.depth (uE ds)
end
noncomputable section
variable{X:Cx}{pins:List (Addr×Obj)}{σ :St}{H:Hp}{s:Shared}
end
end L2
end
noncomputable section
namespace PySem.SeqAt
open AutoSeq1 (wpAny_loadPart')
open MeetsSeq MeetsSeq2 MeetsSeq3 SeqRoads2
theorem iR{M:Model}{A:Around}{E:Value->Shared->Prop}{s:Shared}{β :Type}{n:Nat}(f:Nat-> β ->Sem (ForInStep β))(I:Nat-> β ->Shared->Prop)(Q: β ->Shared->Prop)
  (turn:∀i b s,i<n->I i b s->wpAny M A (f i b) (fun r s'=>match r with | .yield b'=>I (i+1) b' s' | .done b'=>Q b' s') E s)
  (fin:∀b s,I n b s->Q b s) (b: β) (h:I 0 b s):wpAny M A (forIn ([:n]:Std.Legacy.Range) b f) Q E s:=by
 rw[Std.Legacy.Range.forIn_eq_forIn_range']
 simp only[Std.Legacy.Range.size,Nat.sub_zero,Nat.add_sub_cancel,Nat.div_one]
 refine wpAny_forIn_list f (fun rest b s'=>∃i,rest=List.range' i (n-i)/\i<=n/\I i b s') Q ?_ ?_ _ _ ⟨0,by simp,Nat.zero_le _,h⟩
 ·rintro x rest b s' ⟨i,hr,hi,hI⟩
  have hlt:i<n:=by
   rcases Nat.lt_or_ge i n with q|q
   ·exact q
   ·rw[Nat.sub_eq_zero_of_le q]at hr;simp at hr
  obtain⟨rfl,hrest⟩:x=i/\rest=List.range' (i+1) (n-(i+1)):=by
   rw[show n-i=(n-(i+1))+1 by omega,List.range'_succ]at hr
   injection hr with h1 h2
   exact⟨h1,h2⟩
  refine wpAny_mono (turn x b s' hlt hI) (fun r s2 hr2=> ?_) fun _ _ z=>z
  cases r with
  |done b'=>exact hr2
  |yield b'=>exact⟨x+1,hrest,hlt,hr2⟩
 ·rintro b s' ⟨i,hr,hi,hI⟩
  have:i=n:=by
   rcases Nat.lt_or_ge i n with q|q
   ·rw[show n-i=(n-(i+1))+1 by omega,List.range'_succ]at hr;cases hr
   ·omega
  subst this
  exact fin _ _ hI
theorem tuple_indexAt(l:Addr)(items:Array Value)(n:Nat)(dd:Option Addr)(sl:Array (Option Value))(x:Value)(e:Value->Bool)(j:Nat)(hj:j<items.size)
  (hit:e items[j]=true) (hno:∀m (hm:m<items.size),m<j->e items[m]=false) :
  Meets (Builtin.«tuple.index» ⟨[.ref l,x],[]⟩)
   (fun A R s=>s.heap.get? l=some { cls:= .type "tuple",dict:=dd,data:= .seq items n,slots:=sl }/\(∀y,y∈items->EqAt A.in1 s y x (e y))/\R (.ok (.ret (.int j s.toks))) { s with toks:=s.toks+1 }) :=
 .of_wp fun prog w A R s h=>by
  obtain⟨hp,g,d,tk,os⟩:=s;obtain⟨hl,he,h⟩:=h
  wp_walk using wpAny_loadPart' hl,iR (n:=min items.size items.size) _ (fun i b s'=>b.1=none/\i<=j/\s'=⟨hp,g,d,tk,os⟩) _
  case turn =>
   rintro i b s' hi ⟨hb,hij,rfl⟩
   have hi':i<items.size:=by omega
   rw[Array.getElem?_eq_getElem hi']
   refine wpAny_bind (he _ (Array.getElem_mem hi') prog w _ _ ?_)
   by_cases ij:i=j
   ·subst ij
    rw[hit]
    wp_walk
    exact⟨_,rfl,h⟩
   ·rw[hno i hi' (by omega)]
    wp_walk
    exact⟨rfl,by omega,rfl⟩
  case fin =>
   rintro b s' ⟨hb,hij,rfl⟩
   omega
  case h =>
   exact⟨rfl,Nat.zero_le _,rfl⟩
end PySem.SeqAt
namespace L2
open PySem PySem.Spec PyProof.Rows
noncomputable section
variable{X:Cx}
def ye(K:Fg):V->List V->Hp->VK->Prop:=fun x vs H Q=>∃a xs y j z,x= .ref a/\vs=[y]/\gE K H a xs/\dY y=true/\xs.all dY=true/\xs[j]? =some z/\kT z y=true/\(∀i z,i<j->xs[i]? =some z->kT z y=false)/\Q (.int (j:Nat)) H
theorem rZ:G6 X "tuple.index" (ye X.K):=by
 intro pins s σ H x vs v us Q I rx rv h
 obtain⟨a,xs,y,j,z,rfl,rfl,hS,fy,fs,ej,ez,hno,q⟩:=h
 obtain rfl:v=Value.ref a:=rx
 obtain⟨u,rfl,ru⟩:=rv.one
 obtain⟨its,r,pl,_⟩:=I.tuple hS
 have eqs:=eQ (A:=X.A.in1) (s:=s) ru fy r fs
 obtain⟨w,ew,rw'⟩:=r.get ej
 have hj:j<its.length:=(List.getElem?_eq_some_iff.mp ew).1
 obtain⟨ob,eo,hc,nn,hd⟩:=pl
 obtain⟨cls,dd,data,sl⟩:=ob
 simp only at hc hd
 subst hc hd
 have flat_at:∀{i:Nat} {z:V},xs[i]? =some z->dY z=true:=fun {i z} e=>by
  exact List.all_eq_true.mp fs z (List.mem_of_getElem? e)
 refine call_meets F.slot_tuple_index ⟨_,eo,rfl⟩ F.entry_tuple_index (F.args_tuple_index_2 _ _) (SeqAt.tuple_indexAt a its.toArray nn dd sl u (ny y) j (by simpa using hj) ?_ ?_) ⟨eo,fun w hw=>eqs w (by simpa using hw),?_⟩
 ·have:its[j]=w:=(List.getElem?_eq_some_iff.mp ew).2
  show ny y its[j]=true
  rw[this,m8 rw' (flat_at ej)]
  exact ez
 ·intro m hm hmj
  have hm':m<its.length:=by simpa using hm
  have hx:m<xs.length:=by rw[r.length];exact hm'
  obtain⟨w',ew',r'⟩:=r.get (List.getElem?_eq_getElem hx)
  have:its[m]=w':=(List.getElem?_eq_some_iff.mp ew').2
  show ny y its[m]=false
  rw[this,m8 r' (flat_at (List.getElem?_eq_getElem hx))]
  exact hno m _ hmj (List.getElem?_eq_getElem hx)
 ·exact⟨.int (j:Nat),H,I.tok _,⟨_,rfl⟩,q⟩
end
end L2
end
noncomputable section
namespace L2
open PySem PySem.Spec PyProof.Rows
structure FnAt(P:Program)(w:World)(K:Fg)(mg:Str->Option Value)(base:Bs)(CX:jF)(k:Nat)(x:Str)(sp:Sp):Prop where
 ex:∃(f:Addr) (fd:FuncData) (ps:List Str),mg x=some (.ref f)/\PySem.W.keepIn K (.ref f)=true/\cN P w K mg base CX k f fd ps sp/\bw K fd ps []
def KA(sp:Sp)(E:XK)(t:TA):TE:=fun σ H Q=>t σ H fun vs H1=>sp vs H1 Q E
noncomputable section
variable{X:Cx}{CX:jF}{k:Nat}{sp:Sp}{E:XK}{x:Str}{p pos:Pos}{e:Expr}{es:List Expr}{t:TA}
theorem DZ(h:FnAt X.prog X.w X.K X.mg X.base CX k x sp)(hr:br k X.A)(hg:Gl X x)(hx:eF CX X E)(ha:PA X (e::es) t)(hdb:(x == .(L))=false:=by decide)
  (he:starEach (e::es) X.env=.(U)::starEach es X.env:=by rfl) (hpl:.(W).any (·.1)=false:=by rfl):PE X .(As) (KA sp E t):=by
 obtain⟨f,fd,ps,hm,hk,F,hb⟩:=h.ex
 intro pins s σ H Q I hq
 refine xQ (dvs:=[]) (ds:=[]) F hr hg hm hk hb .nil hx ha hdb he hpl pins s σ H Q I ?_
 have e0:(fun(vs:List V) (H1:Hp)=>sp (vs++[]) H1 Q E)=fun vs H1=>sp vs H1 Q E:=by funext vs H1;rw[List.append_nil]
 show t σ H (fun vs H1=>sp (vs++[]) H1 Q E)
 rw[e0]
 exact hq
end
theorem cE{X:Cx}{x:Str}{a:Addr}{pos:Pos}(hg:Gl X x)(hm:X.mg x=some (.ref a))(hd:(x == .(L))=false:=by decide):PE X (.Name x pos) (tC (.ref a)):=lY (v:= .ref a) hg hm rfl hd
def jm(K:Fg)(a:Addr)(xs:List V):Prop:=∃(o:Obj) (its:Array Value) (n:Nat),K.lookup a=some o/\o.cls= .type "tuple"/\o.dict=none/\o.data= .seq its n/\its.size<=sizeLine/\aR xs its.toList
theorem jm.sq{K:Fg}{a:Addr}{xs:List V}(h:jm K a xs)(H:Hp):gE K H a xs:=let ⟨o,its,n,h1,h2,_,h3,h4,h5⟩:=h;.inr ⟨o,its,n,h1,h2,h3,h4,h5⟩
theorem jm.ty{K:Fg}{a:Addr}{xs:List V}(h:jm K a xs)(H:Hp):G7 K "tuple" (.ref a) H:=let ⟨o,its,n,h1,h2,h0,h3,h4,h5⟩:=h;.inr (.inl ⟨rfl,o,h1,h2,h0⟩)
noncomputable def yf(H:Hp)(x dx C:Addr)(fs:List (Str×V)):Hp:=upd (upd H dx (.own x)) x (.ins C dx fs)
theorem qj{H:Hp}{x dx C:Addr}{fs:List (Str×V)}:yf H x dx C fs x=some (.ins C dx fs):=au
theorem l6{H:Hp}{x dx C:Addr}{fs:List (Str×V)}(hx:H x=none)(hd:H dx=none):Same H (yf H x dx C fs):=fun b o e=>by
 unfold yf
 rw[aq (aO e hx),aq (aO e hd)]
 exact e
theorem bt{H:Hp}{p:Addr}(h:H p=none)(o:HO):Same H (upd H p o):=fun b u q=>by rw[aq (aO q h)];exact q
def Hh(C:Addr)(fs:List Str)(t:TA):TE:=fun σ H Q=>t σ H fun vs H1=>vs.length=fs.length/\ ∀x dx,H1 x=none->H1 dx=none->dx≠x->Q (.ref x) (yf H1 x dx C (fs.zip vs))
def nV(C:Addr)(fs:List Str):Sp:=fun vs H Q _=>∃p dx r,vs= .ref p::r/\r.length=fs.length/\H p=some (.ins C dx [])/\Q .non (upd H p (.ins C dx (fs.zip r)))
structure ee(P:Program)(w:World)(K:Fg)(mg:Str->Option Value)(base:Bs)(x:Str)(C:Addr)(fs:List Str):Prop where
 glob:mg x=some (.ref C)
 cl:kO K C
 ex:∃(f:Addr) (fd:FuncData) (ps:List Str),Mk K C f/\cN P w K mg base fS 1 f fd ps (nV C fs)/\bw K fd ps []
noncomputable section
variable{X:Cx}{C:Addr}{fs:List Str}{x:Str}{p pos:Pos}{e:Expr}{es:List Expr}{t:TA}{k:Nat}
theorem AU(h:ee X.prog X.w X.K X.mg X.base x C fs)(hr:br (k+2) X.A)(hg:Gl X x)(ha:PA X (e::es) t)(hdb:(x == .(L))=false:=by decide)
  (he:starEach (e::es) X.env=.(U)::starEach es X.env:=by rfl) (hpl:.(W).any (·.1)=false:=by rfl):PE X .(As) (Hh C fs t):=by
 obtain⟨f,fd,ps,M,F,hb⟩:=h.ex
 intro pins s σ H Q I hq
 refine wpAny_Call_Name_kw (hU I hg h.glob ?_ hdb)
 refine PySem.W.callWith_K (h₀:=X.base) I.ok.mod.kin M.kp (bx (ha pos pins s σ H _ I hq) fun us s1 ⟨vs,H1,I1,r,hl,q⟩=>⟨I1.kIn,?_⟩) he hpl
 refine nK (dvs:=[]) (ds:=[]) (E:=E0) M F (hr.mono (Nat.le_add_left 2 k)) hb .nil kX I1 r fun x dx n1 n2 ne=> ?_
 refine⟨x,dx,vs++[],rfl,by rw[List.append_nil];exact hl,au,rfl,?_⟩
 rw[List.append_nil,fh]
 exact q x dx n1 n2 ne
end
noncomputable section
variable{P:Program}{w:World}{K:Fg}{mg:Str->Option Value}{base:Bs}{C f:Addr}{fd:FuncData}{qual:Str}{st:Stmt}
theorem il{a:Str}{p1 p2 p3 p4:Pos}(F:fE K "__init__" qual st f fd)(hb:bz st=[.Assign [.Attribute (.Name "self" p1) a p2] (.Name a p3) p4])(S:am ["self",a] ["self",a] (ah st))
  (cl:kO K C) (na:bj K C a) (hd:(a == .(L))=false) (hcd:(a == .(Ad))=false):cN P w K mg base fS 1 f fd ["self",a] (nV C [a]):=by
 refine F.ok S (fun vs H Q E h=> ?_) (fun cdv A outer s H vs Q E hr h=> ?_)
 ·obtain⟨p,dx,r,rfl,hl,_⟩:=h
  match r,hl with|[_],_=>rfl
 ·obtain⟨p,dx,r,rfl,hl,hp,q⟩:=h
  match r,hl with
  |[v],_ =>
   have vis:∀x∈(["self",a]:List Str),lX (ah st) x:=fun x hx=>(S.par x hx).elim (fun z=> .inl z) fun z=> .inr (.inl z)
   rw[hb]
   refine⟨_,hV (dL .(Av) (aV (i:=1) rfl (vis a (by simp)) hd hcd) rfl),?_⟩
   exact⟨v,rfl,_,rfl,p,C,dx,[],rfl,hp,cl,na,by show 0<1000;decide,q⟩
theorem fW{a b:Str}{p1 p2 p3 p4 q1 q2 q3 q4:Pos}(F:fE K "__init__" qual st f fd)(hb:bz st=[.Assign [.Attribute (.Name "self" p1) a p2] (.Name a p3) p4,.Assign [.Attribute (.Name "self" q1) b q2] (.Name b q3) q4])
  (S:am ["self",a,b] ["self",a,b] (ah st)) (cl:kO K C) (na:bj K C a) (nb:bj K C b) (hd:(a == .(L))=false) (hcd:(a == .(Ad))=false)
  (hd':(b == .(L))=false) (hcd':(b == .(Ad))=false) (ab:¬a=b):cN P w K mg base fS 1 f fd ["self",a,b] (nV C [a,b]):=by
 refine F.ok S (fun vs H Q E h=> ?_) (fun cdv A outer s H vs Q E hr h=> ?_)
 ·obtain⟨p,dx,r,rfl,hl,_⟩:=h
  match r,hl with|[_,_],_=>rfl
 ·obtain⟨p,dx,r,rfl,hl,hp,q⟩:=h
  match r,hl with
  |[v,u],_ =>
   have vis:∀x∈(["self",a,b]:List Str),lX (ah st) x:=fun x hx=>(S.par x hx).elim (fun z=> .inl z) fun z=> .inr (.inl z)
   rw[hb]
   refine⟨_,dJ (dL .(Av) (aV (i:=1) rfl (vis a (by simp)) hd hcd) rfl) (hV (dL .(Av) (aV (i:=2) rfl (vis b (by simp)) hd' hcd') rfl)),?_⟩
   refine⟨v,rfl,_,rfl,p,C,dx,[],rfl,hp,cl,na,(by show 0<1000;decide),u,rfl,_,rfl,p,C,dx,_,rfl,au,cl,nb,(by show 1<1000;decide),?_⟩
   have e:ck b u (ck a v [])=[(a,v),(b,u)]:=by
    show(if a=b then _ else(a,v)::ck b u [])=_
    rw[if_neg ab]
    rfl
   rw[fh,e]
   exact q
theorem nW{a b c:Str}{p1 p2 p3 p4 q1 q2 q3 q4 r1 r2 r3 r4:Pos}(F:fE K "__init__" qual st f fd)(hb:bz st=[.Assign [.Attribute (.Name "self" p1) a p2] (.Name a p3) p4,.Assign [.Attribute (.Name "self" q1) b q2] (.Name b q3) q4,.Assign [.Attribute (.Name "self" r1) c r2] (.Name c r3) r4])
  (S:am ["self",a,b,c] ["self",a,b,c] (ah st)) (cl:kO K C) (na:bj K C a) (nb:bj K C b) (nc:bj K C c) (hd:(a == .(L))=false) (hcd:(a == .(Ad))=false)
  (hd':(b == .(L))=false) (hcd':(b == .(Ad))=false) (hd'':(c == .(L))=false) (hcd'':(c == .(Ad))=false) (ab:¬a=b) (ac:¬a=c) (bc:¬b=c):cN P w K mg base fS 1 f fd ["self",a,b,c] (nV C [a,b,c]):=by
 refine F.ok S (fun vs H Q E h=> ?_) (fun cdv A outer s H vs Q E hr h=> ?_)
 ·obtain⟨p,dx,r,rfl,hl,_⟩:=h
  match r,hl with|[_,_,_],_=>rfl
 ·obtain⟨p,dx,r,rfl,hl,hp,q⟩:=h
  match r,hl with
  |[v,u,z],_ =>
   have vis:∀x∈(["self",a,b,c]:List Str),lX (ah st) x:=fun x hx=>(S.par x hx).elim (fun z=> .inl z) fun z=> .inr (.inl z)
   have e:ck b u (ck a v [])=[(a,v),(b,u)]:=by
    show(if a=b then _ else(a,v)::ck b u [])=_
    rw[if_neg ab]
    rfl
   rw[hb]
   refine⟨_,dJ (dL .(Av) (aV (i:=1) rfl (vis a (by simp)) hd hcd) rfl) (dJ (dL .(Av) (aV (i:=2) rfl (vis b (by simp)) hd' hcd') rfl) (hV (dL .(Av) (aV (i:=3) rfl (vis c (by simp)) hd'' hcd'') rfl))),?_⟩
   refine⟨v,rfl,_,rfl,p,C,dx,[],rfl,hp,cl,na,(by show 0<1000;decide),u,rfl,_,rfl,p,C,dx,_,rfl,au,cl,nb,(by show 1<1000;decide),z,rfl,_,rfl,p,C,dx,_,rfl,au,cl,nc,?_,?_⟩
   ·rw[e];show 2<1000;decide
   ·have e':ck c z [(a,v),(b,u)]=[(a,v),(b,u),(c,z)]:=by
     show(if a=c then _ else(a,v)::(if b=c then _ else(b,u)::ck c z []))=_
     rw[if_neg ac,if_neg bc]
     rfl
    rw[fh,fh,e,e']
    exact q
end
end L2
end
noncomputable section
namespace L2
open PySem PySem.Spec PyProof.Rows
def mi(lo:Int)(n:Nat):List V:=(List.range n).map fun(i:Nat)=>V.int (lo+(i:Int))
theorem yg{lo:Int}{n i:Nat}(h:i<n):(mi lo n)[i]? =some (.int (lo+(i:Int))):=by
 unfold mi
 rw[List.getElem?_map,List.getElem?_range h]
 rfl
theorem nX{lo:Int}{n:Nat}:(mi lo n).length=n:=by unfold mi;simp
end L2
end
noncomputable section
namespace L2
open PySem PySem.Spec PyProof.Rows
structure bu(K:Fg)(C:Addr):Prop where
 pg:PySem.W.plainGet K C Str.empty=true
 hd:PySem.W.hasDictIn K C=true
 po:PySem.W.plainOver K C=true
 sa:PySem.W.findIn K (.ref C) "__setattr__"=some (some (.builtin "object.__setattr__"))
 ca:PySem.W.findIn K (.ref C) "__class__"=some (some (.builtin "object.__class__"))
 cs:PySem.W.specialIn K (.builtin "object.__class__") "__get__"=some (some (.builtin "getset_descriptor.__get__"))
 ct:PySem.W.takesIn K (.builtin "object.__class__")=some true
 cm:PySem.W.mroIn K C (.type "object")=some true
 mks:PySem.W.makesIn K C=true
 kp:PySem.W.keepIn K (.ref C)=true
theorem bu.cls{K:Fg}{C:Addr}(h:bu K C):kO K C:=⟨h.pg,h.hd,h.po,h.sa⟩
theorem bu.ty{K:Fg}{C:Addr}(h:bu K C){H:Hp}{a dx:Addr}{fs:List (Str×V)}(e:H a=some (.ins C dx fs)):i7 K H (.ref a) (.ref C):= .ins e h.cls h.ca h.cs h.ct h.cm
def cz(K:Fg)(f:Addr)(x qual:Str)(st:Stmt):Prop:=∃fd,fE K x qual st f fd
theorem Hi{K:Fg}{x qual:Str}{st:Stmt}{f:Addr}{oc:Value}{od an:Option Addr}{osl:Array (Option Value)}{kV doc pm cdv ct:Value}(l:K.lookup f=some ⟨oc,od,.func (PySem.W.fnOf x qual (dZ st) (bz st) (ah st) .none kV doc pm an cdv ct),osl⟩)
  (c:PySem.W.codeIn K cdv qual=true) (k:PySem.W.keepIn K (.ref f)=true):cz K f x qual st:=⟨_,uw l c k⟩
theorem mj{K:Fg}{a:Addr}{its:Array Value}{n:Nat}{sl:Array (Option Value)}{xs:List V}(l:K.lookup a=some ⟨.type "tuple",none,.seq its n,sl⟩)(hs:its.size<=sizeLine)(hv:aR xs its.toList):jm K a xs :=
 ⟨_,its,n,l,rfl,rfl,rfl,hs,hv⟩
theorem qk{P:Program}{w:World}{K:Fg}{mg:Str->Option Value}{base:Bs}{CX:jF}{k:Nat}{f:Addr}{fd:FuncData}{ps:List Str}{sp:Sp}(no:∀vs H Q E,¬sp vs H Q E):cN P w K mg base CX k f fd ps sp :=
 ⟨fun vs H Q E h=>absurd h (no vs H Q E),fun A outer s H args us vs Q E _ _ _ _ h=>absurd h (no vs H Q E)⟩
structure yh(K:Fg)(mg:Str->Option Value)(x:Str)(st:Stmt)(ps:List Str)(f:Addr)(fd:FuncData):Prop where
 F:fE K x x st f fd
 b:bw K fd ps []
 m:mg x=some (.ref f)
theorem yh.at{P:Program}{w:World}{K:Fg}{mg:Str->Option Value}{base:Bs}{k:Nat}{x:Str}{st:Stmt}{ps:List Str}{f:Addr}{fd:FuncData}{sp:Sp}(h:yh K mg x st ps f fd)(G:cN P w K mg base fS k f fd ps sp) :
  FnAt P w K mg base fS k x sp:=⟨f,fd,ps,h.m,h.F.kp,G,h.b⟩
end L2
end
noncomputable section
namespace L2
open PySem PySem.Spec PyProof.Rows
noncomputable section
variable{X:Cx}
theorem uF{x:Str}{i:Int}{tk:Tok}{pos:Pos}(hg:Gl X x)(hm:X.mg x=some (.int i tk))(hd:(x == .(L))=false:=by decide):PE X (.Name x pos) (tC (.int i)):=lY (v:= .int i) hg hm ⟨_,rfl⟩ hd
end
noncomputable def maskN(f:Nat->Bool):Nat->Nat
 |0=>0
 |n+1=>2 ^ n*(f n).toNat+maskN f n
theorem eT(f:Nat->Bool):∀n,maskN f n<2 ^ n
 |0=>by show 0<1;decide
 |n+1=>by
  have ih:=eT f n
  show 2 ^ n*(f n).toNat+maskN f n<2 ^ (n+1)
  have:(f n).toNat<=1:=Bool.toNat_le _
  have h2:2 ^ n*(f n).toNat<=2 ^ n*1:=Nat.mul_le_mul_left _ this
  rw[Nat.pow_succ]
  omega
theorem cX(f:Nat->Bool):∀n i,(maskN f n).testBit i=(decide (i<n) && f i)
 |0,i=>by simp[maskN]
 |n+1,i=>by
  have ih:=cX f n
  have lt:=eT f n
  show(2 ^ n*(f n).toNat+maskN f n).testBit i=_
  rw[Nat.testBit_two_pow_mul_add _ lt]
  by_cases h:i<n
  ·rw[if_pos h,ih i]
   have h':i<n+1:=by omega
   simp[h,h']
  ·rw[if_neg h]
   by_cases h2:i=n
   ·subst h2
    cases f i <;> simp
   ·have h3:¬i<n+1:=by omega
    have h4:i-n≠0:=by omega
    obtain⟨k,hk⟩:∃k,i-n=k+1:=⟨i-n-1,by omega⟩
    rw[hk]
    cases f n <;> simp[h3,Nat.testBit_succ]
theorem iS(f:Nat->Bool):∀n,maskN (fun i=> !f i) n+maskN f n+1=2 ^ n
 |0=>rfl
 |n+1=>by
  have ih:=iS f n
  show 2 ^ n*(!f n).toNat+maskN (fun i=> !f i) n+(2 ^ n*(f n).toNat+maskN f n)+1=2 ^ (n+1)
  rw[Nat.pow_succ]
  cases f n <;> simp <;> omega
theorem dM(x y:Nat):Builtin.bitAnd (x:Int) (y:Int)=((x &&& y:Nat):Int):=by
 unfold Builtin.bitAnd
 simp
theorem sd(x y:Nat):Builtin.bitOr (x:Int) (y:Int)=((x ||| y:Nat):Int):=by
 unfold Builtin.bitOr Builtin.bitAnd Builtin.bitNot
 have h1:¬(0:Int)<= -(x:Int)-1:=by omega
 have h2:¬(0:Int)<= -(y:Int)-1:=by omega
 simp only[h1,h2,decide_false]
 have e1:(-(-(x:Int)-1)-1).toNat=x:=by omega
 have e2:(-(-(y:Int)-1)-1).toNat=y:=by omega
 rw[e1,e2]
 omega
end L2
end
noncomputable section
namespace L2
open PySem PySem.Spec PyProof.Rows
structure jw where
 params:Arguments
 body:FuncBody
 scope:Scope
 free:List Str
abbrev E1(n:jw)(nm qual:Str)(cl:List (Str×Addr))(doc pm cdv ct:Value):FuncData :=
 { name:=nm,qualname:=qual,params:=n.params,body:=n.body,scope:=n.scope,globals:=mainGlobals,closure:=cl,defaults:= .none,kwdefaults:= .none,doc:=doc,pyModule:=pm,annotations:=none,code:=cdv,closureTuple:=ct,builtins:=builtinsNs }
def fF(n:jw)(H:Hp)(q:Addr)(cl:List (Str×Addr)):Prop :=
 ∃(o:Obj) (u:HO) (nm qual:Str) (doc pm:Value) (cc:Addr) (ct:Value) (oc:Obj) (u2:HO),H q=some (.frz o u)/\o.cls= .type "function"/\o.data= .func (E1 n nm qual cl doc pm (.ref cc) ct)/\H cc=some (.frz oc u2)/\tZ oc
structure cg(H:Hp)(free:List Str)(cl:List (Str×Addr))(vs:List V):Prop where
 len:free.length=vs.length
 val:∀(i:Nat) x v,free[i]? =some x->vs[i]? =some v->∃c ob u w,cl.lookup x=some c/\H c=some (.frz ob u)/\ob.data= .cell (some w)/\aQ v w
 sub:∀x c,cl.lookup x=some c->x∈free
 inj:∀x y c,cl.lookup x=some c->cl.lookup y=some c->x=y
theorem fF.keep{n:jw}{H H':Hp}{q:Addr}{cl:List (Str×Addr)}(h:fF n H q cl)(k:∀a o u,H a=some (.frz o u)->H' a=some (.frz o u)):fF n H' q cl :=
 let ⟨o,u,nm,qual,doc,pm,cc,ct,oc,u2,e1,e2,e3,e4,e5⟩:=h
 ⟨o,u,nm,qual,doc,pm,cc,ct,oc,u2,k _ _ _ e1,e2,e3,k _ _ _ e4,e5⟩
theorem cg.keep{H H':Hp}{fr:List Str}{cl:List (Str×Addr)}{vs:List V}(h:cg H fr cl vs)(k:∀a o u,H a=some (.frz o u)->H' a=some (.frz o u)):cg H' fr cl vs :=
 ⟨h.len,fun i x v e1 e2=>let ⟨c,ob,u,w,a1,a2,a3,a4⟩:=h.val i x v e1 e2;⟨c,ob,u,w,a1,k _ _ _ a2,a3,a4⟩,h.sub,h.inj⟩
theorem cg.some{H:Hp}{fr:List Str}{cl:List (Str×Addr)}{vs:List V}(h:cg H fr cl vs){x:Str}(hx:x∈fr):∃c ob u w,cl.lookup x=some c/\H c=some (.frz ob u)/\ob.data= .cell (some w):=by
 obtain⟨i,hi,e⟩:=List.getElem_of_mem hx
 have hi':i<vs.length:=by rw[<-h.len];exact hi
 obtain⟨c,ob,u,w,a1,a2,a3,_⟩:=h.val i x vs[i] (by rw[List.getElem?_eq_getElem hi,e]) (List.getElem?_eq_getElem hi')
 exact⟨c,ob,u,w,a1,a2,a3⟩
noncomputable def E2(CX:jF)(P:Program)(w:World)(K:Fg)(mg:Str->Option Value)(base:Bs)(N:List Str)(qual:Str)(scope:Scope)(f:Addr)(cd:Value)(cl:List (Str×Addr))(A:Around)(outer:List Env)(s:Shared)(H:Hp)(E:XK):Cx where
 prog:=P
 w:=w
 K:=K
 mg:=mg
 base:=base
 A:=A.deeper (PySem.W.envX qual scope s.heap.objs.size f cd cl)
 N:=N
 s₀:=s
 H₀:=H
 env:=PySem.W.envX qual scope s.heap.objs.size f cd cl
 outer:=outer
 stack:=PySem.W.envX qual scope s.heap.objs.size f cd cl::outer
 ex:=[]
 calm:=true
 fn:=fun _=>false
 cw:=fun _=>false
 pn:=[]
 xe:=fun e s'=>wpAny (model P w) (A.deeper (PySem.W.envX qual scope s.heap.objs.size f cd cl)) (leaving (PySem.W.envX qual scope s.heap.objs.size f cd cl) e) (fun _ s''=>CX outer H s E e s'') (fun e' s''=>CX outer H s E e' s'') s'
structure ml(N P F:List Str)(sc:Scope):Prop where
 kind:sc.kind= .function
 co:sc.isCoroutine=false
 gen:sc.isGenerator=false
 nd:N.Nodup
 pre:N.take (P++F).length=P++F
 par:∀x∈P,sc.names.lookup x=some .local
 fre:∀x∈F,sc.names.lookup x=some .free
 nocell:∀y∈sc.names,y.2 ≠ .cell
 allf:∀y∈sc.names,y.2= .free->y.1∈F
theorem ql:∀{ps:List Str} {us:List Value} {i:Nat} {x:Str} {u:Value},ps.Nodup->ps[i]? =some x->us[i]? =some u->(ps.zip us).reverse.lookup x=some u
 |[],us,i,x,u,_,h,_=>by simp at h
 |p::ps,[],i,x,u,_,_,h=>by simp at h
 |p::ps,w::us,0,x,u,nd,h1,h2=>by
  simp at h1 h2
  subst h1 h2
  have hn:(ps.zip us).reverse.lookup p=none:=by
   rw[List.lookup_eq_none_iff]
   intro q hq
   have:=(List.of_mem_zip (List.mem_reverse.mp hq)).1
   simp only[bne_iff_ne,ne_eq,beq_eq_false_iff_ne]
   intro z
   rw[<-z]at this
   exact(List.nodup_cons.mp nd).1 this
  rw[List.zip_cons_cons,List.reverse_cons,List.lookup_append,hn]
  simp[List.lookup]
 |p::ps,w::us,i+1,x,u,nd,h1,h2=>by
  have ih:=ql (i:=i) (List.nodup_cons.mp nd).2 (by simpa using h1) (by simpa using h2)
  rw[List.zip_cons_cons,List.reverse_cons,List.lookup_append,ih]
  rfl
theorem pc{CX:jF}{P:Program}{w:World}{K:Fg}{mg:Str->Option Value}{base:Bs}{N ps fr:List Str}{qual:Str}{scope:Scope}{f:Addr}{cd:Value}{cl:List (Str×Addr)}{A:Around}{outer:List Env}{s:Shared}{h1:Heap}{tk:Nat}{H:Hp}{E:XK}{us:List Value}{vs cv:List V}
  (S:ml N ps fr scope) (hd:A.handled=none) (e0:m4 P w K mg base A outer s H) (hl:vs.length=ps.length) (r:aR vs us) (C:cg H fr cl cv)
  (hns:h1.Ns s.heap.objs.size (fun y=>(ps.zip us).reverse.lookup y)) (hk:∀b o,s.heap.get? b=some o->h1.get? b=some o) :
  aA (E2 CX P w K mg base N qual scope f cd cl A outer s H E) [] (start N (vs++cv)) H { s with heap:=h1,toks:=tk }:=by
 have hcl:∀x c,cl.lookup x=some c->∃ob u w,H c=some (.frz ob u)/\ob.data= .cell (some w):=fun x c e=>by
  obtain⟨c',ob,u,w,a1,a2,a3⟩:=C.some (C.sub x c e)
  rw[e]at a1;cases a1
  exact⟨ob,u,w,a2,a3⟩
 have cell:∀c ob u w,H c=some (.frz ob u)->ob.data= .cell (some w)->h1.IsCell c (some w):=fun c ob u w a2 a3=>by
  obtain⟨e,_⟩:=e0.hok c _ a2
  exact⟨ob,hk _ _ e,a3⟩
 have noA:∀b:Addr,b∉(E2 CX P w K mg base N qual scope f cd cl A outer s H E).ex:=fun b z=>absurd (show b∈([]:List Addr) from z) (by simp)
 have hpl:(ps++fr).length<=N.length:=by have:=congrArg List.length S.pre;rw[List.length_take]at this;omega
 have hvl:(vs++cv).length=(ps++fr).length:=by rw[List.length_append,List.length_append,hl,C.len]
 refine⟨⟨e0.mod,S.kind,rfl,rfl,Nat.le_refl _,C.inj,fun y hy=> ?_,(fun y c z=>nomatch z),fun _=>hd,Around.frames_deeper e0.frames,.inr ⟨rfl,rfl⟩,fun b z=>absurd z (noA b),e0.bs,e0.bsz,fun b _ _=>noA b,fun b z=>absurd z (noA b),e0.funs,e0.frf,e0.tab,fun _ z=>nomatch z⟩,
  rfl,e0.bare,Un.kept hk,⟨_,hns,fun i y v h1 h2 h3=> ?_⟩,fun y c h=> ?_,e0.hok.fresh .(Ac),fun y c h=> ?_,fun p hp=>absurd (show p∈([]:List (Addr×Obj)) from hp) (by simp),e0.hok.kept hk,?_⟩
 ·have hy:scope.names.lookup y=some .cell\/scope.names.lookup y=some .free:=hy
  rcases hy with hy|hy
  ·exact absurd rfl (S.nocell _ (PySem.mem_of_lookup hy))
  ·obtain⟨c,_,_,_,a1,_⟩:=C.some (S.allf _ (PySem.mem_of_lookup hy) rfl)
   exact⟨c,a1⟩
 ·have hi:i<(vs++cv).length:=by
   unfold start at h2
   by_cases hi:i<(vs++cv).length
   ·exact hi
   ·rw[List.getElem?_append_right (by simpa using hi)]at h2
    rw[List.getElem?_replicate]at h2
    split at h2 <;> cases h2
  have ha:(vs++cv)[i]? =some v:=by
   unfold start at h2
   rw[List.getElem?_append_left (by simpa using hi),List.getElem?_map]at h2
   cases e:(vs++cv)[i]? with
   |none=>rw[e]at h2;cases h2
   |some a=>rw[e]at h2;cases h2;rfl
  have hp:(ps++fr)[i]? =some y:=by
   rw[<-S.pre,List.getElem?_take_of_lt (by omega)];exact h1
  have ndP:(ps++fr).Nodup:=by rw[<-S.pre];exact S.nd.sublist (List.take_sublist _ _)
  by_cases hv:i<vs.length
  ·rw[List.getElem?_append_left hv]at ha
   rw[List.getElem?_append_left (by omega)]at hp
   obtain⟨u,hu,rv⟩:=r.get ha
   exact⟨u,rv,.inl ⟨S.par y (List.mem_of_getElem? hp),ql (List.nodup_append.mp ndP).1 hp hu⟩⟩
  ·rw[List.getElem?_append_right (by omega)]at ha hp
   rw[<-hl]at hp
   obtain⟨c,ob,u,w,a1,a2,a3,a4⟩:=C.val _ y v hp ha
   exact⟨w,a4,.inr ⟨.inr (S.fre y (List.mem_of_getElem? hp)),c,a1,cell c ob u w a2 a3⟩⟩
 ·obtain⟨ob,u,w,a2,a3⟩:=hcl y c h
  exact⟨_,cell c ob u w a2 a3⟩
 ·obtain⟨ob,u,w,a2,_⟩:=hcl y c h
  exact .inr ⟨rfl,ob,u,a2⟩
 ·unfold start
  show _=N.length
  rw[List.length_append,List.length_map,List.length_replicate]
  omega
noncomputable section
variable{P:Program}{w:World}{A:Around}{s:Shared}{R:Result->Shared->Prop}{a:Addr}{args:Args}{o oc:Obj}{fd:FuncData}{cc:Addr}{fv:Array Value}{q:Str}{tq:Tok}
theorem uG{body:List Stmt}(hroom:A.depth<recursionLimit)(ho:s.heap.get? a=some o)(hd:o.data= .func fd)(hco:fd.scope.isCoroutine=false)(hgen:fd.scope.isGenerator=false)
  (hc:fd.code= .ref cc) (hoc:s.heap.get? cc=some oc) (hdc:oc.data= .fields fv) (hq:fv[1]? =some (.str q tq)) (hbody:fd.body= .stmts body)
  (h:wpAny (model P w) A.in1 (bindArgs fd args) (fun binds s1=>wpAny (model P w) A.in1 (newFunctionEnv fd.scope fd.globals fd.closure binds (q ++ ".<locals>.") (some a) (.ref cc) none fd.builtins)
    (fun env s2=>s2.heap.NoLimit/\codeAny (model P w) A (.func body env) R s2) (fun e s'=>R (.error e) s') s1) (fun e s'=>R (.error e) s') s):codeAny (model P w) A (.call (.ref a) args) R s:=by
 refine codeAny_of_tree (show wpAny _ A.in1 (callAny (.ref a) args) _ _ s from ?_)
 unfold callAny
 refine wpAny_bind (wpAny_load ho ?_)
 simp only[hd,callFunction,hco,hgen,hbody,hc]
 refine wpAny_bind (m:=field (.ref cc) 1) (wpAny_field hoc hdc hq (wpAny_bind (wpAny_pure (wpAny_bind (wpAny_mono h (fun binds s1 h1=> ?_) fun _ _ z=>z)))))
 exact wpAny_bind (wpAny_mono h1 (fun env s2 h2=>wpAny_bind (wpAny_enterFrame h2.1 hroom (wpAny_pure ⟨rfl,h2.2⟩))) fun _ _ z=>z)
end
abbrev CH:=List V->List V->Hp->VK->XK->Prop
structure pd(P:Program)(w:World)(K:Fg)(mg:Str->Option Value)(base:Bs)(CX:jF)(k:Nat)(n:jw)(sp:CH):Prop where
 run:∀(A:Around) (outer:List Env) (s:Shared) (H:Hp) (q:Addr) (cl:List (Str×Addr)) (us:List Value) (vs cv:List V) (Q:VK) (E:XK),br k A->m4 P w K mg base A outer s H->fF n H q cl->cg H n.free cl cv->aR vs us->sp vs cv H Q E ->
  codeAny (model P w) A (.call (.ref q) ⟨us,[]⟩) (CR CX outer P w H s Q E) s
noncomputable section
variable{CX:jF}{P:Program}{w:World}{K:Fg}{mg:Str->Option Value}{base:Bs}{k:Nat}{n:jw}{N ps:List Str}{sp:CH}
theorem AV{body:List Stmt}(hb:n.body= .stmts body)(S:ml N ps n.free n.scope)(len:∀vs cv H Q E,sp vs cv H Q E->vs.length=ps.length)
  (hbind:∀(nm qual:Str) (cl:List (Str×Addr)) (doc pm cdv ct:Value) (us:List Value),us.length=ps.length->bindArgs (E1 n nm qual cl doc pm cdv ct) ⟨us,[]⟩=pure (ps.zip us))
  (hbody:∀(qual:Str) (cd:Value) (cl:List (Str×Addr)) (f:Addr) (A:Around) (outer:List Env) (s:Shared) (H:Hp) (vs cv:List V) (Q:VK) (E:XK),br k (A.deeper (PySem.W.envX qual n.scope s.heap.objs.size f cd cl))->cg H n.free cl cv->sp vs cv H Q E ->
   ∃t,nI (E2 CX P w K mg base N qual n.scope f cd cl A outer s H E) body t/\t { nx:=fun _ H'=>Q .non H',rt:=Q } (start N (vs++cv)) H):pd P w K mg base CX (k+1) n sp:=by
 refine⟨fun A outer s H q cl us vs cv Q E hr e0 hc hce r hsp=> ?_⟩
 obtain⟨o,u,nm,qual,doc,pm,cc,ct,oc,u2,e1,e2,e3,e4,fv,fq,tq,e5,e6⟩:=hc
 obtain⟨g1,_⟩:=e0.hok q _ e1
 obtain⟨g2,_⟩:=e0.hok cc _ e4
 have lim:s.heap.NoLimit:=e0.mod.nolimit.keeps fun b o e=>(e0.bs b o e).1
 have hlu:us.length=ps.length:=by rw[<-r.length];exact len _ _ _ _ _ hsp
 refine uG hr.depth g1 e3 S.co S.gen rfl g2 e5 e6 hb ?_
 rw[hbind _ _ _ _ _ _ _ _ hlu]
 refine wpAny_pure (wpAny_newFunctionEnv S.nocell (fun x hx=>S.par x.1 (List.of_mem_zip (show(x.1,x.2)∈ps.zip us from hx)).1) (fun h1 hns hsb=>⟨lim.fresh _ hsb,codeAny_func ?_⟩) S.kind)
 have hk:∀b o,s.heap.get? b=some o->h1.get? b=some o:=fun b o e=>hsb.extBut b o (Nat.ne_of_lt (Heap.lt_size e)) (Heap.get?_push_of_some _ e)
 obtain⟨t,ht,hq⟩:=hbody fq (.ref cc) cl q A outer s H vs cv Q E (hr.deeper _) hce hsp
 have I:=pc (CX:=CX) (N:=N) (qual:=fq) (f:=q) (cd:= .ref cc) (E:=E) (tk:=s.toks+(ps.zip us).length) S hr.hd e0 (len _ _ _ _ _ hsp) r hce hns hk
 refine wpAny_mono (ht [] _ _ H _ I hq) (fun fl s' hs=> ?_) fun e s' hs=>hs
 cases fl with
 |ret u =>
  obtain⟨v,H',J,rv,q⟩:=hs
  exact⟨v,H',J.os,J.bare,J.base,J.hok,rv,q⟩
 |next =>
  obtain⟨σ',H',J,q⟩:=hs
  exact⟨V.non,H',J.os,J.bare,J.base,J.hok,rfl,q⟩
 |brk=>obtain⟨_,_,_,q⟩:=hs;exact q.elim
 |cont=>obtain⟨_,_,_,q⟩:=hs;exact q.elim
end
noncomputable section
variable{X:Cx}{CX:jF}{k:Nat}{E:XK}{x m:Str}{p pos apos:Pos}{e o:Expr}{es:List Expr}{ta:TE}{t:TA}{ι :Type}{nn: ι ->jw}{sp: ι ->CH}
def uH(nn: ι ->jw)(sp: ι ->CH)(E:XK)(t:TA)(σ :St)(H:Hp)(x:V)(Q:VK):Prop:=∃(i: ι) (q:Addr) (cl:List (Str×Addr)) (cv:List V),x= .ref q/\fF (nn i) H q cl/\t σ H fun vs H2=>fF (nn i) H2 q cl/\cg H2 (nn i).free cl cv/\sp i vs cv H2 Q E
theorem fF.fn{pins:List (Addr×Obj)}{σ :St}{H:Hp}{s:Shared}{n:jw}{q:Addr}{cl:List (Str×Addr)}(I:aA X pins σ H s)(h:fF n H q cl):PySem.W.FnAt q s.heap:=by
 obtain⟨o,u,nm,qual,doc,pm,cc,ct,oc,u2,e1,e2,e3,_⟩:=h
 obtain⟨g,_⟩:=I.hok q _ e1
 obtain⟨c,d,dt,sl⟩:=o
 exact⟨c,d,_,sl,by rw[g];exact congrArg (fun z=>some (Obj.mk c d z sl)) e3⟩
theorem yi{pins:List (Addr×Obj)}{σ :St}{H:Hp}{s:Shared}{Q:VK}{us:List Value}{vs cv:List V}{n:jw}{sp:CH}{q:Addr}{cl:List (Str×Addr)}(F:pd X.prog X.w X.K X.mg X.base CX k n sp)(hr:br k X.A)(hx:eF CX X E)
  (I:aA X pins σ H s) (hc:fF n H q cl) (hce:cg H n.free cl cv) (r:aR vs us) (h:sp vs cv H Q E):wpAny .(E) X.A (call (.ref q) us) (EP X pins σ Q) X.xe s:=by
 refine wpAny_call (codeAny_mono (F.run X.A X.stack s H q cl us vs cv Q E hr I.env0 hc hce r h) fun r s' hq=> ?_)
 cases r with
 |error e=>exact hx pins σ H s e s' I hq
 |ok fl =>
  cases fl with
  |ret u=>exact I.after hq
  |next=>exact False.elim hq
  |brk=>exact False.elim hq
  |cont=>exact False.elim hq
theorem uI{pl:Sem Bool}(he:PE X o ta)(F:∀i,pd X.prog X.w X.K X.mg X.base CX k (nn i) (sp i))(hr:br k X.A)(hx:eF CX X E)(ha:PA X (e::es) t)
  (hst:starEach (e::es) X.env=.(U)::starEach es X.env:=by rfl) (hpl:.(W).any (·.1)=false:=by rfl)
  (ht:eval .(AD) X.env=(do
   let ov <- eval o X.env
   standAt apos.atName
   let (f,first) <- holding [ov] (getMethod ov m pl)
   callWith pos f first (backTo pos (starEach (e::es) X.env)) (backToKw pos (keywordEach [] X.env))):=by rfl) :
  PE X .(AD) (fun σ H Q=>ta σ H fun v H1=>∃a C dx fs u,v= .ref a/\H1 a=some (.ins C dx fs)/\kO X.K C/\bj X.K C m/\fs.lookup m=some u/\uH nn sp E t σ H1 u Q):=by
 intro pins s σ H Q I h
 refine PySem.W.methodCall_KW (pl:=pl) (bx (he pins s σ H _ I h) fun u s1 ⟨v,H1,I1,rv,a,C,dx,fs,y,ev,ea,hC,hn,hl,h2⟩=> ?_) ht
 subst ev
 obtain rfl:u=Value.ref a:=rv
 obtain⟨mA,O,r,_,_,_⟩:=hZ I1.hok ea
 obtain⟨od,J,_⟩:=O.look
 refine PySem.W.method_usual I1.kIn J (PySem.W.plainGet_of (hC.get m)).1 (PySem.W.plainGet_of (hC.get m)).2 hn rfl (jD I1 ea hC hn hl fun z s2 I2 rz=> ?_)
 obtain⟨i,q,cl,cv,eq,hc,h1⟩:=h2
 subst eq
 obtain rfl:z=Value.ref q:=rz
 exact PySem.W.callWith_F (hc.fn I2) (bx (ha pos pins s2 σ H1 _ I2 h1) fun us s3 ⟨vs,H2,I3,r,hc2,hce,h3⟩=>⟨hc2.fn I3,yi (F i) hr hx I3 hc2 hce r h3⟩) hst hpl
end
end L2
end
noncomputable section
namespace L2
open PySem PySem.Spec PyProof.Rows
noncomputable section
variable{X:Cx}{pins:List (Addr×Obj)}{σ :St}{H:Hp}{s:Shared}
theorem aA.seal(I:aA X pins σ H s){x:Str}{c:Addr}(hx:X.env.cells.lookup x=some c)(hf:X.fn x=false)(hw:X.cw x=true) :
  ∃H',aA X pins σ H' s/\(∀a o,H a=some o->H' a=some o)/\ ∃ob u,H' c=some (.frz ob u):=by
 obtain⟨v,ob,hob,hd⟩:=I.cell x c hx
 rcases I.freeC x c hx with hc|⟨_,o,u,hc⟩
 ·have ne:∀{b:Addr} {o:HO},H b=some o->b≠c:=fun {b o} e z=>by rw[z,hc]at e;cases e
  refine⟨upd H c (.frz ob (.own 0)),⟨I.ok,I.os,I.bare,⟨I.base.keep,I.base.slot,fun b o e n hb=> ?_,I.base.there,fun b xs e=> ?_,fun b o u e=> ?_,fun b q e=> ?_⟩,I.loc,I.cell,?_,fun y c' e=> ?_,fun p hp=> ?_,fun b o e=> ?_,I.len⟩,fun a o e=> ?_,ob,.own 0,au⟩
  ·rw[aq (Nat.ne_of_lt (Nat.lt_of_lt_of_le (Heap.lt_size e) (I.ok.cab x c hw hx)))]
   exact I.base.free b o e n hb
  ·have:=I.base.tups b xs e;rw[aq (ne this)];exact this
  ·have:=I.base.frzs b o u e;rw[aq (ne this)];exact this
  ·have:=I.base.tbls b q e;rw[aq (ne this)];exact this
  ·rw[aq (Ne.symm (I.cne x c hx))];exact I.free
  ·by_cases h:c'=c
   ·subst h
    have:y=x:=I.ok.inj y x c' e hx
    subst this
    exact .inr ⟨hf,ob,.own 0,au⟩
   ·rw[aq h];exact I.freeC y c' e
  ·obtain⟨e,n,ne',nf,d⟩:=I.pin p hp
   have:p.1≠c:=fun z=>by
    rw[z,hob]at e
    have q:ob=p.2:=Option.some.inj e
    exact d v (by rw[<-q];exact hd)
   exact⟨e,by rw[aq this];exact n,ne',nf,d⟩
  ·by_cases h:b=c
   ·subst h;rw[au]at e;cases e;exact⟨hob,ob,hob⟩
   ·rw[aq h]at e
    exact(I.hok b o e).stay (fun _ _ _ q=>q) (fun d q=>by rw[aq (ne q)];exact q) (fun d xs q=>by rw[aq (ne q)];exact q) fun d o u q=>by rw[aq (ne q)];exact q
  ·rw[aq (ne e)];exact e
 ·exact⟨H,I,fun _ _ e=>e,o,u,hc⟩
theorem aA.sealAll:∀(fr:List Str) {H:Hp},aA X pins σ H s->(∀x∈fr,(∃c,X.env.cells.lookup x=some c)/\X.fn x=false/\X.cw x=true) ->
  ∃H',aA X pins σ H' s/\(∀a o,H a=some o->H' a=some o)/\ ∀x∈fr,∃c ob u,X.env.cells.lookup x=some c/\H' c=some (.frz ob u)
 |[],H,I,_=>⟨H,I,fun _ _ e=>e,fun x hx=>absurd hx (by simp)⟩
 |y::fr,H,I,h=>by
  obtain⟨⟨c,hc⟩,hf,hw⟩:=h y List.mem_cons_self
  obtain⟨H1,I1,s1,ob,u,e1⟩:=I.seal hc hf hw
  obtain⟨H2,I2,s2,e2⟩:=aA.sealAll fr I1 fun x hx=>h x (List.mem_cons_of_mem _ hx)
  refine⟨H2,I2,fun a o e=>s2 _ _ (s1 _ _ e),fun x hx=> ?_⟩
  rcases List.mem_cons.mp hx with rfl|hx
  ·exact⟨c,ob,u,hc,s2 _ _ e1⟩
  ·exact e2 x hx
theorem pe{pos:Pos}{a b:Int}{c cv:Value}(l:List Value)(h:TriplesOk l)(e:codeAmong pos (l++[rawInt a,rawInt b,c])=some cv):codeAmong pos l=some cv\/cv=c:=by
 fun_induction TriplesOk l with
 |case1 =>
  simp only[List.nil_append,rawInt,codeAmong]at e
  split at e
  ·cases e;exact .inr rfl
  ·cases e
 |case2 l1 t1 l2 t2 d rest ih =>
  simp only[List.cons_append,codeAmong]at e ⊢
  split at e
  ·rename_i hc;rw[if_pos hc];exact .inl e
  ·rename_i hc;rw[if_neg hc];exact ih h e
 |case3 l h1 h2=>exact h.elim
theorem aA.madeNew{P c':Addr}{oc fo:Obj}{h':Heap}{ps:Array Value}{a b:Int}{tk:Nat}{q:Nat}(I:aA X pins σ H s)(hP:H P=some (.tbl q))(hx:Heap.ExtBut P s.heap h')(h1:s.heap.objs.size<=c')(h2:c'<h'.objs.size)
  (hps:s.heap.get? P=some (PySem.W.tabObj ps)) (ht:TriplesOk ps.toList) (hT:h'.get? P=some (PySem.W.tabObj (ps ++ #[rawInt a,rawInt b,.ref c']))) (hoc:h'.get? c'=some oc) (hC:tZ oc) (hfo:fo.isFreed=false) :
  aA X pins σ (upd (upd H c' (.frz oc (.own 0))) h'.objs.size (.frz fo (.own 0))) { s with heap:=h'.push fo,toks:=tk }:=by
 have hq:s.heap.objs.size<=h'.objs.size:=Nat.le_trans h1 (Nat.le_of_lt h2)
 have n1:H c'=none:=I.hok.fresh h1
 have n2:H h'.objs.size=none:=I.hok.fresh hq
 have ne1:∀{b:Addr} {o:HO},H b=some o->b≠c':=fun {b o} e z=>by rw[z,n1]at e;cases e
 have ne2:∀{b:Addr} {o:HO},H b=some o->b≠h'.objs.size:=fun {b o} e z=>by rw[z,n2]at e;cases e
 have up:∀{b:Addr} {o:HO},H b=some o->upd (upd H c' (.frz oc (.own 0))) h'.objs.size (.frz fo (.own 0)) b=some o:=fun {b o} e=>by rw[aq (ne2 e),aq (ne1 e)];exact e
 have old1:∀{b:Addr} {o:Obj},s.heap.get? b=some o->b≠c':=fun {b o} e=>Nat.ne_of_lt (Nat.lt_of_lt_of_le (Heap.lt_size e) h1)
 have old2:∀{b:Addr} {o:Obj},s.heap.get? b=some o->b≠h'.objs.size:=fun {b o} e=>Nat.ne_of_lt (Nat.lt_of_lt_of_le (Heap.lt_size e) hq)
 have keep:∀b o,b≠P->s.heap.get? b=some o->(h'.push fo).get? b=some o:=fun b o n e=>Heap.get?_push_of_some _ (hx b o n e)
 have hTp:(h'.push fo).get? P=some (PySem.W.tabObj (ps ++ #[rawInt a,rawInt b,.ref c'])):=Heap.get?_push_of_some _ hT
 have unP:∀b,H b=none->b≠P:=fun b n z=>by rw[z,hP]at n;cases n
 refine I.un (h':=h'.push fo) (t':=tk) ⟨fun b o e n _ _=>keep b o (unP b n) e,fun b o e n _ _=>⟨o.slots,keep b o (unP b n) e⟩,fun b o e n _=>by rw[aq (old2 e),aq (old1 e)];exact n,fun b o e _=> ?_,fun b xs e=>up e,fun b o u e=>up e,fun b q e=>up e⟩ fun b o e=> ?_
 ·by_cases hb:b=P
  ·rw[hb];exact⟨_,hTp⟩
  ·exact⟨o,keep b o hb e⟩
 ·by_cases hb2:b=h'.objs.size
  ·subst hb2
   rw[au]at e;cases e
   have:(h'.push fo).get? h'.objs.size=some fo:=Heap.get?_push_size _ hfo
   exact⟨this,fo,this⟩
  ·rw[aq hb2]at e
   by_cases hb1:b=c'
   ·subst hb1
    rw[au]at e;cases e
    have:=Heap.get?_push_of_some (h:=h') fo hoc
    exact⟨this,oc,this⟩
   ·rw[aq hb1]at e
    by_cases hbP:b=P
    ·subst hbP
     rw[hP]at e;cases e
     obtain⟨ps',e1,_,r⟩:=I.hok b _ hP
     rw[hps]at e1;cases e1
     refine⟨_,hTp,by rw[Array.toList_append];exact TriplesOk_snoc _ _ _ _ ht,fun pos cv z=> ?_⟩
     rw[Array.toList_append]at z
     rcases pe _ ht z with z|z
     ·obtain⟨c,o',u,a1,a2,a3⟩:=r pos cv z
      exact⟨c,o',u,a1,up a2,a3⟩
     ·exact⟨c',oc,.own 0,z,by rw[aq (Nat.ne_of_lt h2),au],hC⟩
    ·refine(I.hok b o e).stay (fun d v hd' z=>keep d v ?_ z) (fun d z=>up z) (fun d xs z=>up z) fun d o u z=>up z
     rcases hd' with rfl|hd'
     ·exact hbP
     ·rintro rfl;rw[hP]at hd';cases hd'
structure E3(X:Cx)(c P:Addr):Prop where
 code:X.env.code= .ref c
 hd:PySem.W.codeHdIn X.K c P=true
 tab:P∈X.base.tabs
structure l7(X:Cx)(n:jw)(js:List Nat):Prop where
 len:n.free.length=js.length
 at_:∀(i:Nat) x j,n.free[i]? =some x->js[i]? =some j->X.N[j]? =some x/\X.env.kindOf x=some .cell/\X.fn x=false/\X.cw x=true/\(x,NameKind.free)∈n.scope.names
 all:∀y∈n.scope.names,y.2= .free->y.1∈n.free
def AW(σ :St)(js:List Nat)(cv:List V):Prop:=js.length=cv.length/\ ∀(i:Nat) j v,js[i]? =some j->cv[i]? =some v-> σ[j]? =some (some v)
theorem l7.mem{n:jw}{js:List Nat}(T:l7 X n js){x:Str}(hx:x∈n.free):∃(i j:Nat),n.free[i]? =some x/\js[i]? =some j:=by
 obtain⟨i,hi,e⟩:=List.getElem_of_mem hx
 have:i<js.length:=by rw[<-T.len];exact hi
 exact⟨i,js[i],by rw[List.getElem?_eq_getElem hi,e],List.getElem?_eq_getElem this⟩
theorem l8{env:Env}{x:Str}{c:Addr}:∀{ns:List (Str×NameKind)} {cs:List (Str×Addr)},(clos env ns cs).lookup x=some c->(∃d,cs.lookup x=some d)\/(x,NameKind.free)∈ns
 |[],cs,h=> .inl ⟨c,h⟩
 | (m,k)::r,cs,h=>by
  have ih:=l8 (ns:=r) h
  rcases ih with⟨d,ih⟩|ih
  ·by_cases hk:(k == NameKind.free)=true
   ·rw[if_pos hk]at ih
    cases e:env.cells.lookup m with
    |none=>rw[e]at ih;exact .inl ⟨d,ih⟩
    |some a =>
     rw[e]at ih
     by_cases hx:x == m
     ·have hx':x=m:=by simpa using hx
      have hk':k=NameKind.free:=by simpa using hk
      subst hx' hk'
      exact .inr List.mem_cons_self
     ·have ih:List.lookup x ((m,a)::cs)=some d:=ih
      rw[List.lookup_cons,show(x == m)=false from by simpa using hx]at ih
      exact .inl ⟨d,ih⟩
   ·rw[if_neg hk]at ih;exact .inl ⟨d,ih⟩
  ·exact .inr (List.mem_cons_of_mem _ ih)
theorem AX{c P:Addr}{n:jw}{js:List Nat}{cv:List V}{nm qual:Str}{pos:Pos}{line:Nat}{Q:Value->Shared->Prop}(I:aA X pins σ H s)(m:E3 X c P)(T:l7 X n js)(hv:AW σ js cv)
  (h:∀q cl H' s',aA X pins σ H' s'->(∀a o,H a=some o->H' a=some o)->H q=none->fF n H' q cl->cg H' n.free cl cv->Q (.ref q) s') :
  wpAny .(E) X.A (makeFunction nm qual n.params n.body n.scope X.env [] [] [] pos line) Q X.xe s:=by
 have has:∀x∈n.free,(∃c,X.env.cells.lookup x=some c)/\X.fn x=false/\X.cw x=true:=fun x hx=>by
  obtain⟨i,j,e1,e2⟩:=T.mem hx
  obtain⟨_,k,f,w,_⟩:=T.at_ i x j e1 e2
  exact⟨I.ok.has x (.inl k),f,w⟩
 have hcl:closureFor n.scope X.env=pure (clos X.env n.scope.names []):=eG fun y hy hk=>(has y.1 (T.all y hy hk)).1
 obtain⟨H1,I1,s1,hs⟩:=aA.sealAll n.free I has
 -- the cells
 have cells:∀H2:Hp,(∀a o u,H1 a=some (.frz o u)->H2 a=some (.frz o u))->cg H2 n.free (clos X.env n.scope.names []) cv:=fun H2 k=>by
  refine⟨T.len.trans hv.1,fun i x v e1 e2=> ?_,fun x d e=> ?_,fun x y d e1 e2=> ?_⟩
  ·have hi:i<js.length:=by rw[hv.1];exact(List.getElem?_eq_some_iff.mp e2).1
   have e3:=List.getElem?_eq_getElem hi
   obtain⟨a1,a2,a3,a4,a5⟩:=T.at_ i x js[i] e1 e3
   obtain⟨d,ob,u,b1,b2⟩:=hs x (List.mem_of_getElem? e1)
   obtain⟨mm,_,hl⟩:=I1.loc
   obtain⟨uu,r,l⟩:=hl js[i] x v a1 (hv.2 i js[i] v e3 e2) (.inr (.inl a2))
   obtain⟨g,_⟩:=I1.hok d _ b2
   rcases l with⟨k1,_⟩|⟨_,d',b3,oo,b4,b5⟩
   ·rw[a2]at k1;cases k1
   ·rw[b1]at b3;cases b3
    rw[g]at b4;cases b4
    exact⟨d,ob,u,uu,ig b1 a5,k _ _ _ b2,b5,r⟩
  ·rcases l8 e with⟨z,e'⟩|e'
   ·simp at e'
   ·exact T.all _ e' rfl
  ·have f1:=(ie e1).resolve_left (by simp)
   have f2:=(ie e2).resolve_left (by simp)
   exact I.ok.inj x y d f1 f2
 have hP:H1 P=some (.tbl 0):=I1.base.tbls P 0 (I.ok.tab P m.tab)
 obtain⟨ps,g1,ht,ent⟩:=I1.hok P _ hP
 have hg:s.heap.Ns mainGlobals X.mg:=I.mod.glob.keeps I.bk
 have C:PySem.W.CodeHd s.heap c P:=PySem.W.codeHd_of_K I.kIn m.hd
 have nP:∀{b:Addr} {o:Obj},X.base.get? b=some o->b≠P:=fun {b o} e z=>by
  have:=(I1.bs b o e).2
  rw[z,hP]at this;cases this
 have hgP:mainGlobals≠P:=by
  obtain⟨o,_,_,e,_⟩:=I.mod.glob
  exact nP e
 have hb:s.heap.BuiltinsAt X.mg P:=by
  obtain⟨bm,ob,a1,a2,a3,a4,a5,a6⟩:=I.mod.bmain
  refine⟨bm,ob,a1,a2,fun z=> ?_,nP a3,I.bk _ _ a3,a4,a5,a6⟩
  obtain⟨o,es,ep,e,d,_⟩:=I.mod.glob
  rw[z,e]at a3;cases a3;rw[d]at a6;cases a6
 have fz:∀{a:Addr} {o:HO},H a=some o->H1 a=some o:=fun e=>s1 _ _ e
 have fresh:∀{q:Addr},s.heap.objs.size<=q->H q=none:=fun e=>I.hok.fresh e
 have newC:∀(c':Addr) (h':Heap) (tk:Nat) (fo:Obj) (doc pm ct:Value),Heap.ExtBut P s.heap h'->s.heap.objs.size<=c'->c'<h'.objs.size->h'.CodeRec (.ref c') qual->h'.get? P=some (PySem.W.tabObj (ps ++ #[rawInt pos.line,rawInt pos.col,.ref c'])) ->
   fo.isFreed=false->fo.cls= .type "function"->fo.data= .func (E1 n nm qual (clos X.env n.scope.names []) doc pm (.ref c') ct)->Q (.ref h'.objs.size) { s with heap:=h'.push fo,toks:=tk }:=fun c' h' tk fo doc pm ct hx x1 x2 hrec hT f1 f2 f3=>by
  obtain⟨c2,oc,fv,t,z1,z2,z3,z4⟩:=hrec
  cases z1
  have hq:s.heap.objs.size<=h'.objs.size:=Nat.le_trans x1 (Nat.le_of_lt x2)
  have J:=I1.madeNew (tk:=tk) hP hx x1 x2 g1 ht hT z2 ⟨fv,qual,t,z3,z4⟩ f1
  have n1:=I1.hok.fresh x1
  have n2:=I1.hok.fresh hq
  have up:∀{b:Addr} {o:HO},H1 b=some o->upd (upd H1 c' (.frz oc (.own 0))) h'.objs.size (.frz fo (.own 0)) b=some o:=fun {b o} e=>by
   rw[aq (aO e n2),aq (aO e n1)];exact e
  refine h _ (clos X.env n.scope.names []) _ _ J (fun a o e=>up (fz e)) (fresh hq) ⟨fo,.own 0,nm,qual,doc,pm,c',ct,oc,.own 0,au,f2,f3,by rw[aq (Nat.ne_of_lt x2),au],fv,qual,t,z3,z4⟩ (cells _ fun a o u e=>up e)
 have hitC:∀(cv':Value) (h':Heap) (tk:Nat) (fo:Obj) (doc pm ct:Value),codeAmong pos ps.toList=some cv'->(∀b o,s.heap.get? b=some o->h'.get? b=some o)->s.heap.objs.size<=h'.objs.size ->
   fo.isFreed=false->fo.cls= .type "function"->fo.data= .func (E1 n nm qual (clos X.env n.scope.names []) doc pm cv' ct)->Q (.ref h'.objs.size) { s with heap:=h'.push fo,toks:=tk }:=fun cv' h' tk fo doc pm ct hf hk hq f1 f2 f3=>by
  obtain⟨c',oc,u,z1,z2,z3⟩:=ent pos cv' hf
  subst z1
  have n2:=I1.hok.fresh hq
  have J:=I1.laid (o:= .frz fo (.own 0)) (h':=h'.push fo) (t':=tk) (fun b o e=>Heap.get?_push_of_some _ (hk b o e)) hq (show bE X.prog X.w _ _ _ (.frz fo (.own 0)) from by
   have:=Heap.get?_push_size h' f1
   exact⟨this,fo,this⟩)
  have up:∀{b:Addr} {o:HO},H1 b=some o->upd H1 h'.objs.size (.frz fo (.own 0)) b=some o:=fun {b o} e=>by rw[aq (aO e n2)];exact e
  exact h _ (clos X.env n.scope.names []) _ _ J (fun a o e=>up (fz e)) (fresh hq) ⟨fo,.own 0,nm,qual,doc,pm,c',ct,oc,u,au,f2,f3,up z2,z3⟩ (cells _ fun a o u e=>up e)
 obtain⟨prm,bd,sc,fr⟩:=n
 cases bd with
 |stmts body =>
  cases hf:codeAmong pos ps.toList with
  |none=>exact PySem.W.makeFunction_K hcl I.ok.glob hg m.code C g1 ht hf hgP hb fun c' ct doc h' tk hx x1 x2 hrec hT=>newC c' h' tk _ doc _ ct hx x1 x2 hrec hT rfl rfl rfl
  |some cv'=>exact PySem.W.makeFunction_hit hcl I.ok.glob hg m.code C g1 ht hf hb fun ct doc h' tk hk hq=>hitC cv' h' tk _ doc _ ct hf hk hq rfl rfl rfl
 |expr body =>
  cases hf:codeAmong pos ps.toList with
  |none=>exact PySem.W.kla_makeFunction hcl I.ok.glob hg m.code C g1 ht hf hgP hb fun c' ct h' tk hx x1 x2 hrec hT=>newC c' h' tk _ .none _ ct hx x1 x2 hrec hT rfl rfl rfl
  |some cv'=>exact PySem.W.kla_makeFunctionHit hcl I.ok.glob hg m.code C g1 ht hf hb fun ct h' tk hk hq=>hitC cv' h' tk _ .none _ ct hf hk hq rfl rfl rfl
def JJ(n:jw)(js:List Nat)(σ :St)(H:Hp)(Q:VK):Prop:=∃cv,AW σ js cv/\ ∀q cl H',(∀a o,H a=some o->H' a=some o)->H q=none->fF n H' q cl->cg H' n.free cl cv->Q (.ref q) H'
theorem AY{c P:Addr}{name:Str}{params:Arguments}{body:List Stmt}{scope:Scope}{fr:List Str}{js:List Nat}{pos:Pos}{i:Nat}(m:E3 X c P)(T:l7 X ⟨params,.stmts body,scope,fr⟩ js)(hN:X.N.Nodup)(hi:X.N[i]? =some name)(hx:nw X.env.scope name)
  (hd0:params.defaults=[]:=by rfl) (hk0:params.kw_defaults=[]:=by rfl) (ha:annTrees params none X.env=[]:=by rfl) (hf:X.fn name=true\/X.env.scope.names.lookup name=some .local:=by first|exact .inl rfl|exact .inr rfl|assumption) :
  PS X (.FunctionDef name params body [] none [] scope none name pos) (fun D σ H=>JJ ⟨params,.stmts body,scope,fr⟩ js σ H fun v H'=>D.nx (σ.set i (some v)) H'):=by
 intro pins s σ H D I ⟨cv,hv,h⟩
 refine PySem.W.nestDef_K hd0 hk0 ha (AX (n:=⟨params,.stmts body,scope,fr⟩) I m T hv fun q cl H' s' I' sm hn hc hce=> ?_)
 exact hJ I' hN hi hx (show aQ (.ref q) (.ref q) from rfl) (fun s'' I''=>⟨_,H',I'',h q cl H' sm hn hc hce⟩) hf
end
end L2
end
noncomputable section
namespace DN
open PySem L2
inductive PV where
 |non|bl (b:Bool)|int (i:Int)|str (x:Str)
 |tup (xs:List PV)|lst (xs:List PV)|obj (k:Nat) (xs:List PV)|dic (ks:List Key) (xs:List PV)|clo (f:Nat) (xs:List PV)|dit (ks:List (List Key)) (xs:List PV)
inductive Rx (α :Type) where
 |ok (a: α)|bad|exc (c:Nat)
noncomputable def Rx.bind{α β :Type}:Rx α ->(α ->Rx β)->Rx β
 |.ok a,f=>f a
 |.bad,_=> .bad
 |.exc c,_=> .exc c
theorem ai{α β :Type}{m:Rx α}{f: α ->Rx β}{b: β}(h:m.bind f= .ok b):∃a,m= .ok a/\f a= .ok b:=by
 cases m with
 |ok a=>exact⟨a,rfl,h⟩
 |bad=>cases h
 |exc c=>cases h
@[simp]theorem ao{α β :Type}(a: α)(f: α ->Rx β):(Rx.ok a).bind f=f a:=rfl
@[simp]theorem E4{α β :Type}(f: α ->Rx β):(Rx.bad:Rx α).bind f= .bad:=rfl
@[simp]theorem E5{α β :Type}(c:Nat)(f: α ->Rx β):(Rx.exc c:Rx α).bind f= .exc c:=rfl
structure Pg where
 cA:Nat->Addr
 fN:Nat->List Str
 nF:Nat->jw
abbrev Av:=Addr->Prop
def E6(K:Fg)(H:Hp)(A:Av)(a:Addr)(vs:List V):Prop :=
 (H a=some (.lst vs)/\ ¬A a)\/(∃o,H a=some (.frz o (.lst vs))) \/
  ∃(o:Obj) (its:Array Value) (n:Nat),K.lookup a=some o/\o.cls= .type "list"/\o.dict=none/\o.data= .seq its n/\its.size<=sizeLine/\aR vs its.toList
theorem E6.sq{K:Fg}{H:Hp}{A:Av}{a:Addr}{vs:List V}(h:E6 K H A a vs):eE K H a vs:=by
 rcases h with⟨h,_⟩|⟨o,h⟩|h
 ·exact .inl (.inl h)
 ·exact .inl (.inr ⟨o,h⟩)
 ·exact .inr h
mutual
noncomputable def cU(K:Fg)(G:Pg)(H:Hp)(A:Av):PV->V->Prop
 |.non,v=>v= .non
 |.bl b,v=>v= .bl b
 |.int i,v=>v= .int i
 |.str x,v=>v= .str x
 |.tup xs,v=>∃a vs,v= .ref a/\H a=some (.tup vs)/\aD K G H A xs vs
 |.lst xs,v=>∃a vs,v= .ref a/\E6 K H A a vs/\aD K G H A xs vs
 |.obj k xs,v=>∃a dx vs,v= .ref a/\H a=some (.ins (G.cA k) dx ((G.fN k).zip vs))/\(G.fN k).length=vs.length/\ ¬A a/\aD K G H A xs vs
 |.dic ks xs,v=>∃a vs,v= .ref a/\H a=some (.dK (ks.zip vs))/\ks.length=vs.length/\ ¬A a/\aD K G H A xs vs
 |.dit ks xs,v=>∃a vs,v= .ref a/\H a=some (.dT (ks.zip vs))/\ks.length=vs.length/\ ¬A a/\aD K G H A xs vs
 |.clo f xs,v=>∃q cl vs,v= .ref q/\fF (G.nF f) H q cl/\cg H (G.nF f).free cl vs/\aD K G H A xs vs
noncomputable def aD(K:Fg)(G:Pg)(H:Hp)(A:Av):List PV->List V->Prop
 |[],vs=>vs=[]
 |x::xs,vs=>∃v r,vs=v::r/\cU K G H A x v/\aD K G H A xs r
end
abbrev Mt(o:HO):Prop:=(∀xs,o ≠ .tup xs)/\ ∀o' u,o ≠ .frz o' u
structure Kp(K:Fg)(G:Pg)(H:Hp)(A:Av)(H':Hp)(A':Av):Prop where
 rd:∀a o,H a=some o->¬A a->H' a=some o
 tp:∀a vs,H a=some (.tup vs)->H' a=some (.tup vs)
 fz:∀a o u,H a=some (.frz o u)->H' a=some (.frz o u)
 av:∀a,H a≠none->A' a->A a
noncomputable section
variable{K:Fg}{G:Pg}{H H' H2:Hp}{A A' A2:Av}
theorem Kp.rdL(k:Kp K G H A H' A'){a:Addr}{vs:List V}(h:E6 K H A a vs):E6 K H' A' a vs:=by
 rcases h with⟨h,n⟩|⟨o,h⟩|h
 ·exact .inl ⟨k.rd _ _ h n,fun z=>n (k.av _ (by rw[h];simp) z)⟩
 ·exact .inr (.inl ⟨o,k.fz _ _ _ h⟩)
 ·exact .inr (.inr h)
mutual
theorem Kp.rep(k:Kp K G H A H' A'):∀{w:PV} {v:V},cU K G H A w v->cU K G H' A' w v
 |.non,_,h=>h
 |.bl _,_,h=>h
 |.int _,_,h=>h
 |.str _,_,h=>h
 |.tup xs,v,h=>by
  obtain⟨a,vs,e,s,r⟩:=h
  exact⟨a,vs,e,k.tp _ _ s,Kp.reps k r⟩
 |.lst xs,v,h=>by
  obtain⟨a,vs,e,s,r⟩:=h
  exact⟨a,vs,e,k.rdL s,Kp.reps k r⟩
 |.obj c xs,v,h=>by
  obtain⟨a,dx,vs,e,s,l,n,r⟩:=h
  exact⟨a,dx,vs,e,k.rd _ _ s n,l,fun z=>n (k.av _ (by rw[s];simp) z),Kp.reps k r⟩
 |.dic ks xs,v,h=>by
  obtain⟨a,vs,e,s,l,n,r⟩:=h
  exact⟨a,vs,e,k.rd _ _ s n,l,fun z=>n (k.av _ (by rw[s];simp) z),Kp.reps k r⟩
 |.dit ks xs,v,h=>by
  obtain⟨a,vs,e,s,l,n,r⟩:=h
  exact⟨a,vs,e,k.rd _ _ s n,l,fun z=>n (k.av _ (by rw[s];simp) z),Kp.reps k r⟩
 |.clo f xs,v,h=>by
  obtain⟨q,cl,vs,e,hc,hce,r⟩:=h
  exact⟨q,cl,vs,e,hc.keep k.fz,hce.keep k.fz,Kp.reps k r⟩
theorem Kp.reps(k:Kp K G H A H' A'):∀{ws:List PV} {vs:List V},aD K G H A ws vs->aD K G H' A' ws vs
 |[],vs,h=>h
 |w::ws,vs,h=>by
  obtain⟨v,r,e,h1,h2⟩:=h
  exact⟨v,r,e,Kp.rep k h1,Kp.reps k h2⟩
end
theorem Kp.of_same(s:Same H H'):Kp K G H A H' A:=⟨fun a o h _=>s _ _ h,fun a vs h=>s _ _ h,fun a o u h=>s _ _ h,fun a _ h=>h⟩
theorem Kp.weak(h:∀a,A' a->A a):Kp K G H A H A':=⟨fun a o h _=>h,fun a vs h=>h,fun a o u h=>h,fun a _ z=>h a z⟩
theorem Kp.trans(k:Kp K G H A H' A')(k2:Kp K G H' A' H2 A2):Kp K G H A H2 A2 :=
 ⟨fun a o h n=>k2.rd _ _ (k.rd _ _ h n) fun z=>n (k.av _ (by rw[h];simp) z),fun a vs h=>k2.tp _ _ (k.tp _ _ h),fun a o u h=>k2.fz _ _ _ (k.fz _ _ _ h),
  fun a n z=>by
   by_cases q:A a
   ·exact q
   ·cases e:H a with
    |none=>exact absurd e n
    |some o=>exact k.av a n (k2.av a (by rw[k.rd _ _ e q];simp) z)⟩
theorem Kp.own{p:Addr}{o u:HO}(hA:A p)(hp:H p=some o)(m:Mt o):Kp K G H A (upd H p u) A :=
 ⟨fun a x h n=>by
   rw[aq (by intro z;subst z;exact n hA)];exact h,
  fun a vs h=>by
   rw[aq (by intro z;subst z;rw[hp]at h;exact m.1 _ (Option.some.inj h))];exact h,
  fun a o' u' h=>by
   rw[aq (by intro z;subst z;rw[hp]at h;exact m.2 _ _ (Option.some.inj h))];exact h,
  fun a _ h=>h⟩
theorem Kp.take{p:Addr}(hp:H p=none)(hs:Same H H')(h:∀a,A' a->a=p\/A a):Kp K G H A H' A' :=
 ⟨fun a o h _=>hs _ _ h,fun a vs h=>hs _ _ h,fun a o u h=>hs _ _ h,fun a n z=>by
  rcases h a z with e|e
  ·subst e;exact absurd hp n
  ·exact e⟩
theorem cU.same{w:PV}{v:V}(h:cU K G H A w v)(s:Same H H'):cU K G H' A w v:=(Kp.of_same s).rep h
theorem aD.same{ws:List PV}{vs:List V}(h:aD K G H A ws vs)(s:Same H H'):aD K G H' A ws vs:=(Kp.of_same s).reps h
theorem aD.len:∀{ws:List PV} {vs:List V},aD K G H A ws vs->ws.length=vs.length
 |[],vs,h=>by have h:vs=[]:=h;rw[h];rfl
 |w::ws,vs,h=>by
  obtain⟨v,r,e,_,h2⟩:=h
  subst e
  rw[List.length_cons,List.length_cons,aD.len h2]
theorem aD.get:∀{ws:List PV} {vs:List V} {i:Nat} {w:PV},aD K G H A ws vs->ws[i]? =some w->∃v,vs[i]? =some v/\cU K G H A w v
 |[],vs,i,w,h,e=>by simp at e
 |x::ws,vs,0,w,h,e=>by
  obtain⟨v,r,e',h1,h2⟩:=h
  subst e'
  simp at e;subst e
  exact⟨v,by simp,h1⟩
 |x::ws,vs,i+1,w,h,e=>by
  obtain⟨v,r,e',h1,h2⟩:=h
  subst e'
  obtain⟨u,q1,q2⟩:=aD.get (i:=i) h2 (by simpa using e)
  exact⟨u,by simpa using q1,q2⟩
theorem aD.app:∀{ws ws':List PV} {vs vs':List V},aD K G H A ws vs->aD K G H A ws' vs'->aD K G H A (ws++ws') (vs++vs')
 |[],ws',vs,vs',h,h'=>by have h:vs=[]:=h;subst h;exact h'
 |w::ws,ws',vs,vs',h,h'=>by
  obtain⟨v,r,e,h1,h2⟩:=h
  subst e
  exact⟨v,r++vs',rfl,h1,aD.app h2 h'⟩
theorem aD.one{w:PV}{v:V}(h:cU K G H A w v):aD K G H A [w] [v]:=⟨v,[],rfl,h,rfl⟩
theorem aD.snoc{ws:List PV}{vs:List V}{w:PV}{v:V}(h:aD K G H A ws vs)(h':cU K G H A w v):aD K G H A (ws++[w]) (vs++[v]):=h.app (.one h')
theorem aD.take:∀{ws:List PV} {vs:List V} (n:Nat),aD K G H A ws vs->aD K G H A (ws.take n) (vs.take n)
 |ws,vs,0,h=>by simp[aD]
 |[],vs,n+1,h=>by have h:vs=[]:=h;subst h;rfl
 |w::ws,vs,n+1,h=>by
  obtain⟨v,r,e,h1,h2⟩:=h
  subst e
  exact⟨v,r.take n,rfl,h1,aD.take n h2⟩
theorem aD.drop:∀{ws:List PV} {vs:List V} (n:Nat),aD K G H A ws vs->aD K G H A (ws.drop n) (vs.drop n)
 |ws,vs,0,h=>by simpa using h
 |[],vs,n+1,h=>by have h:vs=[]:=h;subst h;rfl
 |w::ws,vs,n+1,h=>by
  obtain⟨v,r,e,h1,h2⟩:=h
  subst e
  exact aD.drop n h2
theorem aD.ints:∀(ns:List Int),aD K G H A .(I) (ns.map V.int)
 |[]=>rfl
 |n::ns=>⟨_,_,rfl,rfl,aD.ints ns⟩
end
inductive Ow where
 |lst (xs:List PV)|dic (ks:List Key) (xs:List PV)|obj (k:Nat) (xs:List PV)|dit (ks:List (List Key)) (xs:List PV)
inductive Sl where
 |no|v (w:PV)|own (o:Ow)|bor (w:PV)|ino (o:Ow)|ini (k:Nat) (xs:List PV)
  |dol (ks:List Key) (xss:List (List PV))|als (d j:Nat)
abbrev aT:=List Sl
noncomputable def Ow.pv:Ow->PV
 |.lst xs=> .lst xs
 |.dic ks xs=> .dic ks xs
 |.obj k xs=> .obj k xs
 |.dit ks xs=> .dit ks xs
def fm(K:Fg)(G:Pg)(H:Hp)(A:Av):Ow->Addr->Prop
 |.lst xs,p=>∃vs,H p=some (.lst vs)/\aD K G H A xs vs
 |.dic ks xs,p=>∃vs,H p=some (.dK (ks.zip vs))/\ks.length=vs.length/\aD K G H A xs vs
 |.dit ks xs,p=>∃vs,H p=some (.dT (ks.zip vs))/\ks.length=vs.length/\aD K G H A xs vs
 |.obj k xs,p=>∃dx vs,H p=some (.ins (G.cA k) dx ((G.fN k).zip vs))/\(G.fN k).length=vs.length/\aD K G H A xs vs
def yj(K:Fg)(G:Pg)(H:Hp)(A:Av)(k:Nat)(xs:List PV)(p:Addr):Prop:=∃dx vs,H p=some (.ins (G.cA k) dx (((G.fN k).take xs.length).zip vs))/\xs.length<=(G.fN k).length/\aD K G H A xs vs
structure Fr where
 H0:Hp
 A0:Av
 B0:Av
 lx:Option Addr
def jL(c:Fr)(H:Hp):Prop:=∀a o,c.H0 a=some o->c.lx≠some a->H a=some o
theorem jL.trans{c:Fr}{H H':Hp}(h:jL c H)(s:Same H H'):jL c H':=fun a o e n=>s _ _ (h a o e n)
theorem jL.free{c:Fr}{H:Hp}{p:Addr}(h:jL c H)(hp:H p=none)(n:c.lx≠some p):c.H0 p=none:=by
 cases e:c.H0 p with
 |none=>rfl
 |some o=>rw[h p o e n]at hp;cases hp
theorem jL.same{c:Fr}{H:Hp}(h:jL c H)(n:c.lx=none):Same c.H0 H:=fun a o e=>h a o e (by rw[n];simp)
theorem jL.of{c:Fr}{H:Hp}(s:Same c.H0 H):jL c H:=fun a o e _=>s a o e
abbrev gJ:=Nat->Option Addr
def av(c:Fr)(ow:gJ):Av:=fun a=>c.A0 a\/ ∃i,ow i=some a
def bK(K:Fg)(G:Pg)(H:Hp)(A:Av)(w:PV)(v:V):Prop:=cU K G H A w v\/ ∃x p,w=x.pv/\v= .ref p/\fm K G H A x p
def vx(n d j:Nat):Nat:=n+(1000*d+j)
def nY(K:Fg)(G:Pg)(c:Fr)(n:Nat)(H:Hp)(A:Av)(ow:gJ)(i:Nat):Sl->Option V->Prop
 |.no,_=>ow i=none
 |.v w,o=>ow i=none/\ ∃v,o=some v/\cU K G H A w v
 |.own x,o=>∃p,ow i=some p/\o=some (.ref p)/\fm K G H A x p
 |.bor w,o=>ow i=none/\ ∃v,o=some v/\(cU K G H A w v\/ ∃x p,w=x.pv/\v= .ref p/\fm K G H A x p/\c.B0 p)
 |.ino x,o=>ow i=none/\i=0/\ ∃p,o=some (.ref p)/\c.lx=some p/\fm K G H A x p
 |.ini k xs,o=>ow i=none/\i=0/\ ∃p,o=some (.ref p)/\c.lx=some p/\yj K G H A k xs p
 |.dol ks xss,o=>∃(p:Addr) (qs:List Addr),ow i=some p/\o=some (.ref p)/\H p=some (.dK (ks.zip (qs.map V.ref)))/\ks.length=qs.length/\xss.length=qs.length/\qs.length<=1000/\ ∀j q xs,qs[j]? =some q->xss[j]? =some xs->ow (vx n i j)=some q/\fm K G H A (.lst xs) q
 |.als d j,o=>ow i=none/\ ∃q,o=some (.ref q)/\ow (vx n d j)=some q
structure aU(K:Fg)(G:Pg)(c:Fr)(H:Hp)(ow:gJ)(ps:aT)(σ :St):Prop where
 len:ps.length= σ.length
 same:jL c H
 lent:∀p,c.lx=some p->c.A0 p/\H p≠none
 a0:∀a,c.A0 a->c.H0 a≠none
 b0:∀a,c.B0 a->c.H0 a≠none/\c.lx≠some a
 fresh:∀i p,ow i=some p->c.H0 p=none
 inj:∀i j p,ow i=some p->ow j=some p->i=j
 out:∀i p,ow i=some p->i<ps.length\/H p≠none
 slot:∀i s o,ps[i]? =some s-> σ[i]? =some o->nY K G c ps.length H (av c ow) ow i s o
noncomputable section
variable{K:Fg}{G:Pg}{H H':Hp}{A A':Av}{c:Fr}{ow:gJ}{ps:aT}{σ :St}
theorem fm.at{x:Ow}{p:Addr}(h:fm K G H A x p):∃o,H p=some o/\Mt o:=by
 cases x with
 |lst xs=>obtain⟨vs,e,_⟩:=h;exact⟨_,e,And.intro (fun _ z=>by cases z) (fun _ _ z=>by cases z)⟩
 |dic ks xs=>obtain⟨vs,e,_⟩:=h;exact⟨_,e,And.intro (fun _ z=>by cases z) (fun _ _ z=>by cases z)⟩
 |dit ks xs=>obtain⟨vs,e,_⟩:=h;exact⟨_,e,And.intro (fun _ z=>by cases z) (fun _ _ z=>by cases z)⟩
 |obj k xs=>obtain⟨dx,vs,e,_⟩:=h;exact⟨_,e,And.intro (fun _ z=>by cases z) (fun _ _ z=>by cases z)⟩
theorem yj.keep{k:Nat}{xs:List PV}{p:Addr}(h:yj K G H A k xs p)(kp:Kp K G H A H' A')(e:H' p=H p):yj K G H' A' k xs p:=by
 obtain⟨dx,vs,q,l,r⟩:=h;exact⟨dx,vs,by rw[e];exact q,l,kp.reps r⟩
theorem fm.keep{x:Ow}{p:Addr}(h:fm K G H A x p)(k:Kp K G H A H' A')(e:H' p=H p):fm K G H' A' x p:=by
 cases x with
 |lst xs=>obtain⟨vs,q,r⟩:=h;exact⟨vs,by rw[e];exact q,k.reps r⟩
 |dic ks xs=>obtain⟨vs,q,l,r⟩:=h;exact⟨vs,by rw[e];exact q,l,k.reps r⟩
 |dit ks xs=>obtain⟨vs,q,l,r⟩:=h;exact⟨vs,by rw[e];exact q,l,k.reps r⟩
 |obj c xs=>obtain⟨dx,vs,q,l,r⟩:=h;exact⟨dx,vs,by rw[e];exact q,l,k.reps r⟩
theorem fm.freeze{x:Ow}{p:Addr}(h:fm K G H A x p)(n:¬A p):cU K G H A x.pv (.ref p):=by
 cases x with
 |lst xs=>obtain⟨vs,q,r⟩:=h;exact⟨p,vs,rfl,.inl ⟨q,n⟩,r⟩
 |dic ks xs=>obtain⟨vs,q,l,r⟩:=h;exact⟨p,vs,rfl,q,l,n,r⟩
 |dit ks xs=>obtain⟨vs,q,l,r⟩:=h;exact⟨p,vs,rfl,q,l,n,r⟩
 |obj c xs=>obtain⟨dx,vs,q,l,r⟩:=h;exact⟨p,dx,vs,rfl,q,l,n,r⟩
theorem aU.get(R:aU K G c H ow ps σ){i:Nat}{s:Sl}(e:ps[i]? =some s):∃o, σ[i]? =some o/\nY K G c ps.length H (av c ow) ow i s o:=by
 have hi:i<ps.length:=(List.getElem?_eq_some_iff.mp e).1
 have hi':i<σ.length:=by rw[<-R.len];exact hi
 exact⟨σ[i],List.getElem?_eq_getElem hi',R.slot i s _ e (List.getElem?_eq_getElem hi')⟩
theorem aU.getV(R:aU K G c H ow ps σ){i:Nat}{w:PV}(e:ps[i]? =some (.v w)):∃v, σ[i]? =some (some v)/\cU K G H (av c ow) w v:=by
 obtain⟨o,eo,_,v,rfl,r⟩:=R.get e
 exact⟨v,eo,r⟩
theorem aU.getO(R:aU K G c H ow ps σ){i:Nat}{x:Ow}(e:ps[i]? =some (.own x)):∃p,ow i=some p/\ σ[i]? =some (some (.ref p))/\fm K G H (av c ow) x p:=by
 obtain⟨o,eo,p,e1,rfl,r⟩:=R.get e
 exact⟨p,e1,eo,r⟩
theorem aU.used(R:aU K G c H ow ps σ):∀a,av c ow a->H a≠none:=by
 intro a h
 rcases h with h|⟨i,h⟩
 ·by_cases hl:c.lx=some a
  ·exact(R.lent a hl).2
  ·cases e:c.H0 a with
   |none=>exact absurd e (R.a0 a h)
   |some o=>rw[R.same _ _ e hl];simp
 ·rcases R.out i a h with hi|hv
  case inr=>exact hv
  obtain⟨o,eo,q⟩:=R.get (List.getElem?_eq_getElem hi)
  cases e:ps[i] with
  |no=>rw[e]at q;rw[show ow i=none from q]at h;cases h
  |v w=>rw[e]at q;rw[q.1]at h;cases h
  |bor w=>rw[e]at q;rw[q.1]at h;cases h
  |ino x=>rw[e]at q;rw[q.1]at h;cases h
  |ini k xs=>rw[e]at q;rw[q.1]at h;cases h
  |als d j=>rw[e]at q;rw[q.1]at h;cases h
  |dol ks xss =>
   rw[e]at q
   obtain⟨p,qs,e1,_,hp,_⟩:=q
   rw[e1]at h;cases h
   rw[hp];simp
  |own x =>
   rw[e]at q
   obtain⟨p,e1,_,r⟩:=q
   rw[e1]at h;cases h
   obtain⟨o',e',_⟩:=r.at
   rw[e'];simp
theorem nZ{w:PV}{v:V}{A A':Av}(b0:∀a,c.B0 a->c.H0 a≠none/\c.lx≠some a)(s:jL c H)(s':jL c H')(k:Kp K G H A H' A')(h:cU K G H A w v\/ ∃x p,w=x.pv/\v= .ref p/\fm K G H A x p/\c.B0 p) :
  cU K G H' A' w v\/ ∃x p,w=x.pv/\v= .ref p/\fm K G H' A' x p/\c.B0 p:=by
 rcases h with h|⟨x,p,e1,e2,r,n⟩
 ·exact .inl (k.rep h)
 ·refine .inr ⟨x,p,e1,e2,r.keep k ?_,n⟩
  cases q:c.H0 p with
  |none=>exact absurd q (b0 p n).1
  |some o=>rw[s _ _ q (b0 p n).2,s' _ _ q (b0 p n).2]
theorem nY.keep{n i:Nat}{x:Sl}{o:Option V}{ow':gJ}{A A':Av}(q:nY K G c n H A ow i x o)(b0:∀a,c.B0 a->c.H0 a≠none/\c.lx≠some a)(s:jL c H)(s':jL c H')(k:Kp K G H A H' A')(hr:ow' i=ow i)(hv:∀d j q,ow (vx n d j)=some q->ow' (vx n d j)=some q)
  (ho:∀p,ow i=some p->H' p=H p) (hw:∀j p,j<1000->ow (vx n i j)=some p->H' p=H p) (el:∀p,c.lx=some p->H' p=H p):nY K G c n H' A' ow' i x o:=by
 cases x with
 |no=>show ow' i=none;rw[hr];exact q
 |v w=>obtain⟨z,v,e3,r⟩:=q;exact⟨by rw[hr];exact z,v,e3,k.rep r⟩
 |own y=>obtain⟨p,e3,e4,r⟩:=q;exact⟨p,by rw[hr];exact e3,e4,r.keep k (ho p e3)⟩
 |bor w=>obtain⟨z,v,e3,r⟩:=q;exact⟨by rw[hr];exact z,v,e3,nZ b0 s s' k r⟩
 |ino y=>obtain⟨z,z2,p,e3,e4,r⟩:=q;exact⟨by rw[hr];exact z,z2,p,e3,e4,r.keep k (el p e4)⟩
 |ini c xs=>obtain⟨z,z2,p,e3,e4,r⟩:=q;exact⟨by rw[hr];exact z,z2,p,e3,e4,r.keep k (el p e4)⟩
 |dol ks xss =>
  obtain⟨p,qs,e1,e2,hp,l1,l2,l3,h⟩:=q
  refine⟨p,qs,by rw[hr];exact e1,e2,by rw[ho p e1];exact hp,l1,l2,l3,fun j q xs h1 h2=> ?_⟩
  obtain⟨h3,h4⟩:=h j q xs h1 h2
  exact⟨hv i j q h3,h4.keep k (hw j q (Nat.lt_of_lt_of_le (List.getElem?_eq_some_iff.mp h1).1 l3) h3)⟩
 |als d j=>obtain⟨z,q',e3,e4⟩:=q;exact⟨by rw[hr];exact z,q',e3,hv d j q' e4⟩
theorem aU.keep(R:aU K G c H ow ps σ)(s:jL c H')(k:Kp K G H (av c ow) H' (av c ow))(e:∀i p,ow i=some p->H' p=H p)(el:∀p,c.lx=some p->H' p=H p):aU K G c H' ow ps σ :=by
 refine⟨R.len,s,fun p h=>⟨(R.lent p h).1,by rw[el p h];exact(R.lent p h).2⟩,R.a0,R.b0,R.fresh,R.inj,fun i p h=> ?_,fun i x o e1 e2=> ?_⟩
 ·rcases R.out i p h with q|q
  ·exact .inl q
  ·right;rw[e i p h];exact q
 ·exact(R.slot i x o e1 e2).keep R.b0 R.same s k rfl (fun _ _ _ h=>h) (fun p h=>e i p h) (fun j p _ h=>e _ p h) el
theorem aU.grow(R:aU K G c H ow ps σ)(s:Same H H'):aU K G c H' ow ps σ :=
 R.keep (R.same.trans s) (Kp.of_same s) (fun i p e=>by
  cases q:H p with
  |none=>exact absurd q (R.used p (.inr ⟨i,e⟩))
  |some o=>exact s _ _ q) fun p e=>by
  cases q:H p with
  |none=>exact absurd q (R.lent p e).2
  |some o=>exact s _ _ q
noncomputable def dw(n:Nat)(ow:gJ)(i:Nat):gJ:=fun j=>if j=i/\i<n then none else ow j
noncomputable def l9(ow:gJ)(i:Nat)(p:Addr):gJ:=fun j=>if j=i then some p else ow j
theorem fX{n i:Nat}:∀a,av c (dw n ow i) a->av c ow a:=by
 intro a h
 rcases h with h|⟨j,h⟩
 ·exact .inl h
 ·unfold dw at h
  split at h
  ·cases h
  ·exact .inr ⟨j,h⟩
theorem uJ{n i:Nat}:∀d j q,ow (vx n d j)=some q->dw n ow i (vx n d j)=some q:=by
 intro d j q h
 unfold dw
 rw[if_neg (by rintro⟨z,hi⟩;unfold vx at z;omega)]
 exact h
theorem aU.setV(R:aU K G c H ow ps σ){i:Nat}{w:PV}{v:V}(r:cU K G H (av c ow) w v):aU K G c H (dw ps.length ow i) (ps.set i (.v w)) (σ.set i (some v)):=by
 have k:Kp K G H (av c ow) H (av c (dw ps.length ow i)):=Kp.weak fX
 refine⟨by simp[R.len],R.same,R.lent,R.a0,R.b0,fun j p e=> ?_,fun j j' p e e'=> ?_,fun j p h=> ?_,fun j x o e1 e2=> ?_⟩
 ·unfold dw at e;split at e
  ·cases e
  ·exact R.fresh j p e
 ·unfold dw at e e'
  split at e
  ·cases e
  ·split at e'
   ·cases e'
   ·exact R.inj j j' p e e'
 ·unfold dw at h;split at h
  ·cases h
  ·rw[List.length_set];exact R.out j p h
 ·rw[List.length_set]
  by_cases hj:j=i
  ·subst hj
   have hl:j<ps.length:=by
    have:=(List.getElem?_eq_some_iff.mp e1).1
    simpa using this
   rw[List.getElem?_set_self hl]at e1
   rw[List.getElem?_set_self (by rw[<-R.len];exact hl)]at e2
   cases e1;cases e2
   exact⟨by unfold dw;rw[if_pos ⟨rfl,hl⟩],v,rfl,k.rep r⟩
  ·rw[List.getElem?_set_ne (fun z=>hj z.symm)]at e1 e2
   have eo:dw ps.length ow i j=ow j:=by unfold dw;rw[if_neg (fun z=>hj z.1)]
   exact(R.slot j x o e1 e2).keep R.b0 R.same R.same k eo uJ .(C) (fun _ _ _ _=>rfl) .(C)
theorem E7{n i:Nat}{p:Addr}(hi:i<n):∀d j q,ow (vx n d j)=some q->l9 ow i p (vx n d j)=some q:=by
 intro d j q h
 unfold l9
 rw[if_neg (by intro z;unfold vx at z;omega)]
 exact h
theorem aU.setN(R:aU K G c H ow ps σ){i:Nat}{x:Sl}{p:Addr}(hi:i<ps.length)(hs:Same H H')(hp:H p=none)(hp':H' p≠none)(r:nY K G c ps.length H' (av c (l9 ow i p)) (l9 ow i p) i x (some (.ref p))) :
  aU K G c H' (l9 ow i p) (ps.set i x) (σ.set i (some (.ref p))):=by
 have hav:∀a,av c (l9 ow i p) a->av c ow a\/a=p:=by
  intro a h
  rcases h with h|⟨j,h⟩
  ·exact .inl (.inl h)
  ·unfold l9 at h
   split at h
   ·cases h;exact .inr rfl
   ·exact .inl (.inr ⟨j,h⟩)
 have k:Kp K G H (av c ow) H' (av c (l9 ow i p)):=Kp.take hp hs fun a h=>(hav a h).symm
 have nl:c.lx≠some p:=fun z=>(R.lent p z).2 hp
 have us:∀j q,ow j=some q->H' q=H q:=fun j q e=>by
  cases h:H q with
  |none=>exact absurd h (R.used q (.inr ⟨j,e⟩))
  |some o=>exact hs _ _ h
 refine⟨by simp[R.len],R.same.trans hs,fun q h=>⟨(R.lent q h).1,fun z=>(R.lent q h).2 (hs.free z)⟩,R.a0,R.b0,fun j q e=> ?_,fun j j' q e e'=> ?_,fun j q h=> ?_,fun j y o e1 e2=> ?_⟩
 ·unfold l9 at e;split at e
  ·cases e;exact R.same.free hp nl
  ·exact R.fresh j q e
 ·unfold l9 at e e'
  split at e
  ·cases e
   split at e'
   ·rename_i h1 h2;rw[h1,h2]
   ·exact absurd hp (R.used _ (.inr ⟨j',e'⟩))
  ·split at e'
   ·cases e'
    exact absurd hp (R.used _ (.inr ⟨j,e⟩))
   ·exact R.inj j j' q e e'
 ·unfold l9 at h;split at h
  ·rename_i z;cases h;left;rw[List.length_set,z];exact hi
  ·rw[List.length_set]
   rcases R.out j q h with z|z
   ·exact .inl z
   ·right;rw[us j q h];exact z
 ·rw[List.length_set]
  by_cases hj:j=i
  ·subst hj
   rw[List.getElem?_set_self hi]at e1
   rw[List.getElem?_set_self (by rw[<-R.len];exact hi)]at e2
   cases e1;cases e2
   exact r
  ·rw[List.getElem?_set_ne (fun z=>hj z.symm)]at e1 e2
   have eo:l9 ow i p j=ow j:=by unfold l9;rw[if_neg hj]
   refine(R.slot j y o e1 e2).keep R.b0 R.same (R.same.trans hs) k eo (E7 hi) (fun q h=>us j q h) (fun _ q _ h=>us _ q h) (fun q h=> ?_)
   cases z:H q with
   |none=>exact absurd z (R.lent q h).2
   |some o=>exact hs _ _ z
theorem aU.setO(R:aU K G c H ow ps σ){i:Nat}{x:Ow}{p:Addr}(hi:i<ps.length)(hs:Same H H')(hp:H p=none)(r:fm K G H' (fun a=>av c ow a\/a=p) x p) :
  aU K G c H' (l9 ow i p) (ps.set i (.own x)) (σ.set i (some (.ref p))):=by
 have hav:∀a,av c (l9 ow i p) a->av c ow a\/a=p:=by
  intro a h
  rcases h with h|⟨j,h⟩
  ·exact .inl (.inl h)
  ·unfold l9 at h
   split at h
   ·cases h;exact .inr rfl
   ·exact .inl (.inr ⟨j,h⟩)
 have k2:Kp K G H' (fun a=>av c ow a\/a=p) H' (av c (l9 ow i p)):=Kp.weak hav
 obtain⟨o,ho,_⟩:=r.at
 exact R.setN hi hs hp (by rw[ho];simp) ⟨p,by unfold l9;rw[if_pos rfl],rfl,r.keep k2 rfl⟩
theorem aU.chg(R:aU K G c H ow ps σ){i:Nat}{x y:Ow}{p:Addr}{u:HO}(e:ps[i]? =some (.own x))(ep:ow i=some p)(r:fm K G (upd H p u) (av c ow) y p) :
  aU K G c (upd H p u) ow (ps.set i (.own y)) σ /\Kp K G H (av c ow) (upd H p u) (av c ow):=by
 obtain⟨p',e1,e2,r1⟩:=R.getO e
 rw[ep]at e1;cases e1
 obtain⟨o,eo,m⟩:=r1.at
 have k:Kp K G H (av c ow) (upd H p u) (av c ow):=Kp.own (.inr ⟨i,ep⟩) eo m
 have sm:jL c (upd H p u):=fun b o' h n=>by
  rw[aq (by intro z;subst z;rw[R.fresh i b ep]at h;cases h)]
  exact R.same _ _ h n
 have npl:∀q,c.lx=some q->q≠p:=fun q h z=>by
  subst z
  exact absurd (R.fresh i q ep) (R.a0 q (R.lent q h).1)
 have us:∀j q,j≠i->ow j=some q->upd H p u q=H q:=fun j q hj h=>aq (by intro z;subst z;exact hj (R.inj j i q h ep))
 have hl:i<ps.length:=(List.getElem?_eq_some_iff.mp e).1
 refine⟨⟨by simp[R.len],sm,fun q h=>⟨(R.lent q h).1,by rw[aq (npl q h)];exact(R.lent q h).2⟩,R.a0,R.b0,R.fresh,R.inj,fun j q h=> ?_,fun j z o' h1 h2=> ?_⟩,k⟩
 ·rw[List.length_set]
  by_cases hj:j=i
  ·left;rw[hj];exact hl
  ·rcases R.out j q h with z|z
   ·exact .inl z
   ·right;rw[us j q hj h];exact z
 ·rw[List.length_set]
  by_cases hj:j=i
  ·subst hj
   rw[List.getElem?_set_self hl]at h1
   cases h1
   rw[e2]at h2;cases h2
   exact⟨p,ep,rfl,r⟩
  ·rw[List.getElem?_set_ne (fun z=>hj z.symm)]at h1
   exact(R.slot j z o' h1 h2).keep R.b0 R.same sm k rfl (fun _ _ _ h=>h) (fun q h=>us j q hj h) (fun jj q _ h=>us _ q (by unfold vx;omega) h) (fun q h=>aq (npl q h))
theorem aU.frz(R:aU K G c H ow ps σ){i:Nat}{x:Ow}(e:ps[i]? =some (.own x)):∃p, σ[i]? =some (some (.ref p))/\aU K G c H (dw ps.length ow i) (ps.set i (.v x.pv)) σ /\cU K G H (av c (dw ps.length ow i)) x.pv (.ref p)/\Kp K G H (av c ow) H (av c (dw ps.length ow i)):=by
 obtain⟨p,e1,e2,r1⟩:=R.getO e
 have hl:i<ps.length:=(List.getElem?_eq_some_iff.mp e).1
 have k:Kp K G H (av c ow) H (av c (dw ps.length ow i)):=Kp.weak fX
 have np:¬av c (dw ps.length ow i) p:=by
  rintro(h|⟨j,h⟩)
  ·exact absurd (R.fresh i p e1) (R.a0 p h)
  ·unfold dw at h
   split at h
   ·cases h
   ·rename_i hj;exact hj ⟨R.inj j i p h e1,hl⟩
 have rp:cU K G H (av c (dw ps.length ow i)) x.pv (.ref p):=(r1.keep k rfl).freeze np
 refine⟨p,e2,⟨by simp[R.len],R.same,R.lent,R.a0,R.b0,fun j p e=> ?_,fun j j' p e e'=> ?_,fun j q h=> ?_,fun j z o h1 h2=> ?_⟩,rp,k⟩
 ·unfold dw at e;split at e
  ·cases e
  ·exact R.fresh j p e
 ·unfold dw at e e'
  split at e
  ·cases e
  ·split at e'
   ·cases e'
   ·exact R.inj j j' p e e'
 ·unfold dw at h;split at h
  ·cases h
  ·rw[List.length_set];exact R.out j q h
 ·rw[List.length_set]
  by_cases hj:j=i
  ·subst hj
   rw[List.getElem?_set_self hl]at h1
   cases h1
   rw[e2]at h2;cases h2
   exact⟨by unfold dw;rw[if_pos ⟨rfl,hl⟩],_,rfl,rp⟩
  ·rw[List.getElem?_set_ne (fun z=>hj z.symm)]at h1
   have eo:dw ps.length ow i j=ow j:=by unfold dw;rw[if_neg (fun z=>hj z.1)]
   exact(R.slot j z o h1 h2).keep R.b0 R.same R.same k eo uJ .(C) (fun _ _ _ _=>rfl) .(C)
theorem aU.chgL(R:aU K G c H ow ps σ){s s':Sl}{p:Addr}{o u:HO}(e:ps[0]? =some s)(hl:c.lx=some p)(hp:H p=some o)(m:Mt o)(r:∀v, σ[0]? =some v->nY K G c ps.length (upd H p u) (av c ow) ow 0 s' v) :
  aU K G c (upd H p u) ow (ps.set 0 s') σ /\Kp K G H (av c ow) (upd H p u) (av c ow):=by
 have hA:=(R.lent p hl).1
 have k:Kp K G H (av c ow) (upd H p u) (av c ow):=Kp.own (.inl hA) hp m
 have sm:jL c (upd H p u):=fun b o' h n=>by
  rw[aq (by intro z;subst z;exact n hl)]
  exact R.same _ _ h n
 have us:∀j q,ow j=some q->upd H p u q=H q:=fun j q h=>aq (by intro z;subst z;exact absurd (R.fresh j q h) (R.a0 q hA))
 refine⟨⟨by simp[R.len],sm,fun q h=>⟨(R.lent q h).1,?_⟩,R.a0,R.b0,R.fresh,R.inj,fun j q h=> ?_,fun j z o' h1 h2=> ?_⟩,k⟩
 ·rw[hl]at h;cases h;rw[au];simp
 ·rw[List.length_set]
  rcases R.out j q h with z|z
  ·exact .inl z
  ·right;rw[us j q h];exact z
 ·rw[List.length_set]
  by_cases hj:j=0
  ·subst hj
   have hlt:0<ps.length:=(List.getElem?_eq_some_iff.mp e).1
   rw[List.getElem?_set_self hlt]at h1
   cases h1
   exact r o' h2
  ·rw[List.getElem?_set_ne (fun z=>hj z.symm)]at h1
   have q:=R.slot j z o' h1 h2
   cases z with
   |no=>exact q
   |v w'=>obtain⟨z,v',e3,r'⟩:=q;exact⟨z,v',e3,k.rep r'⟩
   |own y'=>obtain⟨p',e3,e4,r'⟩:=q;exact⟨p',e3,e4,r'.keep k (us j p' e3)⟩
   |bor w=>obtain⟨z,v',e3,r'⟩:=q;exact⟨z,v',e3,nZ R.b0 R.same sm k r'⟩
   |ino y=>exact absurd q.2.1 hj
   |ini kk xs=>exact absurd q.2.1 hj
   |dol ks xss =>
    obtain⟨p',qs,e1,e2,hp',l1,l2,l3,h⟩:=q
    refine⟨p',qs,e1,e2,by rw[us j p' e1];exact hp',l1,l2,l3,fun jj q xs h1 h2=> ?_⟩
    obtain⟨h3,h4⟩:=h jj q xs h1 h2
    exact⟨h3,h4.keep k (us _ q h3)⟩
   |als d jj=>exact q
end
end DN
end
noncomputable section
namespace DN
open PySem PySem.Spec PyProof.Rows L2
abbrev DP:=aT->Rx PV
abbrev DA:=aT->Rx (List PV)
abbrev DT:=aT->Rx Bool
abbrev DM:=aT->Rx (PV×aT)
abbrev pf:=aT->Rx (List PV×aT)
def xv(K:Fg)(G:Pg)(d:DP):TE:=fun σ H Q=>∃(c:Fr) (ow:gJ) (ps:aT) (w:PV),aU K G c H ow ps σ /\d ps= .ok w/\ ∀v H',Same H H'->cU K G H' (av c ow) w v->Q v H'
def CI(K:Fg)(G:Pg)(d:DP):TE:=fun σ H Q=>∃(c:Fr) (ow:gJ) (ps:aT) (w:PV),aU K G c H ow ps σ /\d ps= .ok w/\ ∀v H',Same H H'->bK K G H' (av c ow) w v->Q v H'
def se(K:Fg)(G:Pg)(d:DT):TT:=fun σ H Q=>∃(c:Fr) (ow:gJ) (ps:aT) (b:Bool),aU K G c H ow ps σ /\d ps= .ok b/\ ∀H',Same H H'->Q b H'
def dz(K:Fg)(G:Pg)(H:Hp)(A:Av):List Bool->List PV->List V->Prop
 |[],ws,vs=>ws=[]/\vs=[]
 |m::ms,ws,vs=>∃w wr v vr,ws=w::wr/\vs=v::vr/\(if m=true then bK K G H A w v else cU K G H A w v)/\dz K G H A ms wr vr
def G9(K:Fg)(G:Pg)(ms:List Bool)(d:DA):TA:=fun σ H Q=>∃(c:Fr) (ow:gJ) (ps:aT) (ws:List PV),aU K G c H ow ps σ /\d ps= .ok ws/\ ∀vs H',Same H H'->dz K G H' (av c ow) ms ws vs->Q vs H'
def JK(K:Fg)(G:Pg)(d:DA):TE:=fun σ H Q=>∃(c:Fr) (ow:gJ) (ps:aT) (ws:List PV),aU K G c H ow ps σ /\d ps= .ok ws/\ ∀p vs H',Same H H'->H p=none->H' p=some (.lst vs)->aD K G H' (fun a=>av c ow a\/a=p) ws vs->Q (.ref p) H'
def KB(K:Fg)(G:Pg)(d:DM):TE:=fun σ H Q=>∃(c:Fr) (ow:gJ) (ps:aT) (w:PV) (ps':aT),aU K G c H ow ps σ /\d ps= .ok (w,ps') /\
 ∀v H' ow',aU K G c H' ow' ps' σ ->Kp K G H (av c ow) H' (av c ow')->cU K G H' (av c ow') w v->Q v H'
def KC(K:Fg)(G:Pg)(d:pf):TA:=fun σ H Q=>∃(c:Fr) (ow:gJ) (ps:aT) (ws:List PV) (ps':aT),aU K G c H ow ps σ /\d ps= .ok (ws,ps') /\
 ∀vs H' ow',aU K G c H' ow' ps' σ ->Kp K G H (av c ow) H' (av c ow')->aD K G H' (av c ow') ws vs->Q vs H'
abbrev JP(X:Cx)(G:Pg)(e:Expr)(d:DP):Prop:=PE X e (xv X.K G d)
abbrev JB(X:Cx)(G:Pg)(e:Expr)(d:DP):Prop:=PE X e (CI X.K G d)
abbrev JT(X:Cx)(G:Pg)(e:Expr)(d:DT):Prop:=PT X e (se X.K G d)
abbrev JW(X:Cx)(G:Pg)(e:Expr)(d:DT):Prop:=PW X e (se X.K G d)
abbrev JA(X:Cx)(G:Pg)(ms:List Bool)(es:List Expr)(d:DA):Prop:=PA X es (G9 X.K G ms d)
abbrev JN(X:Cx)(G:Pg)(e:Expr)(d:DA):Prop:=PE X e (JK X.K G d)
abbrev JM(X:Cx)(G:Pg)(e:Expr)(d:DM):Prop:=PE X e (KB X.K G d)
abbrev Ga(X:Cx)(G:Pg)(es:List Expr)(d:pf):Prop:=PA X es (KC X.K G d)
theorem imp{X:Cx}{e:Expr}{t t':TE}(h:PE X e t)(f:∀σ H Q,t' σ H Q->t σ H Q):PE X e t':=fun pins s σ H Q I q=>h pins s σ H Q I (f σ H Q q)
theorem ph{X:Cx}{e:Expr}{t t':TT}(h:PT X e t)(f:∀σ H Q,t' σ H Q->t σ H Q):PT X e t':=fun pins s σ H Q I q=>h pins s σ H Q I (f σ H Q q)
theorem E8{X:Cx}{e:Expr}{t t':TT}(h:PW X e t)(f:∀σ H Q,t' σ H Q->t σ H Q):PW X e t':=fun wh pins s σ H Q I q=>h wh pins s σ H Q I (f σ H Q q)
theorem uK{X:Cx}{es:List Expr}{t t':TA}(h:PA X es t)(f:∀σ H Q,t' σ H Q->t σ H Q):PA X es t':=fun pos pins s σ H Q I q=>h pos pins s σ H Q I (f σ H Q q)
noncomputable section
variable{K:Fg}{G:Pg}{H H':Hp}{A A':Av}
theorem bK.same{w:PV}{v:V}(h:bK K G H A w v)(s:Same H H'):bK K G H' A w v:=by
 rcases h with h|⟨x,p,e1,e2,r⟩
 ·exact .inl (h.same s)
 ·obtain⟨o,eo,_⟩:=r.at
  exact .inr ⟨x,p,e1,e2,r.keep (Kp.of_same s) (by rw[s _ _ eo,eo])⟩
theorem bK.lst{xs:List PV}{v:V}(h:bK K G H A (.lst xs) v):∃a vs,v= .ref a/\eE K H a vs/\aD K G H A xs vs:=by
 rcases h with⟨a,vs,e,r,q⟩|⟨x,p,e1,e2,r⟩
 ·exact⟨a,vs,e,r.sq,q⟩
 ·cases x with
  |lst ys=>cases e1;obtain⟨vs,q,r⟩:=r;exact⟨p,vs,e2,eE.of q,r⟩
  |dic ks ys=>cases e1
  |dit ks ys=>cases e1
  |obj k ys=>cases e1
theorem bK.tup{xs:List PV}{v:V}(h:bK K G H A (.tup xs) v):∃a vs,v= .ref a/\gE K H a vs/\aD K G H A xs vs:=by
 rcases h with⟨a,vs,e,s,r⟩|⟨x,p,e1,e2,r⟩
 ·exact⟨a,vs,e,gE.of s,r⟩
 ·cases x <;> cases e1
theorem bK.int{i:Int}{v:V}(h:bK K G H A (.int i) v):v= .int i:=by
 rcases h with h|⟨x,p,e1,e2,r⟩
 ·exact h
 ·cases x <;> cases e1
theorem bK.str{i:Str}{v:V}(h:bK K G H A (.str i) v):v= .str i:=by
 rcases h with h|⟨x,p,e1,e2,r⟩
 ·exact h
 ·cases x <;> cases e1
theorem bK.bl{i:Bool}{v:V}(h:bK K G H A (.bl i) v):v= .bl i:=by
 rcases h with h|⟨x,p,e1,e2,r⟩
 ·exact h
 ·cases x <;> cases e1
theorem bK.non{v:V}(h:bK K G H A .non v):v= .non:=by
 rcases h with h|⟨x,p,e1,e2,r⟩
 ·exact h
 ·cases x <;> cases e1
theorem bK.obj{k:Nat}{xs:List PV}{v:V}(h:bK K G H A (.obj k xs) v):∃a dx vs,v= .ref a/\H a=some (.ins (G.cA k) dx ((G.fN k).zip vs))/\(G.fN k).length=vs.length/\aD K G H A xs vs:=by
 rcases h with⟨a,dx,vs,e,q,l,n,r⟩|⟨x,p,e1,e2,r⟩
 ·exact⟨a,dx,vs,e,q,l,r⟩
 ·cases x with
  |lst ys=>cases e1
  |dic ks ys=>cases e1
  |dit ks ys=>cases e1
  |obj k' ys=>cases e1;obtain⟨dx,vs,q,l,r⟩:=r;exact⟨p,dx,vs,e2,q,l,r⟩
theorem bK.dic{ks:List Key}{xs:List PV}{v:V}(h:bK K G H A (.dic ks xs) v):∃a vs,v= .ref a/\H a=some (.dK (ks.zip vs))/\ks.length=vs.length/\aD K G H A xs vs:=by
 rcases h with⟨a,vs,e,q,l,n,r⟩|⟨x,p,e1,e2,r⟩
 ·exact⟨a,vs,e,q,l,r⟩
 ·cases x with
  |lst ys=>cases e1
  |dic ks' ys=>cases e1;obtain⟨vs,q,l,r⟩:=r;exact⟨p,vs,e2,q,l,r⟩
  |dit ks ys=>cases e1
  |obj k ys=>cases e1
theorem bK.dit{ks:List (List Key)}{xs:List PV}{v:V}(h:bK K G H A (.dit ks xs) v):∃a vs,v= .ref a/\H a=some (.dT (ks.zip vs))/\ks.length=vs.length/\aD K G H A xs vs:=by
 rcases h with⟨a,vs,e,q,l,n,r⟩|⟨x,p,e1,e2,r⟩
 ·exact⟨a,vs,e,q,l,r⟩
 ·cases x with
  |lst ys=>cases e1
  |dic ks ys=>cases e1
  |dit ks' ys=>cases e1;obtain⟨vs,q,l,r⟩:=r;exact⟨p,vs,e2,q,l,r⟩
  |obj k ys=>cases e1
theorem bK.clo{f:Nat}{xs:List PV}{v:V}(h:bK K G H A (.clo f xs) v):cU K G H A (.clo f xs) v:=by
 rcases h with h|⟨x,p,e1,e2,r⟩
 ·exact h
 ·cases x <;> cases e1
theorem dz.len:∀{ms:List Bool} {ws:List PV} {vs:List V},dz K G H A ms ws vs->ws.length=ms.length/\vs.length=ms.length
 |[],ws,vs,h=>by obtain⟨rfl,rfl⟩:=h;exact⟨rfl,rfl⟩
 |m::ms,ws,vs,h=>by
  obtain⟨w,wr,v,vr,rfl,rfl,r,rr⟩:=h
  have:=dz.len rr
  simp[this]
end
noncomputable section
variable{X:Cx}{G:Pg}{e a b:Expr}{da db:DP}{pos:Pos}
theorem b_of(h:JP X G e da):JB X G e da:=imp h fun σ H Q ⟨c,ow,ps,w,R,e,q⟩=>⟨c,ow,ps,w,R,e,fun v H' s r=>q v H' s (.inl r)⟩
def dOfN(d:DA):DP:=fun ps=>(d ps).bind fun ws=> .ok (.lst ws)
theorem p_of_n{d:DA}(h:JN X G e d):JP X G e (dOfN d):=imp h fun σ H Q ⟨c,ow,ps,w,R,e,q⟩=>by
 obtain⟨ws,e1,e2⟩:=ai e
 cases e2
 refine⟨c,ow,ps,ws,R,e1,fun p vs H' s hp hv r=>q (.ref p) H' s ⟨p,vs,rfl,.inl ⟨hv,fun z=>R.used p z hp⟩,(Kp.weak fun a z=>Or.inl z).reps r⟩⟩
def bS(d:DP):DM:=fun ps=>(d ps).bind fun w=> .ok (w,ps)
theorem eU(h:JP X G e da):JM X G e (bS da):=imp h fun σ H Q ⟨c,ow,ps,w,ps',R,e,q⟩=>by
 obtain⟨w1,e1,e2⟩:=ai e
 cases e2
 exact⟨c,ow,ps,w,R,e1,fun v H' s r=>q v H' ow (R.grow s) (Kp.of_same s) r⟩
noncomputable def ae(i:Nat):DP:=fun ps=>match ps[i]? with|some (.v w)=> .ok w|_=> .bad
noncomputable def dSee(i:Nat):DP:=fun ps=>match ps[i]? with|some (.v w)=> .ok w|some (.own x)=> .ok x.pv|some (.bor w)=> .ok w|_=> .bad
theorem p_var(i:Nat){x:Str}{pos:Pos}(hN:X.N[i]? =some x:=by rfl)(hv:lX X.env.scope x:=by first|exact Or.inl rfl|exact Or.inr (Or.inl rfl)|exact Or.inr (Or.inr rfl))(hd:(x == .(L))=false:=by decide)
  (hcd:(x == .(Ad))=false:=by decide):JP X G (.Name x pos) (ae i):=imp (aV hN hv hd hcd) fun σ H Q ⟨c,ow,ps,w,R,e,q⟩=>by
 unfold ae at e
 split at e
 ·rename_i w' h
  cases e
  obtain⟨v,ev,r⟩:=R.getV h
  exact⟨v,ev,q v H (Same.refl H) r⟩
 ·cases e
theorem b_var(i:Nat){x:Str}{pos:Pos}(hN:X.N[i]? =some x:=by rfl)(hv:lX X.env.scope x:=by first|exact Or.inl rfl|exact Or.inr (Or.inl rfl)|exact Or.inr (Or.inr rfl))(hd:(x == .(L))=false:=by decide)
  (hcd:(x == .(Ad))=false:=by decide):JB X G (.Name x pos) (dSee i):=imp (aV hN hv hd hcd) fun σ H Q ⟨c,ow,ps,w,R,e,q⟩=>by
 unfold dSee at e
 split at e
 ·rename_i w' h
  cases e
  obtain⟨v,ev,r⟩:=R.getV h
  exact⟨v,ev,q v H (Same.refl H) (.inl r)⟩
 ·rename_i x' h
  cases e
  obtain⟨p,e1,e2,r⟩:=R.getO h
  exact⟨_,e2,q _ H (Same.refl H) (.inr ⟨x',p,rfl,rfl,r⟩)⟩
 ·rename_i w' h
  cases e
  obtain⟨o,eo,_,v,rfl,r⟩:=R.get h
  refine⟨v,eo,q v H (Same.refl H) ?_⟩
  rcases r with r|⟨x,p,e1,e2,r,_⟩
  ·exact .inl r
  ·exact .inr ⟨x,p,e1,e2,r⟩
 ·cases e
def dC(w:PV):DP:=fun _=> .ok w
theorem lc{t:V}{w:PV}(h:PE X e (tC t))(hr:∀H A,cU X.K G H A w t):JP X G e (dC w):=imp h fun σ H Q ⟨c,ow,ps,w,R,e,q⟩=>by
 cases e
 exact q _ H (Same.refl H) (hr _ _)
theorem p_int{i j pos}:JP X G (.Constant (.int i) j pos) (dC (.int i)):=lc A5 fun _ _=>rfl
theorem gy{i j pos}:JP X G (.Constant (.bool i) j pos) (dC (.bl i)):=lc Db fun _ _=>rfl
theorem zu{j pos}:JP X G (.Constant .none j pos) (dC .non):=lc A6 fun _ _=>rfl
theorem aZ{i j pos}:JP X G (.Constant (.str i) j pos) (dC (.str i)):=lc A7 fun _ _=>rfl
theorem p_topI{x:Str}{i:Int}{tk:Tok}{pos:Pos}(hg:Gl X x)(hm:X.mg x=some (.int i tk))(hd:(x == .(L))=false:=by decide):JP X G (.Name x pos) (dC (.int i)):=lc (uF hg hm hd) fun _ _=>rfl
theorem dN{x:Str}{i:Str}{tk:Tok}{pos:Pos}(hg:Gl X x)(hm:X.mg x=some (.str i tk))(hd:(x == .(L))=false:=by decide):JP X G (.Name x pos) (dC (.str i)):=lc (lY (v:= .str i) hg hm ⟨_,rfl⟩ hd) fun _ _=>rfl
noncomputable def d2(f:PV->PV->Rx PV)(a b:DP):DP:=fun ps=>(a ps).bind fun x=>(b ps).bind fun y=>f x y
abbrev jn(H:Hp)(A:Av):Prop:=∀a,A a->H a≠none
def nz(K:Fg)(G:Pg)(f:PV->PV->Rx PV)(r:R2):Prop:=∀(H:Hp) (A:Av) (x y w:PV) (v u:V) (Q:VK),jn H A->f x y= .ok w->bK K G H A x v->bK K G H A y u->(∀z H',Same H H'->cU K G H' A w z->Q z H')->r v u H Q
theorem yk{K:Fg}{f:PV->PV->Rx PV}{r:R2}(hf:nz K G f r){σ :L2.St}{H:Hp}{Q:VK}(h:xv K G (d2 f da db) σ H Q):Dt r (CI K G da) (CI K G db) σ H Q:=by
 obtain⟨c,ow,ps,w,R,e,q⟩:=h
 obtain⟨x,e1,e⟩:=ai e
 obtain⟨y,e2,e⟩:=ai e
 exact⟨c,ow,ps,x,R,e1,fun v H1 s1 r1=>⟨c,ow,ps,y,R.grow s1,e2,fun u H2 s2 r2=>hf H2 _ x y w v u Q ((R.grow s1).grow s2).used e (r1.same s2) r2 fun z H3 s3 r3=>q z H3 ((s1.trans s2).trans s3) r3⟩⟩
theorem jM{op:Operator}{r:R2}{f:PV->PV->Rx PV}(ho:fQ X (binaryOp op) r)(hf:nz X.K G f r)(ha:JB X G a da)(hb:JB X G b db):JP X G (.BinOp a op b pos) (d2 f da db):=imp (uf ho ha hb) fun _ _ _=>yk hf
theorem uL{op:CmpOp}{r:R2}{f:PV->PV->Rx PV}(ho:fQ X (compareOp op) r)(hf:nz X.K G f r)(ha:JB X G a da)(hb:JB X G b db)(hm:behindInMarks op b=false):JP X G (.Compare a [op] [b] pos) (d2 f da db):=imp (xM ho ha hb hm) fun _ _ _=>yk hf
noncomputable def aS(d:DP):DT:=fun ps=>(d ps).bind fun x=>match x with | .bl b=> .ok b|_=> .bad
theorem jN{op:CmpOp}{r:R2}{f:PV->PV->Rx PV}(ho:fQ X (compareOp op) r)(hf:nz X.K G f r)(ha:JB X G a da)(hb:JB X G b db)(hm:behindInMarks op b=false):JT X G (.Compare a [op] [b] pos) (aS (d2 f da db)) :=
 ph (qe ho ha hb hm) fun σ H Q ⟨c,ow,ps,b,R,e,q⟩=>by
  obtain⟨x,e1,e2⟩:=ai e
  have:x= .bl b:=by
   cases x <;> first|(cases e2;rfl)|cases e2
  subst this
  exact yk hf ⟨c,ow,ps,_,R,e1,fun v H' s r=>⟨b,r,q H' s⟩⟩
theorem Hj{f:PV->PV->Rx PV}(hf:nz X.K G f (Hb X.K))(ha:JB X G a da)(hb:JB X G b db)(hs:m6 b):JP X G (.Subscript a b pos) (d2 f da db):=imp (DH AE ha hb hs) fun _ _ _=>yk hf
noncomputable def fI(g:Int->Int->PV):PV->PV->Rx PV
 |.int i,.int j=> .ok (g i j)
 |_,_=> .bad
noncomputable def AZ(C:Int->Int->Prop)[∀i j,Decidable (C i j)](g:Int->Int->PV):PV->PV->Rx PV
 |.int i,.int j=>if C i j then .ok (g i j) else .bad
 |_,_=> .bad
def KD:PV->V
 |.non=> .non | .bl b=> .bl b | .int i=> .int i | .str x=> .str x|_=> .ref 0
theorem kF{K:Fg}{g:Int->Int->PV}{g':Int->Int->V}(h:∀i j H A,cU K G H A (g i j) (g' i j)):nz K G (fI g) (tW g'):=by
 intro H A x y w v u Q hu e r1 r2 q
 cases x <;> try cases e
 cases y <;> try cases e
 exact⟨_,_,r1.int,r2.int,q _ H (Same.refl H) (h _ _ _ _)⟩
theorem o3{K:Fg}{C:Int->Int->Prop}[∀i j,Decidable (C i j)]{C':Int->Int->Prop}{g:Int->Int->PV}{g':Int->Int->V}(hc:∀i j,C i j->C' i j)(h:∀i j H A,cU K G H A (g i j) (g' i j)):nz K G (AZ C g) (rI C' g'):=by
 intro H A x y w v u Q hu e r1 r2 q
 cases x <;> try cases e
 cases y <;> try cases e
 rename_i i j
 have e:(if C i j then Rx.ok (g i j) else .bad)= .ok w:=e
 split at e
 ·rename_i hC
  cases e
  exact⟨_,_,r1.int,r2.int,hc _ _ hC,q _ H (Same.refl H) (h _ _ _ _)⟩
 ·cases e
abbrev fAdd:=fI fun i j=> .int (i+j)
abbrev uM:=fI fun i j=> .int (i-j)
abbrev sf:=fI fun i j=> .bl (decide (i<j))
abbrev Gb:=fI fun i j=> .bl (decide (i<=j))
abbrev CJ:=fI fun i j=> .bl (decide (j<i))
abbrev xw:=fI fun i j=> .bl (decide (j<=i))
abbrev gP:=fI fun i j=> .int (Builtin.bitAnd i j)
abbrev Gc:=fI fun i j=> .int (Builtin.bitOr i j)
abbrev E9:=fI fun i j=> .int (Builtin.bitXor i j)
abbrev sh:=AZ (fun i j=>(-(2 ^ 64)<i/\i<2 ^ 64)\/(-(2 ^ 64)<j/\j<2 ^ 64)) fun i j=> .int (i*j)
abbrev fMod:=AZ (fun _ j=>0<j) fun i j=> .int (i % j)
abbrev cP:=AZ (fun _ j=>0<j/\j<1073741824) fun i j=> .int (i / j)
abbrev jo:=AZ (fun i j=>0<=j/\j<=1000000/\i.natAbs<2 ^ 64) fun i j=> .int (i*2 ^ j.toNat)
abbrev si:=AZ (fun _ j=>0<=j) fun i j=> .int (i / 2 ^ j.toNat)
theorem dn(ha:JB X G a da)(hb:JB X G b db):JP X G (.BinOp a .Add b pos) (d2 fAdd da db):=jM Ao (kF fun _ _ _ _=>rfl) ha hb
theorem qm(ha:JB X G a da)(hb:JB X G b db):JP X G (.BinOp a .Sub b pos) (d2 uM da db):=jM Ap (kF fun _ _ _ _=>rfl) ha hb
theorem p_and(ha:JB X G a da)(hb:JB X G b db):JP X G (.BinOp a .BitAnd b pos) (d2 gP da db):=jM Au (kF fun _ _ _ _=>rfl) ha hb
theorem Hk(ha:JB X G a da)(hb:JB X G b db):JP X G (.BinOp a .BitOr b pos) (d2 Gc da db):=jM Dv (kF fun _ _ _ _=>rfl) ha hb
theorem Ea(ha:JB X G a da)(hb:JB X G b db):JP X G (.BinOp a .BitXor b pos) (d2 E9 da db):=jM Aw (kF fun _ _ _ _=>rfl) ha hb
theorem o4(ha:JB X G a da)(hb:JB X G b db):JP X G (.BinOp a .Mult b pos) (d2 sh da db):=jM Aq (o3 (fun _ _ h=>h) fun _ _ _ _=>rfl) ha hb
theorem bN(ha:JB X G a da)(hb:JB X G b db):JP X G (.BinOp a .Mod b pos) (d2 fMod da db):=jM Ar (o3 (fun _ _ h=>h) fun _ _ _ _=>rfl) ha hb
theorem cr(ha:JB X G a da)(hb:JB X G b db):JP X G (.BinOp a .FloorDiv b pos) (d2 cP da db):=jM xL (o3 (fun _ _ h=>h) fun _ _ _ _=>rfl) ha hb
theorem uN(ha:JB X G a da)(hb:JB X G b db):JP X G (.BinOp a .LShift b pos) (d2 jo da db):=jM As (o3 (fun _ _ h=>h) fun _ _ _ _=>rfl) ha hb
theorem p_shr(ha:JB X G a da)(hb:JB X G b db):JP X G (.BinOp a .RShift b pos) (d2 si da db):=jM At (o3 (fun _ _ h=>h) fun _ _ _ _=>rfl) ha hb
theorem Eb(ha:JB X G a da)(hb:JB X G b db):JP X G (.Compare a [.GtE] [b] pos) (d2 xw da db):=uL Dx (kF fun _ _ _ _=>rfl) ha hb (fT _)
theorem ym(ha:JB X G a da)(hb:JB X G b db):JT X G (.Compare a [.Lt] [b] pos) (aS (d2 sf da db)):=jN op_lt (kF fun _ _ _ _=>rfl) ha hb (fT _)
theorem Ec(ha:JB X G a da)(hb:JB X G b db):JT X G (.Compare a [.Gt] [b] pos) (aS (d2 CJ da db)):=jN Dw (kF fun _ _ _ _=>rfl) ha hb (fT _)
def im:PV->PV->Rx PV
 |.str x,.str y=>if x.length+y.length<=sizeLine then .ok (.str (x++y)) else .bad
 |_,_=> .bad
theorem mn(ha:JB X G a da)(hb:JB X G b db):JP X G (.BinOp a .Add b pos) (d2 im da db):=jM oV (by
 intro H A x y w v u Q hu e r1 r2 q
 cases x <;> try cases e
 cases y <;> try cases e
 rename_i x y
 have e:(if x.length+y.length<=sizeLine then Rx.ok (PV.str (x++y)) else .bad)= .ok w:=e
 split at e
 ·rename_i h;cases e;exact⟨_,_,r1.str,r2.str,h,q _ H (Same.refl H) rfl⟩
 ·cases e) ha hb
noncomputable def B2:PV->PV->Rx PV
 |.str x,.str y=> .ok (.bl (decide (x.cps.toList<y.cps.toList)))
 |_,_=> .bad
theorem B3{K:Fg}:nz K G B2 (fun x y H Q=>∃i j,x= .str i/\y= .str j/\Q (.bl (decide (i.cps.toList<j.cps.toList))) H):=by
 intro H A x y w v u Q hu e r1 r2 q
 cases x <;> try cases e
 cases y <;> try cases e
 exact⟨_,_,r1.str,r2.str,q _ H (Same.refl H) rfl⟩
theorem Ed(ha:JB X G a da)(hb:JB X G b db):JT X G (.Compare a [.Lt] [b] pos) (aS (d2 B2 da db)):=jN rE B3 ha hb (fT _)
def Ee:PV->Bool
 |.non=>true
 |_=>false
def Hl(d:DP):DP:=fun ps=>(d ps).bind fun x=> .ok (.bl (Ee x))
noncomputable def gK(d:DP):DP:=fun ps=>(d ps).bind fun x=> .ok (.bl (!Ee x))
theorem yn{K:Fg}{H:Hp}{A:Av}{x:PV}{v:V}(r:bK K G H A x v):decide (v= .non)=Ee x:=by
 cases x with
 |non=>rw[r.non];rfl
 |bl b=>rw[r.bl];rfl
 |int i=>rw[r.int];rfl
 |str i=>rw[r.str];rfl
 |tup xs=>obtain⟨a,vs,e,_⟩:=r.tup;rw[e];rfl
 |lst xs=>obtain⟨a,vs,e,_⟩:=r.lst;rw[e];rfl
 |obj k xs=>obtain⟨a,dx,vs,e,_⟩:=r.obj;rw[e];rfl
 |dic ks xs=>obtain⟨a,vs,e,_⟩:=r.dic;rw[e];rfl
 |dit ks xs=>obtain⟨a,vs,e,_⟩:=r.dit;rw[e];rfl
 |clo f xs=>obtain⟨a,cl,vs,e,_⟩:=r.clo;rw[e];rfl
theorem t_val{d:DP}(h:JP X G e d)(he:∀whole,isTrue e X.env whole=(do let v <- whole;standAt e.pos;holding [v] (truthy v)):=by intro _;rfl):JT X G e (aS d):=ph (A8 h he) fun σ H Q ⟨c,ow,ps,b,R,e,q⟩=>by
 obtain⟨x,e1,e2⟩:=ai e
 have:x= .bl b:=by
  cases x <;> first|(cases e2;rfl)|cases e2
 subst this
 exact⟨c,ow,ps,_,R,e1,fun v H' s r=>⟨b,r,q H' s⟩⟩
theorem uO{j pos'}(ha:JB X G a da):JT X G (.Compare a [.IsNot] [.Constant .none j pos'] pos) (aS (gK da)):=ph (u5 (xD ha)) fun σ H Q ⟨c,ow,ps,b,R,e,q⟩=>by
 obtain⟨y,e1,e2⟩:=ai e
 obtain⟨x,e3,e4⟩:=ai e1
 cases e4
 cases e2
 exact⟨c,ow,ps,x,R,e3,fun v H' s r=>⟨_,by rw[yn r],q H' s⟩⟩
def fY(a b:DT):DT:=fun ps=>(a ps).bind fun x=>if x=true then b ps else .ok false
def jp(a b:DT):DT:=fun ps=>(a ps).bind fun x=>if x=true then .ok true else b ps
noncomputable def fG(a:DT):DT:=fun ps=>(a ps).bind fun x=> .ok (!x)
theorem Ef{K:Fg}{ta tb:DT}{σ :L2.St}{H:Hp}{Q:Bool->Hp->Prop}(h:se K G (fY ta tb) σ H Q):Dd (se K G ta) (se K G tb) σ H Q:=by
 obtain⟨c,ow,ps,b,R,e,q⟩:=h
 obtain⟨x,e1,e2⟩:=ai e
 refine⟨c,ow,ps,x,R,e1,fun H' s=> ?_⟩
 split at e2
 ·rename_i hx;subst hx
  exact iteT ⟨c,ow,ps,b,R.grow s,e2,fun H2 s2=>q H2 (s.trans s2)⟩
 ·rename_i hx
  cases e2
  have:x=false:=by simpa using hx
  subst this
  exact ma (q H' s)
theorem Hm{K:Fg}{ta tb:DT}{σ :L2.St}{H:Hp}{Q:Bool->Hp->Prop}(h:se K G (jp ta tb) σ H Q):JD (se K G ta) (se K G tb) σ H Q:=by
 obtain⟨c,ow,ps,b,R,e,q⟩:=h
 obtain⟨x,e1,e2⟩:=ai e
 refine⟨c,ow,ps,x,R,e1,fun H' s=> ?_⟩
 split at e2
 ·rename_i hx;subst hx
  cases e2
  exact iteT (q H' s)
 ·rename_i hx
  have:x=false:=by simpa using hx
  subst this
  exact ma ⟨c,ow,ps,b,R.grow s,e2,fun H2 s2=>q H2 (s.trans s2)⟩
noncomputable section
variable{ta tb:DT}{rest:List Expr}
theorem jO(ha:JT X G a ta):JW X G (.BoolOp .And [a] pos) ta:=xE ha
theorem uP(ha:JT X G a ta):JW X G (.BoolOp .Or [a] pos) ta:=A9 ha
theorem o5(ha:JT X G a ta)(hb:JW X G (.BoolOp .And (b::rest) pos) tb):JW X G (.BoolOp .And (a::b::rest) pos) (fY ta tb):=E8 (Aa ha hb) fun _ _ _=>Ef
theorem yo(ha:JT X G a ta)(hb:JW X G (.BoolOp .Or (b::rest) pos) tb):JW X G (.BoolOp .Or (a::b::rest) pos) (jp ta tb):=E8 (De ha hb) fun _ _ _=>Hm
theorem zw(h:JW X G e ta):JT X G e ta:=PW.pt h
theorem lf(ha:JT X G a ta):JT X G (.UnaryOp .Not a pos) (fG ta):=ph (Ab ha) fun σ H Q ⟨c,ow,ps,b,R,e,q⟩=>by
 obtain⟨x,e1,e2⟩:=ai e
 cases e2
 exact⟨c,ow,ps,x,R,e1,fun H' s=>q H' s⟩
end
noncomputable def io(a b:DP):DP:=fun ps=>(a ps).bind fun x=>match x with | .bl true=>b ps | .bl false=> .ok (.bl false)|_=> .bad
def uQ(a b:DP):DP:=fun ps=>(a ps).bind fun x=>match x with | .bl true=> .ok (.bl true) | .bl false=>b ps|_=> .bad
noncomputable def jP(a:DP):DP:=fun ps=>(a ps).bind fun x=>match x with | .bl k=> .ok (.bl (!k))|_=> .bad
noncomputable section
variable{rest:List Expr}
theorem oe{op}(h:JP X G a da):JP X G (.BoolOp op [a] pos) da:=Ac h
theorem mo(ha:JP X G a da)(hb:JP X G (.BoolOp .And (b::rest) pos) db):JP X G (.BoolOp .And (a::b::rest) pos) (io da db):=imp (Ad ha hb) fun σ H Q ⟨c,ow,ps,w,R,e,q⟩=>by
 obtain⟨x,e1,e2⟩:=ai e
 refine .(Au)
 split at e2
 ·exact⟨true,r,iteT ⟨c,ow,ps,w,R.grow s,e2,fun v2 H2 s2 r2=>q v2 H2 (s.trans s2) r2⟩⟩
 ·cases e2;exact⟨false,r,ma (q _ H' s rfl)⟩
 ·cases e2
theorem zx(ha:JP X G a da)(hb:JP X G (.BoolOp .Or (b::rest) pos) db):JP X G (.BoolOp .Or (a::b::rest) pos) (uQ da db):=imp (Dh ha hb) fun σ H Q ⟨c,ow,ps,w,R,e,q⟩=>by
 obtain⟨x,e1,e2⟩:=ai e
 refine .(Au)
 split at e2
 ·cases e2;exact⟨true,r,iteT (q _ H' s rfl)⟩
 ·exact⟨false,r,ma ⟨c,ow,ps,w,R.grow s,e2,fun v2 H2 s2 r2=>q v2 H2 (s.trans s2) r2⟩⟩
 ·cases e2
theorem pi(ha:JP X G a da):JP X G (.UnaryOp .Not a pos) (jP da):=imp (Ae ha) fun σ H Q ⟨c,ow,ps,w,R,e,q⟩=>by
 obtain⟨x,e1,e2⟩:=ai e
 refine .(Au)
 split at e2
 ·cases e2;exact⟨_,r,q _ H' s rfl⟩
 ·cases e2
noncomputable def gz(d:DP):DP:=fun ps=>(d ps).bind fun x=>match x with | .int i=> .ok (.int (-i))|_=> .bad
theorem lg(ha:JP X G a da):JP X G (.UnaryOp .USub a pos) (gz da):=imp (zn Ax ha) fun σ H Q ⟨c,ow,ps,w,R,e,q⟩=>by
 obtain⟨x,e1,e2⟩:=ai e
 refine .(Au)
 split at e2
 ·cases e2;exact⟨_,r,q _ H' s rfl⟩
 ·cases e2
def pj(t:DT)(a b:DP):DP:=fun ps=>(t ps).bind fun x=>if x=true then a ps else b ps
theorem p_ifV{t:Expr}{dt:DT}(ht:JT X G t dt)(ha:JP X G a da)(hb:JP X G b db):JP X G (.IfExp t a b pos) (pj dt da db):=imp (u6 ht ha hb) fun σ H Q ⟨c,ow,ps,w,R,e,q⟩=>by
 obtain⟨x,e1,e2⟩:=ai e
 refine⟨c,ow,ps,x,R,e1,fun H' s=> ?_⟩
 split at e2
 ·rename_i hx;subst hx;exact iteT ⟨c,ow,ps,w,R.grow s,e2,fun v2 H2 s2 r2=>q v2 H2 (s.trans s2) r2⟩
 ·rename_i hx
  have:x=false:=by simpa using hx
  subst this
  exact ma ⟨c,ow,ps,w,R.grow s,e2,fun v2 H2 s2 r2=>q v2 H2 (s.trans s2) r2⟩
end
end
end DN
end
noncomputable section
namespace DN
open PySem PySem.Spec PyProof.Rows L2
noncomputable section
variable{X:Cx}{G:Pg}{e a b:Expr}{es:List Expr}{da db:DP}{pos:Pos}
noncomputable def fIx:PV->PV->Rx PV
 |.lst xs,.int i=>match gN xs i with|some w=> .ok w|none=> .bad
 |.tup xs,.int i=>match gN xs i with|some w=> .ok w|none=> .bad
 |.str z,.int i=>if z.length<=sizeLine then(match gN z.cps.toList i with|some c=> .ok (.str ⟨#[c]⟩)|none=> .bad) else .bad
 |_,_=> .bad
theorem qo{K:Fg}{H:Hp}{A:Av}{xs:List PV}{vs:List V}{i:Int}{w:PV}(r:aD K G H A xs vs)(e:gN xs i=some w):∃v,gN vs i=some v/\cU K G H A w v:=by
 unfold gN at e ⊢
 rw[<-r.len]
 cases q:xu xs.length i with
 |none=>rw[q]at e;cases e
 |some j =>
  rw[q]at e
  exact r.get e
theorem Eg{K:Fg}:nz K G fIx (Hb K):=by
 intro H A x y w v u Q hu e r1 r2 q
 cases x <;> try cases e
 ·cases y <;> try cases e
  rename_i z i
  have e:(if z.length<=sizeLine then(match gN z.cps.toList i with|some c=>Rx.ok (PV.str ⟨#[c]⟩)|none=> .bad) else .bad)= .ok w:=e
  split at e
  ·rename_i hz
   split at e
   ·rename_i c hc
    cases e
    exact .inr (.inr ⟨z,i,c,r1.str,r2.int,hz,hc,q _ H (Same.refl H) rfl⟩)
   ·cases e
  ·cases e
 ·cases y <;> try cases e
  rename_i xs i
  have e:(match gN xs i with|some w=>Rx.ok w|none=> .bad)= .ok w:=e
  split at e
  ·rename_i w' hw
   cases e
   obtain⟨p,vs,ev,sq,rs⟩:=r1.tup
   obtain⟨v',e1,r'⟩:=qo rs hw
   exact .inr (.inl ⟨p,vs,i,v',ev,r2.int,sq,e1,q _ H (Same.refl H) r'⟩)
  ·cases e
 ·cases y <;> try cases e
  rename_i xs i
  have e:(match gN xs i with|some w=>Rx.ok w|none=> .bad)= .ok w:=e
  split at e
  ·rename_i w' hw
   cases e
   obtain⟨p,vs,ev,sq,rs⟩:=r1.lst
   obtain⟨v',e1,r'⟩:=qo rs hw
   exact .inl ⟨p,vs,i,v',ev,r2.int,sq,e1,q _ H (Same.refl H) r'⟩
  ·cases e
theorem p_at(ha:JB X G a da)(hb:JB X G b db)(hs:m6 b):JP X G (.Subscript a b pos) (d2 fIx da db):=Hj Eg ha hb hs
def dNil:DA:=fun _=> .ok []
noncomputable def dCons(a:DP)(r:DA):DA:=fun ps=>(a ps).bind fun x=>(r ps).bind fun xs=> .ok (x::xs)
theorem a_nil:JA X G [] [] dNil:=uK fU fun σ H Q ⟨c,ow,ps,ws,R,e,q⟩=>by
 cases e
 exact q [] H (Same.refl H) ⟨rfl,rfl⟩
theorem a_cons{ms:List Bool}{d:DA}(ha:JP X G e da)(hr:JA X G ms es d)(hs:starEach (e::es) X.env=.(U)::starEach es X.env:=by rfl):JA X G (false::ms) (e::es) (dCons da d) :=
 uK (dg ha hr hs) fun σ H Q ⟨c,ow,ps,ws,R,e,q⟩=>by
  obtain⟨x,e1,e⟩:=ai e
  obtain⟨xs,e2,e⟩:=ai e
  cases e
  exact⟨c,ow,ps,x,R,e1,fun v H1 s1 r1=>⟨c,ow,ps,xs,R.grow s1,e2,fun vs H2 s2 r2=>q (v::vs) H2 (s1.trans s2) ⟨x,xs,v,vs,rfl,rfl,by rw[if_neg Bool.false_ne_true];exact r1.same s2,r2⟩⟩⟩
theorem a_consB{ms:List Bool}{d:DA}(ha:JB X G e da)(hr:JA X G ms es d)(hs:starEach (e::es) X.env=.(U)::starEach es X.env:=by rfl):JA X G (true::ms) (e::es) (dCons da d) :=
 uK (dg ha hr hs) fun σ H Q ⟨c,ow,ps,ws,R,e,q⟩=>by
  obtain⟨x,e1,e⟩:=ai e
  obtain⟨xs,e2,e⟩:=ai e
  cases e
  exact⟨c,ow,ps,x,R,e1,fun v H1 s1 r1=>⟨c,ow,ps,xs,R.grow s1,e2,fun vs H2 s2 r2=>q (v::vs) H2 (s1.trans s2) ⟨x,xs,v,vs,rfl,rfl,by rw[if_pos rfl];exact r1.same s2,r2⟩⟩⟩
theorem dz.reps'{K:Fg}{H:Hp}{A:Av}:∀{ms:List Bool} {ws:List PV} {vs:List V},dz K G H A ms ws vs->ms.all (! ·)=true->aD K G H A ws vs
 |[],ws,vs,h,_=>by obtain⟨rfl,rfl⟩:=h;rfl
 |m::ms,ws,vs,h,hm=>by
  obtain⟨w,wr,v,vr,rfl,rfl,r,rr⟩:=h
  rw[List.all_cons,Bool.and_eq_true]at hm
  have:m=false:=by simpa using hm.1
  subst this
  rw[if_neg Bool.false_ne_true]at r
  exact⟨v,vr,rfl,r,dz.reps' rr hm.2⟩
def bW(d:DA):DP:=fun ps=>(d ps).bind fun ws=> .ok (.tup ws)
theorem p_tup{ms:List Bool}{d:DA}{x1}(h:JA X G ms es d)(hm:ms.all (! ·)=true:=by rfl)(hl:ms.length<=1000:=by decide):JP X G (.Tuple es x1 pos) (bW d):=imp (um h) fun σ H Q ⟨c,ow,ps,w,R,e,q⟩=>by
 obtain⟨ws,e1,e⟩:=ai e
 cases e
 refine⟨c,ow,ps,ws,R,e1,fun vs H1 s1 r1=>⟨?_,fun p hp=> ?_⟩⟩
 ·rw[r1.len.2];exact Nat.le_of_lt (iQ hl)
 ·exact q _ _ (s1.trans (bt hp _)) ⟨p,vs,rfl,au,(r1.reps' hm).same (bt hp _)⟩
theorem cu{ms:List Bool}{d:DA}(h:JA X G ms es d)(hm:ms.all (! ·)=true:=by rfl)(hl:ms.length<=1000:=by decide):JN X G (.List es pos) d:=imp (AA h) fun σ H Q ⟨c,ow,ps,ws,R,e,q⟩=>by
 refine⟨c,ow,ps,ws,R,e,fun vs H1 s1 r1=>⟨?_,fun p hp=> ?_⟩⟩
 ·rw[r1.len.2];exact Nat.le_of_lt (iQ hl)
 ·exact q p vs _ (s1.trans (bt hp _)) (s1.free hp) au ((Kp.take hp (bt hp _) fun a z=>z.symm).reps (r1.reps' hm))
noncomputable def dCatL(a b:DP):DA:=fun ps=>(a ps).bind fun x=>(b ps).bind fun y=>match x,y with | .lst xs,.lst ys=>if xs.length+ys.length<=sizeLine then .ok (xs++ys) else .bad|_,_=> .bad
theorem fH(ha:JB X G a da)(hb:JB X G b db)(ho:fQ X (binaryOp .Add) (fun x y H Q=>∃l m xs zs,x= .ref l/\y= .ref m/\eE X.K H l xs/\eE X.K H m zs/\xs.length+zs.length<=sizeLine/\ ∀p,H p=none->Q (.ref p) (upd H p (.lst (xs++zs))))) :
  JN X G (.BinOp a .Add b pos) (dCatL da db):=imp (uf ho ha hb) fun σ H Q ⟨c,ow,ps,ws,R,e,q⟩=>by
 obtain⟨x,e1,e⟩:=ai e
 obtain⟨y,e2,e⟩:=ai e
 refine⟨c,ow,ps,x,R,e1,fun v H1 s1 r1=>⟨c,ow,ps,y,R.grow s1,e2,fun u H2 s2 r2=> ?_⟩⟩
 split at e
 ·rename_i xs ys
  split at e
  ·rename_i hl
   cases e
   obtain⟨l,vs,e3,sq,rs⟩:=(r1.same s2).lst
   obtain⟨m,us,e4,sq',rs'⟩:=r2.lst
   refine⟨l,m,vs,us,e3,e4,sq,sq',by rw[<-rs.len,<-rs'.len];exact hl,fun p hp=> ?_⟩
   have sp:=bt hp (.lst (vs++us))
   exact q p _ _ ((s1.trans s2).trans sp) ((s1.trans s2).free hp) au ((Kp.take hp sp fun a z=>z.symm).reps (rs.app rs'))
  ·cases e
 ·cases e
theorem cI:fQ X (binaryOp .Add) (fun x y H Q=>∃l m xs zs,x= .ref l/\y= .ref m/\eE X.K H l xs/\eE X.K H m zs/\xs.length+zs.length<=sizeLine/\ ∀p,H p=none->Q (.ref p) (upd H p (.lst (xs++zs)))):=by
 intro pins s σ H x y v u Q I rx ry h
 obtain⟨l,b,xs,zs,rfl,rfl,e1,e2,z,q⟩:=h
 obtain⟨its,r1,⟨⟨cls,dd,data,sl⟩,n,ho,hc,hd0,hd⟩,z1⟩:=I.list e1
 obtain⟨itb,r2,⟨⟨cls2,dd2,data2,sl2⟩,n2,ho2,hc2,hd02,hd2⟩,z2⟩:=I.list e2
 simp only at hc hd hc2 hd2
 subst hc hd hc2 hd2
 obtain rfl:v=Value.ref l:=rx
 obtain rfl:u=Value.ref b:=ry
 have hl1:=r1.length
 have hl2:=r2.length
 have ea:its.toArray++itb.toArray=(its++itb).toArray:=by simp
 refine concat_meets ⟨_,ho,rfl⟩ ⟨_,ho2,rfl⟩ noFill_list_add seq_list_add PySem.F.slot_list_add PySem.F.entry_list_add (PySem.F.args_list_add_2 _ _) (list_addW l b its.toArray itb.toArray n n2 dd dd2 sl sl2 (by rw[List.size_toArray,List.size_toArray];omega)) ⟨ho,ho2,?_⟩
 rw[ea]
 exact⟨.ref _,_,I.lnew (t':=s.toks) (r1.append r2) (by rw[List.length_append];omega),rfl,q _ I.fresh⟩
def KF(K:Fg)(G:Pg)(d:aT->Rx (Option Int)):TO:=fun σ H Q=>∃(c:Fr) (ow:gJ) (ps:aT) (o:Option Int),aU K G c H ow ps σ /\d ps= .ok o/\ ∀H',Same H H'->Q o H'
abbrev JO(X:Cx)(G:Pg)(e:Option Expr)(d:aT->Rx (Option Int)):Prop:=PO X e (KF X.K G d)
def hG:aT->Rx (Option Int):=fun _=> .ok none
noncomputable def gp(d:DP):aT->Rx (Option Int):=fun ps=>(d ps).bind fun x=>match x with | .int i=> .ok (some i)|_=> .bad
theorem o_none:JO X G none hG:=fun pins s σ H Q I hq=>xT pins s σ H Q I (by
 obtain⟨c,ow,ps,o,R,e,q⟩:=hq
 cases e
 exact q H (Same.refl H))
theorem o_some(h:JP X G e da):JO X G (some e) (gp da):=fun pins s σ H Q I hq=>xU h pins s σ H Q I (by
 obtain⟨c,ow,ps,o,R,e,q⟩:=hq
 obtain⟨x,e1,e2⟩:=ai e
 refine .(Au)
 split at e2
 ·cases e2;exact⟨_,r,q H' s⟩
 ·cases e2)
noncomputable def kG(xs:List PV)(lo hi:Option Int):List PV:=(xs.drop (HT.sIx xs.length 0 lo)).take (HT.sIx xs.length xs.length hi-HT.sIx xs.length 0 lo)
noncomputable def cJ(d:DP)(dl dh:aT->Rx (Option Int)):DA:=fun ps=>(d ps).bind fun x=>(dl ps).bind fun lo=>(dh ps).bind fun hi=>match x with | .lst xs=> .ok (kG xs lo hi)|_=> .bad
theorem n_cut{lo hi:Option Expr}{dl dh:aT->Rx (Option Int)}{p2:Pos}(he:JB X G e da)(hl:JO X G lo dl)(hh:JO X G hi dh):JN X G (.Subscript e (.Slice lo hi none p2) pos) (cJ da dl dh):=imp (nN xY he hl hh) fun σ H Q ⟨c,ow,ps,ws,R,e,q⟩=>by
 obtain⟨x,e1,e⟩:=ai e
 obtain⟨l,e2,e⟩:=ai e
 obtain⟨h,e3,e⟩:=ai e
 refine⟨c,ow,ps,x,R,e1,fun v H1 s1 r1=>⟨c,ow,ps,l,R.grow s1,e2,fun H2 s2=>⟨c,ow,ps,h,(R.grow s1).grow s2,e3,fun H3 s3=> ?_⟩⟩⟩
 split at e
 ·cases e
  obtain⟨a,vs,e4,sq,rs⟩:=((r1.same s2).same s3).lst
  refine⟨a,vs,e4,sq,fun p hp=> ?_⟩
  have sp:=bt hp (.lst (rM vs l h))
  have sA:=(s1.trans s2).trans s3
  refine q p _ _ (sA.trans sp) (sA.free hp) au ((Kp.take hp sp fun a z=>z.symm).reps ?_)
  unfold kG rM
  rw[rs.len]
  exact(rs.drop _).take _
 ·cases e
def dCall(f:List PV->Rx PV)(d:DA):DP:=fun ps=>(d ps).bind f
def CK(K:Fg)(G:Pg)(ms:List Bool)(f:List PV->Rx PV)(r:List V->Hp->VK->Prop):Prop:=∀(H:Hp) (A:Av) (ws:List PV) (vs:List V) (w:PV) (Q:VK),jn H A->f ws= .ok w->dz K G H A ms ws vs->(∀z H',Same H H'->cU K G H' A w z->Q z H')->r vs H Q
theorem Eh{K:Fg}{ms:List Bool}{f:List PV->Rx PV}{r:List V->Hp->VK->Prop}{d:DA}(hf:CK K G ms f r){σ :L2.St}{H:Hp}{Q:VK}(h:xv K G (dCall f d) σ H Q):GZ r (G9 K G ms d) σ H Q:=by
 obtain⟨c,ow,ps,w,R,e,q⟩:=h
 obtain⟨ws,e1,e2⟩:=ai e
 exact⟨c,ow,ps,ws,R,e1,fun vs H' s r=>hf H' _ ws vs w Q (R.grow s).used e2 r fun z H2 s2 r2=>q z H2 (s.trans s2) r2⟩
theorem p_callB{x:Str}{p:Pos}{id:String}{ms:List Bool}{f:List PV->Rx PV}{r:List V->Hp->VK->Prop}{d:DA}(hc:hX X (.builtin id) r)(hf:CK X.K G ms f r)(hg:Gl X x)(hm:X.mg x=none)(hv:bootBuiltins x=some (.builtin id))(ha:JA X G ms (e::es) d)(hn:x ≠ "__name__":=by decide)(hdb:(x == .(L))=false:=by decide)
  (he:starEach (e::es) X.env=.(U)::starEach es X.env:=by rfl) (hpl:.(W).any (·.1)=false:=by rfl):JP X G .(As) (dCall f d):=imp (nM hc hg hm hv ha hn hdb he hpl) fun _ _ _=>Eh hf
theorem dz.one{K:Fg}{H:Hp}{A:Av}{ws:List PV}{vs:List V}(h:dz K G H A [true] ws vs):∃w v,ws=[w]/\vs=[v]/\bK K G H A w v:=by
 obtain⟨w,wr,v,vr,rfl,rfl,r,rfl,rfl⟩:=h
 exact⟨w,v,rfl,rfl,r⟩
noncomputable def bLen:List PV->Rx PV
 |[.str y]=>if y.length<=sizeLine then .ok (.int y.length) else .bad
 |[.lst xs]=> .ok (.int xs.length)
 |[.tup xs]=> .ok (.int xs.length)
 |_=> .bad
theorem cb_len{K:Fg}:CK K G [true] bLen (fun xs H Q=>∃x n,xs=[x]/\Dz K x H n/\Q (.int n) H):=by
 intro H A ws vs w Q hu e r q
 obtain⟨x,v,rfl,rfl,rb⟩:=r.one
 clear r
 cases x <;> try cases e
 ·rename_i y
  have e:(if y.length<=sizeLine then Rx.ok (PV.int y.length) else .bad)= .ok w:=e
  split at e
  ·rename_i hy
   cases e
   rw[rb.str]
   exact⟨_,_,rfl,⟨hy,rfl⟩,q _ H (Same.refl H) rfl⟩
  ·cases e
 ·obtain⟨a,vs,rfl,sq,rs⟩:=rb.tup
  exact⟨_,_,rfl,.inr ⟨vs,sq,rfl⟩,q _ H (Same.refl H) (by show _=_;rw[rs.len])⟩
 ·obtain⟨a,vs,rfl,sq,rs⟩:=rb.lst
  exact⟨_,_,rfl,.inl ⟨vs,sq,rfl⟩,q _ H (Same.refl H) (by show _=_;rw[rs.len])⟩
noncomputable def jQ:List PV->Rx (List PV)
 |[.lst xs]=> .ok xs
 |[.tup xs]=> .ok xs
 |_=> .bad
def fZ(f:List PV->Rx (List PV))(d:DA):DA:=fun ps=>(d ps).bind f
theorem mq{x:Str}{p:Pos}{d:DA}(hg:Gl X "list")(hm:X.mg "list"=none)(ha:JA X G [true] [e] d)
  (he:starEach [e] X.env=.(U)::starEach [] X.env:=by rfl) (hpl:(backTo pos (starEach [] X.env)).any (·.1)=false:=by rfl):JN X G (.Call (.Name "list" p) [e] [] pos) (fZ jQ d) :=
 imp (rL m9 hg hm boot_list ha (by decide) (by decide) he hpl) fun σ H Q ⟨c,ow,ps,ws,R,e,q⟩=>by
  obtain⟨xs,e1,e2⟩:=ai e
  refine⟨c,ow,ps,xs,R,e1,fun vs H' s r=> ?_⟩
  obtain⟨x,v,rfl,rfl,rb⟩:=r.one
  clear r
  cases x <;> try cases e2
  ·obtain⟨a,vs,rfl,sq,rs⟩:=rb.tup
   exact⟨a,vs,rfl,.inr sq,fun l hl=>q l vs _ (s.trans (bt hl _)) (s.free hl) au ((Kp.take hl (bt hl _) fun a z=>z.symm).reps rs)⟩
  ·obtain⟨a,vs,rfl,sq,rs⟩:=rb.lst
   exact⟨a,vs,rfl,.inl sq,fun l hl=>q l vs _ (s.trans (bt hl _)) (s.free hl) au ((Kp.take hl (bt hl _) fun a z=>z.symm).reps rs)⟩
noncomputable def kd:PV->Nat
 |.non=>0 | .bl _=>1 | .int _=>2 | .str _=>3 | .tup _=>4 | .lst _=>5 | .dic _ _=>6 | .clo _ _=>9 | .dit _ _=>9 | .obj k _=>k+10
noncomputable def pk(G:Pg):Nat->Value
 |0=> .type "NoneType" |1=> .type "bool" |2=> .type "int" |3=> .type "str" |4=> .type "tuple" |5=> .type "list" |6=> .type "dict" |7=> .none|8=> .none|9=> .none
 |k+10=> .ref (G.cA k)
def og(K:Fg)(C:Addr):Prop:=∀H a dx fs,H a=some (.ins C dx fs)->i7 K H (.ref a) (.ref C)
noncomputable def gQ(l:List (Nat×Bool))(d:DP):DP:=fun ps=>(d ps).bind fun x=>match l.lookup (kd x)with|some b=> .ok (.bl b)|none=> .bad
structure dO(K:Fg)(G:Pg)(cv:Value)(l:List (Nat×Bool)):Prop where
 kit:∀k b,l.lookup k=some b->PySem.W.kitOne K (pk G k) cv=some b
 cls:∀k b,l.lookup (k+10)=some b->og K (G.cA k)
 n9:∀b,l.lookup 9≠some b
theorem uR(cv:Value)(l:List (Nat×Bool))(ok:dO X.K G cv l):hX X (.builtin "isinstance") (fun xs H Q=>∃A w v c b,xs=[v,c]/\(∀u,aQ c u->u=cv)/\bK X.K G H A w v/\l.lookup (kd w)=some b/\Q (.bl b) H):=by
 intro pins s σ H xs us Q I r h
 obtain⟨A,w,v,c,b,rfl,hc,rw',hl,q⟩:=h
 obtain⟨u,u',rfl,ru,rc⟩:=zo r
 obtain rfl:=hc _ rc
 have kit:=ok.kit _ _ hl
 have fin:∀tk,EP X pins σ Q (.bool b) { s with toks:=tk }:=fun tk=>⟨.bl b,H,I.tok tk,rfl,q⟩
 cases w with
 |non=>rw[rw'.non]at ru;exact dG I ru .non kit fin
 |bl k=>rw[rw'.bl]at ru;exact dG I ru (.bl _) kit fin
 |int i=>rw[rw'.int]at ru;exact dG I ru (.int _) kit fin
 |str i=>rw[rw'.str]at ru;exact dG I ru (.str _) kit fin
 |tup ws =>
  obtain⟨a,vs,rfl,sq,rs⟩:=rw'.tup
  cases (show u=Value.ref a from ru)
  obtain⟨its,_,p,_⟩:=I.tuple sq
  obtain⟨o,h1,h2,_⟩:=p
  exact PySem.W.kia_one PySem.W.kitx_tuple I.kIn ⟨o,h1,h2⟩ kit (fun z=>nomatch z) fin
 |lst ws =>
  obtain⟨a,vs,rfl,sq,rs⟩:=rw'.lst
  cases (show u=Value.ref a from ru)
  obtain⟨its,_,⟨o,n,h1,h2,_⟩,_⟩:=I.list sq
  exact PySem.W.kia_one PySem.W.kitx_list I.kIn ⟨o,h1,h2⟩ kit (fun z=>nomatch z) fin
 |clo f ws=>exact absurd hl (ok.n9 b)
 |dit ks ws=>exact absurd hl (ok.n9 b)
 |dic ks ws =>
  obtain⟨a,vs,rfl,hH,_,rs⟩:=rw'.dic
  exact dG I ru (.dK hH) kit fin
 |obj k ws =>
  obtain⟨a,dx,vs,rfl,hH,_,rs⟩:=rw'.obj
  exact dG I ru (ok.cls k b hl H a dx _ hH) kit fin
theorem j9{ce:Expr}{cvv:V}{cv:Value}{l:List (Nat×Bool)}{p:Pos}(hg:Gl X "isinstance")(hm:X.mg "isinstance"=none)(ok:dO X.K G cv l)(hcv:∀u,aQ cvv u->u=cv)(ha:JB X G e da)(hc:PE X ce (tC cvv))
  (he:starEach [e,ce] X.env=.(U)::starEach [ce] X.env:=by rfl) (he2:starEach [ce] X.env=(false,eval ce X.env)::starEach [] X.env:=by rfl) (hpl:(backTo pos (starEach [ce] X.env)).any (·.1)=false:=by rfl) :
  JP X G (.Call (.Name "isinstance" p) [e,ce] [] pos) (gQ l da) :=
 imp (nM (uR cv l ok) hg hm boot_isinstance (dg ha (dg hc fU he2) he) (by decide) (by decide) he hpl) fun σ H Q ⟨c,ow,ps,w,R,e,q⟩=>by
  obtain⟨x,e1,e2⟩:=ai e
  refine .(Au)
  split at e2
  ·rename_i b hb
   cases e2
   exact⟨_,x,v,cvv,b,rfl,hcv,r,hb,q _ H' s rfl⟩
  ·cases e2
theorem gR{f:Str}{v:V}:∀{ns:List Str} {vs:List V} {j:Nat},ns.Nodup->ns[j]? =some f->vs[j]? =some v->(ns.zip vs).lookup f=some v
 |[],vs,j,_,h,_=>by simp at h
 |n::ns,[],j,_,_,h=>by simp at h
 |n::ns,u::vs,0,_,h1,h2=>by
  simp at h1 h2;subst h1;subst h2
  simp
 |n::ns,u::vs,j+1,nd,h1,h2=>by
  have h1':ns[j]? =some f:=by simpa using h1
  have hne:(f == n)=false:=by
   have:f≠n:=fun z=>by subst z;exact(List.nodup_cons.mp nd).1 (List.mem_of_getElem? h1')
   simpa using this
  rw[List.zip_cons_cons,List.lookup_cons,hne]
  exact gR (j:=j) (List.nodup_cons.mp nd).2 h1' (by simpa using h2)
structure bH(K:Fg)(G:Pg)(f:Str)(l:List (Nat×Nat)):Prop where
 all:∀k j,l.lookup k=some j->kO K (G.cA k)/\bj K (G.cA k) f/\(G.fN k).Nodup/\(G.fN k)[j]? =some f
noncomputable def ba(l:List (Nat×Nat))(d:DP):DP:=fun ps=>(d ps).bind fun x=>match x with
 |.obj k xs=>(match l.lookup k with|some j=>(match xs[j]? with|some w=> .ok w|none=> .bad)|none=> .bad)
 |_=> .bad
theorem p_fld{f:Str}{l:List (Nat×Nat)}(ok:bH X.K G f l)(ha:JP X G e da)(hb:attributeBase e f X.env (eval e X.env)=eval e X.env):JP X G (.Attribute e f pos) (ba l da):=imp (ul ha hb) fun σ H Q ⟨c,ow,ps,w,R,e,q⟩=>by
 obtain⟨x,e1,e2⟩:=ai e
 refine .(Au)
 cases x with
 |obj k xs =>
  have e2:(match l.lookup k with|some j=>(match xs[j]? with|some w=>Rx.ok w|none=> .bad)|none=> .bad)= .ok w:=e2
  split at e2
  ·rename_i j hj
   split at e2
   ·rename_i w' hw
    cases e2
    obtain⟨a,dx,vs,rfl,hH,hl,na,rs⟩:=r
    obtain⟨c1,c2,c3,c4⟩:=ok.all k j hj
    obtain⟨u,hu,ru⟩:=rs.get hw
    exact⟨a,_,dx,_,u,rfl,hH,c1,c2,gR c3 c4 hu,q u H' s ru⟩
   ·cases e2
  ·cases e2
 |_=>cases e2
end
end DN
end
noncomputable section
namespace DN
open PySem PySem.Spec PyProof.Rows L2
def JL(K:Fg)(G:Pg)(B:Av)(H:Hp)(A:Av):Sl->Option V->Prop
 |.no,_=>True
 |.v w,o=>∃v,o=some v/\cU K G H A w v
 |.own _,_=>False
 |.bor w,o=>∃v,o=some v/\(cU K G H A w v\/ ∃x p,w=x.pv/\v= .ref p/\fm K G H A x p/\B p)
 |.ino _,_=>False
 |.ini _ _,_=>False
 |.dol _ _,_=>False
 |.als _ _,_=>False
structure gS(K:Fg)(G:Pg)(B:Av)(H:Hp)(A:Av)(ps:aT)(σ :L2.St):Prop where
 len:ps.length= σ.length
 slot:∀(i:Nat) (s:Sl) (o:Option V),ps[i]? =some s-> σ[i]? =some o->JL K G B H A s o
noncomputable section
variable{K:Fg}{G:Pg}{H H':Hp}{A A' B:Av}{ps:aT}{σ :L2.St}
def nA:gJ:=fun _=>none
theorem Ge{c:Fr}(a:Addr):av c nA a->c.A0 a:=by
 rintro(h|⟨i,h⟩)
 ·exact h
 ·cases h
theorem gS.toS(R:gS K G B H A ps σ)(u:jn H A)(ub:jn H B):aU K G ⟨H,A,B,none⟩ H nA ps σ :=by
 refine⟨R.len,jL.of (Same.refl H),(fun p e=>(nomatch e)),u,(fun a z=>⟨ub a z,fun e=>nomatch e⟩),(fun i p e=>(nomatch e)),(fun i j p e=>(nomatch e)),(fun _ _ e=>(nomatch e)),fun i s o e1 e2=> ?_⟩
 have q:=R.slot i s o e1 e2
 have k:Kp K G H A H (av ⟨H,A,B,none⟩ nA):=Kp.weak fun a z=>Ge a z
 cases s with
 |no=>rfl
 |v w=>obtain⟨v,e,r⟩:=q;exact⟨rfl,v,e,k.rep r⟩
 |own x=>exact q.elim
 |ino x=>exact q.elim
 |ini k xs=>exact q.elim
 |dol ks xss=>exact q.elim
 |als d j=>exact q.elim
 |bor w =>
  obtain⟨v,e,r⟩:=q
  refine⟨rfl,v,e,?_⟩
  rcases r with r|⟨x,p,e1,e2,r,n⟩
  ·exact .inl (k.rep r)
  ·exact .inr ⟨x,p,e1,e2,r.keep k rfl,n⟩
theorem gS.ofS{c:Fr}(R:aU K G c H nA ps σ)(hl:c.lx=none):gS K G c.B0 H c.A0 ps σ :=by
 refine⟨R.len,fun i s o e1 e2=> ?_⟩
 have q:=R.slot i s o e1 e2
 have k:Kp K G H (av c nA) H c.A0:=Kp.weak fun a z=> .inl z
 cases s with
 |no=>exact True.intro
 |v w=>obtain⟨_,v,e,r⟩:=q;exact⟨v,e,k.rep r⟩
 |own x=>obtain⟨p,e,_⟩:=q;cases e
 |ino x=>obtain⟨_,_,p,_,e,_⟩:=q;rw[hl]at e;cases e
 |ini k xs=>obtain⟨_,_,p,_,e,_⟩:=q;rw[hl]at e;cases e
 |dol ks xss=>obtain⟨p,qs,e,_⟩:=q;cases e
 |als d j=>obtain⟨_,q',_,e⟩:=q;cases e
 |bor w =>
  obtain⟨_,v,e,r⟩:=q
  refine⟨v,e,?_⟩
  rcases r with r|⟨x,p,e1,e2,r,n⟩
  ·exact .inl (k.rep r)
  ·exact .inr ⟨x,p,e1,e2,r.keep k rfl,n⟩
noncomputable def Sl.out:Sl->Sl
 |.own x=> .bor x.pv
 |.ino x=> .bor x.pv
 |.ini _ _=> .no
 |.dol _ _=> .no
 |.als _ _=> .no
 |s=>s
def pq(own:List Str)(caps:List (Str×Nat))(ps:aT):aT:=List.replicate own.length .no++caps.map fun p=>((ps[p.2]?).getD .no).out
theorem aU.caps{c:Fr}{ow:gJ}(R:aU K G c H ow ps σ)(own:List Str)(caps:List (Str×Nat)):gS K G (fun p=>H p≠none) H (av c ow) (pq own caps ps) (mh own caps σ):=by
 refine⟨by simp[pq,mh],fun i s o e1 e2=> ?_⟩
 unfold pq at e1
 unfold mh at e2
 rcases Nat.lt_or_ge i own.length with h|h
 ·rw[List.getElem?_append_left (by simpa using h),List.getElem?_replicate,if_pos h]at e1
  cases e1
  exact True.intro
 ·rw[List.getElem?_append_right (by simpa using h),List.length_replicate,List.getElem?_map]at e1 e2
  cases ep:caps[i-own.length]? with
  |none=>rw[ep]at e1;cases e1
  |some p =>
   rw[ep]at e1 e2
   have e1:((ps[p.2]?).getD .no).out=s:=Option.some.inj e1
   have e2:(σ[p.2]?).getD none=o:=Option.some.inj e2
   cases eq:ps[p.2]? with
   |none=>rw[eq]at e1;subst e1;exact True.intro
   |some t =>
    obtain⟨o',eo,q⟩:=R.get eq
    rw[eq]at e1;rw[eo]at e2
    have e2:o'=o:=e2
    subst e2
    subst e1
    cases t with
    |no=>exact True.intro
    |v w=>obtain⟨_,v,e,r⟩:=q;exact⟨v,e,r⟩
    |own x=>obtain⟨p,_,e,r⟩:=q;obtain⟨o',eo,_⟩:=r.at;exact⟨_,e,.inr ⟨x,p,rfl,rfl,r,by show H p≠none;rw[eo];simp⟩⟩
    |ino x=>obtain⟨_,_,p,e,_,r⟩:=q;obtain⟨o',eo,_⟩:=r.at;exact⟨_,e,.inr ⟨x,p,rfl,rfl,r,by show H p≠none;rw[eo];simp⟩⟩
    |ini k xs=>exact True.intro
    |dol ks xss=>exact True.intro
    |als d j=>exact True.intro
    |bor w =>
     obtain⟨_,v,e,r⟩:=q
     refine⟨v,e,?_⟩
     rcases r with r|⟨x,p,e1,e2,r,_⟩
     ·exact .inl r
     ·obtain⟨o',eo,_⟩:=r.at
      exact .inr ⟨x,p,e1,e2,r,by show H p≠none;rw[eo];simp⟩
end
def tX(K:Fg)(G:Pg)(ms:List Bool)(g:List PV->Rx PV):Sp:=fun vs H Q _=>∃A ws w,jn H A/\dz K G H A ms ws vs/\g ws= .ok w/\ ∀v H',Same H H'->cU K G H' A w v->Q v H'
noncomputable section
variable{X:Cx}{G:Pg}{e a b o:Expr}{es:List Expr}{da db:DP}{d:DA}{pos p apos:Pos}{x m:Str}{k:Nat}{ms:List Bool}{g:List PV->Rx PV}
theorem p_fn(h:FnAt X.prog X.w X.K X.mg X.base fS k x (tX X.K G ms g))(hr:br k X.A)(hg:Gl X x)(ha:JA X G ms (e::es) d)(hdb:(x == .(L))=false:=by decide)
  (he:starEach (e::es) X.env=.(U)::starEach es X.env:=by rfl) (hpl:.(W).any (·.1)=false:=by rfl):JP X G .(As) (dCall g d) :=
 imp (DZ (E:=E0) h hr hg kX ha hdb he hpl) fun σ H Q ⟨c,ow,ps,w,R,e,q⟩=>by
  obtain⟨ws,e1,e2⟩:=ai e
  exact⟨c,ow,ps,ws,R,e1,fun vs H' s r=>⟨_,ws,w,(R.grow s).used,r,e2,fun v H2 s2 r2=>q v H2 (s.trans s2) r2⟩⟩
theorem oh{f:Str}:∀{ns:List Str} {vs:List V},f∉ns->(ns.zip vs).lookup f=none
 |[],vs,_=>rfl
 |n::ns,[],_=>rfl
 |n::ns,u::vs,h=>by
  have h1:(f == n)=false:=by
   have:f≠n:=fun z=>h (by rw[z];exact List.mem_cons_self)
   simpa using this
  rw[List.zip_cons_cons,List.lookup_cons,h1]
  exact oh fun z=>h (List.mem_cons_of_mem _ z)
structure gT(P:Program)(w:World)(K:Fg)(mg:Str->Option Value)(base:Bs)(G:Pg)(k:Nat)(m:Str)(ms:List Bool)(tab:List (Nat×Nat))(g:Nat->List PV->Rx PV):Prop where
 all:∀c f,tab.lookup c=some f->me P w K mg base fS k (G.cA c) m (tX K G (false::ms) (g f))/\m∉G.fN c
noncomputable def aM(tab:List (Nat×Nat))(g:Nat->List PV->Rx PV)(d:DP)(r:DA):DP:=fun ps=>(d ps).bind fun x=>match x with
 |.obj c xs=>(match tab.lookup c with|some f=>(r ps).bind fun ws=>g f (.obj c xs::ws)|none=> .bad)
 |_=> .bad
theorem qp{tab:List (Nat×Nat)}{g:Nat->List PV->Rx PV}(h:gT X.prog X.w X.K X.mg X.base G k m ms tab g){σ :L2.St}{H:Hp}{Q:VK}(hq:xv X.K G (aM tab g da d) σ H Q) :
  pb (ι :={ q:Nat×Nat // tab.lookup q.1=some q.2 }) (fun i=>G.cA i.1.1) m (fun i=>tX X.K G (false::ms) (g i.1.2)) E0 (xv X.K G da) (G9 X.K G ms d) σ H Q:=by
 obtain⟨c,ow,ps,w,R,e,q⟩:=hq
 obtain⟨x,e1,e2⟩:=ai e
 refine .(Au)
 cases x with
 |obj kc xs =>
  have e2:(match tab.lookup kc with|some f=>(d ps).bind fun ws=>g f (.obj kc xs::ws)|none=> .bad)= .ok w:=e2
  split at e2
  ·rename_i f hf
   obtain⟨ws,e3,e4⟩:=ai e2
   obtain⟨a,dx,vs,ev,hH,hl,na,rs⟩:=id r
   refine⟨⟨(kc,f),hf⟩,a,dx,_,ev,hH,oh (h.all kc f hf).2,c,ow,ps,ws,R.grow s,e3,fun vs2 H2 s2 r2=> ?_⟩
   exact⟨_,.obj kc xs::ws,w,((R.grow s).grow s2).used,⟨_,_,_,_,rfl,rfl,by rw[if_neg Bool.false_ne_true];exact r.same s2,r2⟩,e4,fun v3 H3 s3 r3=>q v3 H3 ((s.trans s2).trans s3) r3⟩
  ·cases e2
 |_=>cases e2
theorem p_meth{tab:List (Nat×Nat)}{g:Nat->List PV->Rx PV}{pl:Sem Bool}(h:gT X.prog X.w X.K X.mg X.base G k m ms tab g)(hr:br k X.A)(ho:JP X G o da)(ha:JA X G ms (e::es) d)
  (hst:starEach (e::es) X.env=.(U)::starEach es X.env:=by rfl) (hpl:.(W).any (·.1)=false:=by rfl)
  (ht:eval .(AD) X.env=(do
   let ov <- eval o X.env
   standAt apos.atName
   let (f,first) <- holding [ov] (getMethod ov m pl)
   callWith pos f first (backTo pos (starEach (e::es) X.env)) (backToKw pos (keywordEach [] X.env))):=by rfl):JP X G .(AD) (aM tab g da d) :=
 imp (uC (ι :={ q:Nat×Nat // tab.lookup q.1=some q.2 }) (pl:=pl) ho (fun i=>(h.all i.1.1 i.1.2 i.2).1) hr kX ha hst hpl ht) fun _ _ _=>qp h
theorem p_meth0{tab:List (Nat×Nat)}{g:Nat->List PV->Rx PV}{pl:Sem Bool}(h:gT X.prog X.w X.K X.mg X.base G k m [] tab g)(hr:br k X.A)(ho:JP X G o da)
  (ht:eval (.Call (.Attribute o m apos) [] [] pos) X.env=(do
   let ov <- eval o X.env
   standAt apos.atName
   let (f,first) <- holding [ov] (getMethod ov m pl)
   callWith pos f first (backTo pos (starEach [] X.env)) (backToKw pos (keywordEach [] X.env))):=by rfl):JP X G (.Call (.Attribute o m apos) [] [] pos) (aM tab g da dNil) :=
 imp (rW (ι :={ q:Nat×Nat // tab.lookup q.1=some q.2 }) (pl:=pl) ho (fun i=>(h.all i.1.1 i.1.2 i.2).1) hr kX ht) fun σ H Q hq=>by
  obtain⟨c,ow,ps,x,R,e1,f⟩:=qp h hq
  refine .(Au)
  obtain⟨i,a,dx,fs,e2,e3,e4,c',ow',ps',ws,R',e5,f2⟩:=f v H' s r
  have:ws=[]:=by cases e5;rfl
  subst this
  exact⟨i,a,dx,fs,e2,e3,e4,f2 [] H' (Same.refl H') ⟨rfl,rfl⟩⟩
def dP(c:Nat)(d:DA):DP:=fun ps=>(d ps).bind fun ws=> .ok (.obj c ws)
theorem cF{c:Nat}(h:ee X.prog X.w X.K X.mg X.base x (G.cA c) (G.fN c))(hr:br (k+2) X.A)(hg:Gl X x)(ha:JA X G ms (e::es) d)(hl:(G.fN c).length=ms.length)(hm:ms.all (! ·)=true:=by rfl)(hdb:(x == .(L))=false:=by decide)
  (he:starEach (e::es) X.env=.(U)::starEach es X.env:=by rfl) (hpl:.(W).any (·.1)=false:=by rfl):JP X G .(As) (dP c d) :=
 imp (AU h hr hg ha hdb he hpl) fun σ H Q ⟨f,ow,ps,w,R,e,q⟩=>by
  obtain⟨ws,e1,e2⟩:=ai e
  cases e2
  refine⟨f,ow,ps,ws,R,e1,fun vs H' s r=>⟨by rw[r.len.2,hl],fun y dy n1 n2 ne=> ?_⟩⟩
  have sn:=l6 (C:=G.cA c) (fs:=(G.fN c).zip vs) n1 n2
  exact q _ _ (s.trans sn) ⟨y,dy,vs,rfl,qj,by rw[r.len.2,hl],fun z=>(R.grow s).used y z n1,(r.reps' hm).same sn⟩
theorem eI{c:Nat}(M:AS X.K (G.cA c))(hf:G.fN c=[])(hg:Gl X x)(hm:X.mg x=some (.ref (G.cA c)))(hdb:(x == .(L))=false:=by decide):JP X G (.Call (.Name x p) [] [] pos) (dC (.obj c [])) :=
 imp (rY M hg hm hdb) fun σ H Q ⟨f,ow,ps,w,R,e,q⟩=>by
  cases e
  intro y dy n1 n2 ne
  have sn:=l6 (C:=G.cA c) (fs:=[]) n1 n2
  exact q _ _ sn ⟨y,dy,[],rfl,by rw[List.zip_nil_right];exact qj,by rw[hf];rfl,fun z=>R.used y z n1,rfl⟩
abbrev DG:=PV->aT->Rx aT
def tG(K:Fg)(G:Pg)(g:DG):TG:=fun v σ H Q=>∃(c:Fr) (ow:gJ) (ps:aT) (w:PV) (ps':aT),aU K G c H ow ps σ /\cU K G H (av c ow) w v/\g w ps= .ok ps' /\
 ∀σ' ow',aU K G c H ow' ps' σ'->(∀a,av c ow' a->av c ow a)->Q σ' H
def KG(K:Fg)(G:Pg)(g:List PV->aT->Rx aT):xH:=fun vs σ H Q=>∃(c:Fr) (ow:gJ) (ps:aT) (ws:List PV) (ps':aT),aU K G c H ow ps σ /\aD K G H (av c ow) ws vs/\g ws ps= .ok ps' /\
 ∀σ' ow',aU K G c H ow' ps' σ'->(∀a,av c ow' a->av c ow a)->Q σ' H
abbrev JG(X:Cx)(G:Pg)(t:Expr)(g:DG):Prop:=PG X t (tG X.K G g)
abbrev Gf(X:Cx)(G:Pg)(t:List Expr)(g:List PV->aT->Rx aT):Prop:=Af X t (KG X.K G g)
theorem Ei{e:Expr}{t t':TG}(h:PG X e t)(f:∀v σ H Q,t' v σ H Q->t v σ H Q):PG X e t':=fun pins s σ H v u Q I r q=>h pins s σ H v u Q I r (f v σ H Q q)
theorem zy{e:List Expr}{t t':xH}(h:Af X e t)(f:∀v σ H Q,t' v σ H Q->t v σ H Q):Af X e t':=fun pins s σ H v u Q I r q=>h pins s σ H v u Q I r (f v σ H Q q)
def ar(i:Nat):DG:=fun w ps=> .ok (ps.set i (.v w))
theorem bf{i:Nat}(hN:X.N.Nodup)(hi:X.N[i]? =some x)(hx:nw X.env.scope x)(hf:X.fn x=true\/X.env.scope.names.lookup x=some .local:=by first|exact .inl rfl|exact .inr rfl|assumption):JG X G (.Name x pos) (ar i) :=
 Ei (xI hN hi hx hf) fun v σ H Q ⟨c,ow,ps,w,ps',R,r,e,q⟩=>by
  cases e
  exact q _ _ (R.setV r) fX
noncomputable def bX:List PV->aT->Rx aT
 |[],ps=> .ok ps
 |_::_,_=> .bad
noncomputable def aE(g:DG)(gs:List PV->aT->Rx aT):List PV->aT->Rx aT
 |w::ws,ps=>(g w ps).bind fun ps'=>gs ws ps'
 |[],_=> .bad
theorem g6:Gf X G [] bX:=zy xJ fun vs σ H Q ⟨c,ow,ps,ws,ps',R,r,e,q⟩=>by
 cases ws with
 |nil=>cases e;exact⟨r,q σ ow R fun _ z=>z⟩
 |cons w ws=>cases e
theorem bD{t:Expr}{ts:List Expr}{g:DG}{gs:List PV->aT->Rx aT}(h1:JG X G t g)(h2:Gf X G ts gs)(hs:(assignEach (t::ts) X.env).map (·.2)=assign t X.env::(assignEach ts X.env).map (·.2):=by rfl):Gf X G (t::ts) (aE g gs) :=
 zy (u8 h1 h2 hs) fun vs σ H Q ⟨c,ow,ps,ws,ps',R,r,e,q⟩=>by
  cases ws with
  |nil=>cases e
  |cons w ws =>
   obtain⟨v,vr,rfl,r1,r2⟩:=r
   obtain⟨ps1,e1,e2⟩:=ai e
   refine⟨v,vr,rfl,c,ow,ps,w,ps1,R,r1,e1,fun σ' ow' R' wk=> ?_⟩
   exact⟨c,ow',ps1,ws,ps',R',(Kp.weak wk).reps r2,e2,fun σ2 ow2 R2 wk2=>q σ2 ow2 R2 fun a z=>wk a (wk2 a z)⟩
noncomputable def bY(n:Nat)(gs:List PV->aT->Rx aT):DG:=fun w ps=>match w with | .tup ws=>if ws.length=n then gs ws ps else .bad|_=> .bad
theorem ja{ts:List Expr}{j n:Nat}{gs:List PV->aT->Rx aT}(hc:X.calm=true)(h:Gf X G ts gs)(hn:(assignEach ts X.env).length=n:=by rfl)(hst:(assignEach ts X.env).findIdx? (·.1)=none:=by rfl):JG X G (.Tuple ts j pos) (bY n gs) :=
 Ei (Ag hc h hn hst) fun v σ H Q ⟨c,ow,ps,w,ps',R,r,e,q⟩=>by
  cases w with
  |tup ws =>
   have e:(if ws.length=n then gs ws ps else .bad)= .ok ps':=e
   split at e
   ·rename_i hl
    obtain⟨a,vs,rfl,sq,rs⟩:=r
    exact⟨a,vs,rfl,gE.of sq,by rw[<-rs.len];exact hl,c,ow,ps,ws,ps',R,rs,e,q⟩
   ·cases e
  |_=>cases e
end
end DN
end
noncomputable section
namespace DN
open PySem PySem.Spec PyProof.Rows L2
def Wk(K:Fg)(G:Pg)(c:Fr)(J:It)(H:Hp)(A:Av)(vs:List V):Prop:=∀H' A',Kp K G H A H' A'->jL c H' ->
 (∀(i:Nat) (x:V),vs[i]? =some x->J.go i H'/\ ∀y H2,J.yld i H' y H2->H2=H'/\y=x)/\J.stop vs.length H'
def KH(J:It)(H:Hp)(vs:List V):Prop:=∀H',Same H H'->(∀(i:Nat) (x:V),vs[i]? =some x->J.go i H'/\ ∀y H2,J.yld i H' y H2->H2=H'/\y=x)/\J.stop vs.length H'
def KI(K:Fg)(G:Pg)(d:DA):TI:=fun σ H R=>∃(c:Fr) (ow:gJ) (ps:aT) (ws:List PV),aU K G c H ow ps σ /\d ps= .ok ws/\ ∀J H' vs,Same H H'->aD K G H' (av c ow) ws vs->Wk K G c J H' (av c ow) vs->R J H'
def Ej(K:Fg)(G:Pg)(d:DA):TI:=fun σ H R=>∃(c:Fr) (ow:gJ) (ps:aT) (ws:List PV),aU K G c H ow ps σ /\d ps= .ok ws/\ ∀J H' vs,Same H H'->aD K G H' (av c ow) ws vs->KH J H' vs->R J H'
abbrev JI(X:Cx)(G:Pg)(tg it:Expr)(d:DA):Prop:=PI X tg it (KI X.K G d)
abbrev Ek(X:Cx)(G:Pg)(tg it:Expr)(d:DA):Prop:=PI X tg it (Ej X.K G d)
noncomputable section
variable{X:Cx}{G:Pg}{e a b o tg:Expr}{es:List Expr}{da db:DP}{d:DA}{pos p apos:Pos}{x m:Str}{k:Nat}{ms:List Bool}
theorem uS{it:Expr}{t t':TI}(h:PI X tg it t)(f:∀σ H R,t' σ H R->t σ H R):PI X tg it t':=fun pins s σ H R I q=>h pins s σ H R I (f σ H R q)
def aI(d:DP):DA:=fun ps=>(d ps).bind fun x=>match x with | .lst xs=> .ok xs|_=> .bad
def ft(d:DP):DA:=fun ps=>(d ps).bind fun x=>match x with | .tup xs=> .ok xs|_=> .bad
theorem qq{K:Fg}{a:Addr}{vs:List V}{H:Hp}(h:eE K H a vs):(∀(i:Nat) (x:V),vs[i]? =some x->(Do K a).go i H/\ ∀y H2,(Do K a).yld i H y H2->H2=H/\y=x)/\(Do K a).stop vs.length H :=
 ⟨fun i x e=>⟨⟨vs,x,h,e⟩,fun y H2 ⟨e2,hy⟩=>⟨e2,Option.some.inj ((hy vs h).symm.trans e)⟩⟩,⟨vs,h,Nat.le_refl _⟩⟩
theorem B4{K:Fg}{a:Addr}{vs:List V}{H:Hp}(h:gE K H a vs):(∀(i:Nat) (x:V),vs[i]? =some x->(Dp K a).go i H/\ ∀y H2,(Dp K a).yld i H y H2->H2=H/\y=x)/\(Dp K a).stop vs.length H :=
 ⟨fun i x e=>⟨⟨vs,x,h,e⟩,fun y H2 ⟨e2,hy⟩=>⟨e2,Option.some.inj ((hy vs h).symm.trans e)⟩⟩,⟨vs,h,Nat.le_refl _⟩⟩
theorem Hn(h:JP X G e da):JI X G tg e (aI da):=uS (qd h) fun σ H R ⟨c,ow,ps,ws,S,e,q⟩=>by
 obtain⟨x,e1,e2⟩:=ai e
 refine⟨c,ow,ps,x,S,e1,fun v H' s r=> ?_⟩
 split at e2
 ·cases e2
  obtain⟨a,vs,rfl,rd,rs⟩:=r
  exact⟨a,rfl,⟨vs,rd.sq⟩,q _ H' vs s rs fun H2 A2 k _=>qq (k.rdL rd).sq⟩
 ·cases e2
noncomputable def yp(i:Nat):DA:=fun ps=>match ps[i]? with|some (.bor (.lst xs))=> .ok xs|_=> .bad
theorem s_list(h:JB X G e da):Ek X G tg e (aI da):=uS (qd h) fun σ H R ⟨c,ow,ps,ws,S,e,q⟩=>by
 obtain⟨x,e1,e2⟩:=ai e
 refine⟨c,ow,ps,x,S,e1,fun v H' s r=> ?_⟩
 split at e2
 ·cases e2
  obtain⟨a,vs,rfl,rd,rs⟩:=r.lst
  exact⟨a,rfl,⟨vs,rd⟩,q _ H' vs s rs fun H2 k=>qq (k.seq rd)⟩
 ·cases e2
theorem i_topT{x:Str}{t:Addr}{ws:List PV}{vs:List V}(T:jm X.K t vs)(hg:Gl X x)(hm:X.mg x=some (.ref t))(hr:∀H A,aD X.K G H A ws vs)(hd:(x == .(L))=false:=by decide):JI X G tg (.Name x pos) (ft (dC (.tup ws))) :=
 uS (Al (cE hg hm hd)) fun σ H R ⟨c,ow,ps,ws',S,e,q⟩=>by
  cases e
  exact⟨t,rfl,⟨vs,T.sq H⟩,q _ H vs (Same.refl H) (hr H _) fun H2 A2 k _=>B4 (T.sq H2)⟩
theorem s_of_i(h:JI X G tg e d):Ek X G tg e d:=uS h fun σ H R ⟨c,ow,ps,ws,S,e,q⟩=>⟨c,ow,ps,ws,S,e,fun J H' vs s rs w=>q J H' vs s rs fun H2 k=>w H2 _ (Kp.of_same k) (S.grow (s.trans k)).same⟩
def ip(lo:Int)(n:Nat):List PV:=(List.range n).map fun(i:Nat)=>PV.int (lo+(i:Int))
theorem uT{K:Fg}{H:Hp}{A:Av}{lo:Int}{n:Nat}:aD K G H A (ip lo n) (mi lo n):=by
 unfold ip mi
 generalize List.range n=l
 induction l with
 |nil=>rfl
 |cons x xs ih=>exact⟨_,_,rfl,rfl,ih⟩
theorem B5{lo:Int}{n:Nat}{H:Hp}:(∀(i:Nat) (x:V),(mi lo n)[i]? =some x->(CF lo n).go i H/\ ∀y H2,(CF lo n).yld i H y H2->H2=H/\y=x)/\(CF lo n).stop (mi lo n).length H:=by
 refine⟨fun i x e=> ?_,by show n<=(mi lo n).length;rw[nX];exact Nat.le_refl _⟩
 have h:=(List.getElem?_eq_some_iff.mp e).1
 rw[nX]at h
 rw[yg h]at e
 exact⟨h,fun y H2 ⟨e2,hy⟩=>⟨e2,hy.trans (Option.some.inj e)⟩⟩
noncomputable def bA(d:DA):DA:=fun ps=>(d ps).bind fun ws=>match ws with|[.int j]=>if -(2 ^ 62)<=j/\j<2 ^ 62 then .ok (ip 0 j.toNat) else .bad|_=> .bad
theorem i_rng1{ea:Expr}(hg:Gl X "range")(hm:X.mg "range"=none)(ha:JA X G [false] [ea] d)(hs:starEach [ea] X.env=[(false,eval ea X.env)]:=by rfl):JI X G tg (.Call (.Name "range" p) [ea] [] pos) (bA d) :=
 uS (rC hg hm ha hs) fun σ H R ⟨c,ow,ps,ws,S,e,q⟩=>by
  obtain⟨xs,e1,e2⟩:=ai e
  refine⟨c,ow,ps,xs,S,e1,fun vs H' s r=> ?_⟩
  split at e2
  ·split at e2
   ·rename_i j hj
    cases e2
    obtain⟨v,vr,rfl,r1,rfl⟩:=dz.reps' r rfl
    exact⟨j,by rw[show v=V.int j from r1],hj.1,hj.2,q _ H' _ s uT fun _ _ _ _=>B5⟩
   ·cases e2
  ·cases e2
abbrev El(X:Cx)(G:Pg)(ifs:List Expr)(d:DT):Prop:=DY X ifs (se X.K G d)
def bM:DT:=fun _=> .ok true
theorem ts_nil:El X G [] bM:=fun pins s σ H Q I h=>yb pins s σ H Q I (by
 obtain⟨c,ow,ps,b,R,e,q⟩:=h
 cases e
 exact q H (Same.refl H))
theorem ts_one{c:Expr}{dt:DT}(h:JT X G c dt):El X G [c] dt:=yc h
noncomputable def jR(g:DG)(dt:DT)(de:DP):List PV->aT->Rx (List PV)
 |[],_=> .ok []
 |x::xs,ps=>(g x ps).bind fun ps1=>(dt ps1).bind fun b=>if b=true then(de ps1).bind fun y=>(jR g dt de xs ps1).bind fun r=> .ok (y::r) else jR g dt de xs ps1
noncomputable def dComp(own:List Str)(caps:List (Str×Nat))(di:DA)(g:DG)(dt:DT)(de:DP):DA:=fun ps=>(di ps).bind fun ws=>if ws.length<=sizeLine then jR g dt de ws (pq own caps ps) else .bad
theorem mr{own:List Str}{caps:List (Str×Nat)}{di:DA}{g:DG}{dt:DT}{de:DP}(gk:∀(w:PV) (ps ps':aT),g w ps= .ok ps'->∀(i:Nat) (x:Ow),ps'[i]? =some (Sl.own x)->ps[i]? =some (Sl.own x)){σ :L2.St}{H:Hp}{Q:VK}
  (h:JK X.K G (dComp own caps di g dt de) σ H Q):tComp own caps (Ej X.K G di) (tG X.K G g) (se X.K G dt) (xv X.K G de) σ H Q:=by
 obtain⟨c,ow,ps,rs,R,e,q⟩:=h
 obtain⟨ws,e1,e2⟩:=ai e
 split at e2
 ·rename_i hsz
  refine⟨c,ow,ps,ws,R,e1,fun J H1 vs s1 rep wk=> ?_⟩
  intro D hD
  have R1:=R.grow s1
  have hD0:H D=none:=s1.free hD
  let AD:Av:=fun a=>av c ow a\/a=D
  let B1:Av:=fun p=>H1 p≠none
  have usedB:∀{H':Hp},Same H1 H'->jn H' B1:=fun {H'} s a z=>by
   cases e3:H1 a with
   |none=>exact absurd e3 z
   |some o=>rw[s _ _ e3];simp
  have usedD:∀{H':Hp},Same H1 H'->H' D≠none->jn H' AD:=by
   intro H' s hd a z
   rcases z with z|z
   ·cases e3:H1 a with
    |none=>exact absurd e3 (R1.used a z)
    |some o=>rw[s _ _ e3];simp
   ·rw[z];exact hd
  refine⟨fun i m σ' H'=>∃(ps':aT) (ys:List PV) (us:List V) (rest:List PV),m=ws.length-i/\i<=ws.length/\gS X.K G B1 H' AD ps' σ'/\(∀(j:Nat) (x:Ow),ps'[j]? ≠ some (Sl.own x))/\Same H1 H'/\aD X.K G H' AD ws vs/\H' D=some (.lst us)/\aD X.K G H' AD ys us/\ys.length<=i /\
    jR g dt de (ws.drop i) ps'= .ok rest/\ys++rest=rs,?_,?_⟩
  ·have sD:Same H1 (upd H1 D (.lst [])):=bt hD _
   have k:Kp X.K G H1 (av c ow) (upd H1 D (.lst [])) AD:=Kp.take hD sD fun a z=>z.symm
   have F0:=R1.caps own caps
   refine⟨_,pq own caps ps,[],[],rs,rfl,Nat.zero_le _,⟨F0.len,fun i s o h1 h2=> ?_⟩,fun j x z=> ?_,sD,k.reps rep,au,rfl,Nat.le_refl _,e2,rfl⟩
   ·have q:=F0.slot i s o h1 h2
    cases s with
    |no=>exact True.intro
    |v w=>obtain⟨v,e,r⟩:=q;exact⟨v,e,k.rep r⟩
    |own x=>exact q.elim
    |ino x=>exact q.elim
    |ini k xs=>exact q.elim
    |dol ks xss=>exact q.elim
    |als d j=>exact q.elim
    |bor w =>
     obtain⟨v,e,r⟩:=q
     refine⟨v,e,?_⟩
     rcases r with r|⟨x,p,e1,e2,r,n⟩
     ·exact .inl (k.rep r)
     ·obtain⟨o',eo,_⟩:=r.at
      exact .inr ⟨x,p,e1,e2,r.keep k (by rw[sD _ _ eo,eo]),n⟩
   ·have hl:j<(pq own caps ps).length:=(List.getElem?_eq_some_iff.mp z).1
    have hl2:j<(mh own caps σ).length:=by rw[<-F0.len];exact hl
    exact(F0.slot j _ _ z (List.getElem?_eq_getElem hl2)).elim
  ·rintro i m σ' H' ⟨ps',ys,us,rest,rfl,hi',F,no,sm,rep',hH,ry,hy,ec,er⟩
   have lv:=rep'.len
   have wk':=wk H' sm
   rcases Nat.lt_or_ge i ws.length with hlt|hge
   ·right
    have hdr:ws.drop i=ws[i]::ws.drop (i+1):=List.drop_eq_getElem_cons hlt
    rw[hdr]at ec
    have hgi:ws[i]? =some ws[i]:=List.getElem?_eq_getElem hlt
    obtain⟨v,hv,rv⟩:=rep'.get hgi
    obtain⟨go,yl⟩:=wk'.1 i v hv
    refine⟨go,_,fun _ _ h=>h,fun y H2 hyl=> ?_⟩
    obtain⟨rfl,rfl⟩:=yl y H2 hyl
    obtain⟨ps1,c1,ec⟩:=ai ec
    obtain⟨bb,c2,ec⟩:=ai ec
    have u':jn H2 AD:=usedD sm (by rw[hH];simp)
    have S':=F.toS u' (usedB sm)
    have kav:Kp X.K G H2 AD H2 (av ⟨H2,AD,B1,none⟩ nA):=Kp.weak fun a z=>Ge a z
    refine⟨⟨H2,AD,B1,none⟩,nA,ps',ws[i],ps1,S',kav.rep rv,c1,fun σ3 ow3 S3 wk3=> ?_⟩
    have no1:∀(j:Nat) (x:Ow),ps1[j]? ≠ some (Sl.own x):=fun j x z=>no j x (gk _ _ _ c1 j x z)
    have eow:ow3=nA:=by
     funext j
     cases q:ow3 j with
     |none=>rfl
     |some p'=>exact absurd (S3.fresh j p' q) (S3.a0 p' (Ge p' (wk3 p' (.inr ⟨j,q⟩))))
    subst eow
    refine⟨⟨H2,AD,B1,none⟩,nA,ps1,bb,S3,c2,fun H4 s4=> ?_⟩
    have S4:=S3.grow s4
    have aft:∀{H5:Hp},Same H2 H5->gS X.K G B1 H5 AD ps1 σ3:=fun s5=>gS.ofS (S3.grow s5) rfl
    split at ec
    ·rename_i hb
     subst hb
     refine iteT ?_
     obtain⟨yw,c3,ec⟩:=ai ec
     obtain⟨r',c4,ec⟩:=ai ec
     cases ec
     refine⟨⟨H2,AD,B1,none⟩,nA,ps1,yw,S4,c3,fun yv H5 s5 r5=> ?_⟩
     have s25:=s4.trans s5
     have hH5:H5 D=some (.lst us):=s25 _ _ hH
     have r5':cU X.K G H5 AD yw yv:=(Kp.weak fun a z=>Or.inl z).rep r5
     have mD:Mt (HO.lst us):=And.intro (fun _ z=>by cases z) (fun _ _ z=>by cases z)
     have kD:∀u,Kp X.K G H5 AD (upd H5 D u) AD:=fun u=>Kp.own (.inr rfl) hH5 mD
     have F5:=aft s25
     refine⟨us,hH5,?_,ws.length-(i+1),by omega,ps1,ys++[yw],us++[yv],r',rfl,hlt,⟨F5.len,fun j s o h1 h2=> ?_⟩,no1,fun b u hb=> ?_,(kD _).reps (rep'.same s25),au,(kD _).reps ((ry.same s25).snoc r5'),by rw[List.length_append];simp;omega,c4,by rw[<-er,List.append_assoc];rfl⟩
     ·rw[<-ry.len];omega
     ·have q:=F5.slot j s o h1 h2
      cases s with
      |no=>exact True.intro
      |v w=>obtain⟨v,e,r⟩:=q;exact⟨v,e,(kD _).rep r⟩
      |own x=>exact q.elim
      |ino x=>exact q.elim
      |ini k xs=>exact q.elim
      |dol ks xss=>exact q.elim
      |als d j=>exact q.elim
      |bor w =>
       obtain⟨v,e,r⟩:=q
       refine⟨v,e,?_⟩
       rcases r with r|⟨x,p',e1',e2',r,n⟩
       ·exact .inl ((kD _).rep r)
       ·exact .inr ⟨x,p',e1',e2',r.keep (kD _) (aq (by intro z;subst z;exact n hD)),n⟩
     ·rw[aq (aO hb hD)];exact s25 _ _ (sm _ _ hb)
    ·rename_i hb
     have:bb=false:=by simpa using hb
     subst this
     exact ma ⟨ws.length-(i+1),by omega,ps1,ys,us,rest,rfl,hlt,aft s4,no1,sm.trans s4,rep'.same s4,s4 _ _ hH,ry.same s4,by omega,ec,er⟩
   ·left
    have:i=ws.length:=Nat.le_antisymm hi' hge
    subst this
    rw[List.drop_length]at ec
    cases ec
    rw[List.append_nil]at er
    subst er
    refine⟨by rw[lv];exact wk'.2,q D us H' (s1.trans sm) hD0 hH ry⟩
 ·cases e2
theorem cQ{elt iter:Expr}{ifs:List Expr}{scope:Scope}{own:List Str}{caps:List (Str×Nat)}{di:DA}{g:DG}{dt:DT}{de:DP}(S:dH X scope own caps)(hc:X.calm=true)(hi:Ek X G tg iter di)
  (hg:∀C s₀ H₀ fp,JG .(N) G tg g) (ht:∀C s₀ H₀ fp,El .(N) G ifs dt) (he:∀C s₀ H₀ fp,JP .(N) G elt de)
  (gk:∀(w:PV) (ps ps':aT),g w ps= .ok ps'->∀(i:Nat) (x:Ow),ps'[i]? =some (Sl.own x)->ps[i]? =some (Sl.own x))
  (hs:∀x,foldedSetIterable iter X.env x=pure x:=by intro _;rfl):JN X G (.ListComp elt [⟨tg,iter,ifs,0⟩] scope pos) (dComp own caps di g dt de) :=
 imp (yd (wi:=Ej X.K G di) (g:=tG X.K G g) (tc:=se X.K G dt) (te:=xv X.K G de) S hc hi hg ht he hs) fun σ H Q h=>mr gk h
end
end DN
end
noncomputable section
namespace DN
open PySem PySem.Spec PyProof.Rows L2
noncomputable section
variable{X:Cx}{G:Pg}{e a b o tg:Expr}{es:List Expr}{da db:DP}{d:DA}{dm:DM}{dma:pf}{pos p apos cpos:Pos}{x m:Str}{k i:Nat}{ms:List Bool}
def iT:pf:=fun ps=> .ok ([],ps)
noncomputable def bI(a:DM)(r:pf):pf:=fun ps=>(a ps).bind fun x=>(r x.2).bind fun y=> .ok (x.1::y.1,y.2)
theorem eJ:Ga X G [] iT:=uK fU fun σ H Q ⟨c,ow,ps,ws,ps',R,e,q⟩=>by
 cases e
 exact q [] H ow R (Kp.of_same (Same.refl H)) rfl
theorem aX(ha:JM X G e dm)(hr:Ga X G es dma)(hs:starEach (e::es) X.env=.(U)::starEach es X.env:=by rfl):Ga X G (e::es) (bI dm dma) :=
 uK (dg ha hr hs) fun σ H Q ⟨c,ow,ps,ws,ps',R,e,q⟩=>by
  obtain⟨⟨x,p1⟩,e1,e⟩:=ai e
  obtain⟨⟨xs,p2⟩,e2,e⟩:=ai e
  cases e
  refine⟨c,ow,ps,x,p1,R,e1,fun v H1 ow1 R1 k1 r1=>⟨c,ow1,p1,xs,p2,R1,e2,fun vs H2 ow2 R2 k2 r2=> ?_⟩⟩
  exact q (v::vs) H2 ow2 R2 (k1.trans k2) ⟨v,vs,rfl,k2.rep r1,r2⟩
noncomputable def iU(d:pf):DM:=fun ps=>(d ps).bind fun x=>if x.1.length<=1000 then .ok (.tup x.1,x.2) else .bad
theorem gL{x1}(h:Ga X G es dma):JM X G (.Tuple es x1 pos) (iU dma):=imp (um h) fun σ H Q ⟨c,ow,ps,w,ps',R,e,q⟩=>by
 obtain⟨⟨ws,p1⟩,e1,e⟩:=ai e
 split at e
 ·rename_i hl
  cases e
  refine⟨c,ow,ps,ws,p1,R,e1,fun vs H1 ow1 R1 k1 r1=>⟨?_,fun p hp=> ?_⟩⟩
  ·rw[<-r1.len];exact Nat.le_of_lt (iQ hl)
  ·have s:=bt hp (.tup vs)
   exact q _ _ ow1 (R1.grow s) (k1.trans (Kp.of_same s)) ⟨p,vs,rfl,au,r1.same s⟩
 ·cases e
noncomputable def kH(i:Nat):DM:=fun ps=>match ps[i]? with
 |some (.own (.lst xs))=>(match xs.getLast? with|some w=> .ok (w,ps.set i (.own (.lst xs.dropLast)))|none=> .bad)
 |_=> .bad
theorem aD.last{K:Fg}{H:Hp}{A:Av}{ws:List PV}{vs:List V}{w:PV}(r:aD K G H A ws vs)(e:ws.getLast? =some w):∃v,vs[vs.length-1]? =some v/\cU K G H A w v:=by
 rw[List.getLast?_eq_getElem?]at e
 obtain⟨v,h1,h2⟩:=r.get e
 exact⟨v,by rw[<-r.len];exact h1,h2⟩
theorem aD.dropLast{K:Fg}{H:Hp}{A:Av}{ws:List PV}{vs:List V}(r:aD K G H A ws vs):aD K G H A ws.dropLast vs.dropLast:=by
 rw[List.dropLast_eq_take,List.dropLast_eq_take,r.len]
 exact r.take _
theorem jS(i:Nat)(hline:(apos.endLine == cpos.line)=true:=by rfl)(hN:X.N[i]? =some x:=by rfl)(hv:lX X.env.scope x:=by first|exact Or.inl rfl|exact Or.inr (Or.inl rfl)|exact Or.inr (Or.inr rfl))(hd:(x == .(L))=false:=by decide)
  (hcd:(x == .(Ad))=false:=by decide) (hbase:attributeBase (.Name x pos) "pop" X.env (eval (.Name x pos) X.env)=eval (.Name x pos) X.env:=by rfl):JM X G (.Call (.Attribute (.Name x pos) "pop" apos) [] [] cpos) (kH i) :=
 imp (p6 PySem.F.plainAttrs_list PySem.F.slot_list_pop PySem.F.type_list_pop AG (aV hN hv hd hcd) hbase hline) fun σ H Q ⟨c,ow,ps,w,ps',R,e,q⟩=>by
  unfold kH at e
  split at e
  ·rename_i xs hx
   split at e
   ·rename_i w' hw
    cases e
    obtain⟨p,e1,e2,vs,hH,rs⟩:=R.getO hx
    obtain⟨v,hv,rv⟩:=rs.last hw
    have mD:Mt (HO.lst vs):=And.intro (fun _ z=>by cases z) (fun _ _ z=>by cases z)
    have k0:Kp X.K G H (av c ow) (upd H p (.lst vs.dropLast)) (av c ow):=Kp.own (.inr ⟨i,e1⟩) hH mD
    have:=R.chg (y:= .lst xs.dropLast) (u:= .lst vs.dropLast) hx e1 ⟨_,au,k0.reps rs.dropLast⟩
    exact⟨.ref p,e2,.inl ⟨rfl,_,eE.of hH⟩,p,vs,v,rfl,rfl,hH,hv,q v _ ow this.1 this.2 (k0.rep rv)⟩
   ·cases e
  ·cases e
noncomputable def iq(i:Nat)(d:DM):DM:=fun ps=>match ps[i]? with
 |some (.own (.lst _))=>(d ps).bind fun x=>(match x.2[i]? with|some (.own (.lst xs))=>if xs.length<sizeLine then .ok (.non,x.2.set i (.own (.lst (xs++[x.1])))) else .bad|_=> .bad)
 |_=> .bad
theorem ir(i:Nat)(he:JM X G e dm)(hline:(apos.endLine == cpos.line)=true:=by rfl)(hN:X.N[i]? =some x:=by rfl)(hv:lX X.env.scope x:=by first|exact Or.inl rfl|exact Or.inr (Or.inl rfl)|exact Or.inr (Or.inr rfl))(hd:(x == .(L))=false:=by decide)
  (hcd:(x == .(Ad))=false:=by decide) (hst:starEach [e] X.env=.(U)::starEach [] X.env:=by rfl) (hbase:attributeBase (.Name x pos) "append" X.env (eval (.Name x pos) X.env)=eval (.Name x pos) X.env:=by rfl)
  (hpl:(backTo cpos (starEach ([]:List Expr) X.env)).any (·.1)=false:=by rfl)
  (hfew:.(K)=true:=by rfl) :
  JM X G (.Call (.Attribute (.Name x pos) "append" apos) [e] [] cpos) (iq i dm) :=
 imp (qf PySem.F.plainAttrs_list PySem.F.slot_list_append PySem.F.type_list_append iP (aV hN hv hd hcd) (dg he fU hst) hbase hfew hline hst hpl) fun σ H Q ⟨c,ow,ps,w,ps',R,e,q⟩=>by
  unfold iq at e
  split at e
  ·rename_i xs0 hx0
   obtain⟨⟨w1,p1⟩,e1,e⟩:=ai e
   split at e
   ·rename_i xs hx
    split at e
    ·rename_i hl
     cases e
     obtain⟨p0,e2,e3,vs0,hH0,_⟩:=R.getO hx0
     refine⟨.ref p0,e3,.inl ⟨rfl,_,eE.of hH0⟩,c,ow,ps,w1,p1,R,e1,fun v H1 ow1 R1 k1 r1=> ?_⟩
     obtain⟨p,e4,e5,vs,hH,rs⟩:=R1.getO hx
     rw[e3]at e5;cases e5
     have mD:Mt (HO.lst vs):=And.intro (fun _ z=>by cases z) (fun _ _ z=>by cases z)
     have k0:Kp X.K G H1 (av c ow1) (upd H1 p0 (.lst (vs++[v]))) (av c ow1):=Kp.own (.inr ⟨i,e4⟩) hH mD
     have:=R1.chg (y:= .lst (xs++[w1])) (u:= .lst (vs++[v])) hx e4 ⟨_,au,k0.reps (rs.snoc r1)⟩
     exact⟨p0,vs,v,rfl,rfl,hH,by rw[<-rs.len];exact hl,q .non _ ow1 this.1 (k1.trans this.2) rfl⟩
    ·cases e
   ·cases e
  ·cases e
noncomputable def gU(i:Nat):DM:=fun ps=>match ps[i]? with
 |some (.own y)=> .ok (y.pv,ps.set i (.v y.pv))
 |some (.v w)=> .ok (w,ps)
 |_=> .bad
theorem jb(i:Nat)(hN:X.N[i]? =some x:=by rfl)(hv:lX X.env.scope x:=by first|exact Or.inl rfl|exact Or.inr (Or.inl rfl)|exact Or.inr (Or.inr rfl))(hd:(x == .(L))=false:=by decide)
  (hcd:(x == .(Ad))=false:=by decide):JM X G (.Name x pos) (gU i):=imp (aV hN hv hd hcd) fun σ H Q ⟨c,ow,ps,w,ps',R,e,q⟩=>by
 unfold gU at e
 split at e
 ·rename_i y hy
  cases e
  obtain⟨p,e1,R',r',k'⟩:=R.frz hy
  exact⟨_,e1,q _ H _ R' k' r'⟩
 ·rename_i w' hw
  cases e
  obtain⟨v,ev,r⟩:=R.getV hw
  exact⟨v,ev,q v H ow R (Kp.of_same (Same.refl H)) r⟩
 ·cases e
noncomputable def Em(f:List PV->Rx PV)(d:pf):DM:=fun ps=>(d ps).bind fun x=>(f x.1).bind fun w=> .ok (w,x.2)
end
theorem oi{c:Fr}{ow:gJ}{i:Nat}{p:Addr}:∀a,av c (l9 ow i p) a->a=p\/av c ow a:=by
 intro a h
 rcases h with h|⟨j,h⟩
 ·exact .inr (.inl h)
 ·unfold l9 at h
  split at h
  ·cases h;exact .inl rfl
  ·exact .inr (.inr ⟨j,h⟩)
inductive Rs where
 |nx (ps:aT)|ret (w:PV)|retn (xs:List PV)|reti (w:PV) (x:Ow)|brk (ps:aT)|cnt (ps:aT)|bad|exc (c:Nat)
abbrev DS:=aT->Rs
def cR(K:Fg)(G:Pg)(c:Fr)(H:Hp)(A:Av)(D:nH):Rs->Prop
 |.nx ps=>∀σ H' ow,aU K G c H' ow ps σ ->Kp K G H A H' (av c ow)->D.nx σ H'
 |.ret w=>∀v H',jL c H'->cU K G H' c.A0 w v->D.rt v H'
 |.reti w x=>∀v H' p,jL c H'->c.lx=some p->fm K G H' c.A0 x p->cU K G H' c.A0 w v->D.rt v H'
 |.retn xs=>∀p vs H',jL c H'->c.H0 p=none->H' p=some (.lst vs)->aD K G H' (fun a=>c.A0 a\/a=p) xs vs->D.rt (.ref p) H'
 |.brk ps=>∀σ H' ow,aU K G c H' ow ps σ ->Kp K G H A H' (av c ow)->D.bk σ H'
 |.cnt ps=>∀σ H' ow,aU K G c H' ow ps σ ->Kp K G H A H' (av c ow)->D.ct σ H'
 |.bad=>False
 |.exc _=>False
theorem cR.mono{K:Fg}{G:Pg}{c:Fr}{H H1:Hp}{A A1:Av}{D:nH}{r:Rs}(h:cR K G c H A D r)(k:Kp K G H A H1 A1):cR K G c H1 A1 D r:=by
 cases r with
 |nx ps=>exact fun σ H' ow R k'=>h σ H' ow R (k.trans k')
 |ret w=>exact h
 |retn xs=>exact h
 |reti w x=>exact h
 |brk ps=>exact fun σ H' ow R k'=>h σ H' ow R (k.trans k')
 |cnt ps=>exact fun σ H' ow R k'=>h σ H' ow R (k.trans k')
 |bad=>exact h
 |exc c=>exact h
def tD(K:Fg)(G:Pg)(d:DS):TS:=fun D σ H=>∃(c:Fr) (ow:gJ) (ps:aT),aU K G c H ow ps σ /\cR K G c H (av c ow) D (d ps)
abbrev JS(X:Cx)(G:Pg)(st:Stmt)(d:DS):Prop:=PS X st (tD X.K G d)
abbrev nB(X:Cx)(G:Pg)(st:List Stmt)(d:DS):Prop:=nI X st (tD X.K G d)
theorem eK{X:Cx}{st:Stmt}{t t':TS}(h:PS X st t)(f:∀D σ H,t' D σ H->t D σ H):PS X st t':=fun pins s σ H D I q=>h pins s σ H D I (f D σ H q)
theorem zz{X:Cx}{st:List Stmt}{t t':TS}(h:nI X st t)(f:∀D σ H,t' D σ H->t D σ H):nI X st t':=fun pins s σ H D I q=>h pins s σ H D I (f D σ H q)
noncomputable def Rx.st{α :Type}:Rx α ->(α ->Rs)->Rs
 |.ok a,f=>f a
 |.bad,_=> .bad
 |.exc c,_=> .exc c
@[simp]theorem bn{α :Type}(a: α)(f: α ->Rs):(Rx.ok a).st f=f a:=rfl
@[simp]theorem Ho{α :Type}(f: α ->Rs):(Rx.bad:Rx α).st f= .bad:=rfl
@[simp]theorem Hq{α :Type}(c:Nat)(f: α ->Rs):(Rx.exc c:Rx α).st f= .exc c:=rfl
theorem aY{α :Type}{K:Fg}{G:Pg}{c:Fr}{H:Hp}{A:Av}{D:nH}{m:Rx α}{f: α ->Rs}(h:cR K G c H A D (m.st f)):∃a,m= .ok a/\cR K G c H A D (f a):=by
 cases m with
 |ok a=>exact⟨a,rfl,h⟩
 |bad=>exact h.elim
 |exc c=>exact h.elim
noncomputable section
variable{X:Cx}{G:Pg}{e a b o tg:Expr}{es:List Expr}{da db:DP}{d:DA}{dm:DM}{ds du:DS}{st:Stmt}{rest:List Stmt}{pos p:Pos}{x m:Str}{k i:Nat}
def aJ:DS:=fun ps=> .nx ps
def al(a b:DS):DS:=fun ps=>match a ps with | .nx ps'=>b ps'|r=>r
theorem aB:nB X G [] aJ:=zz xF fun D σ H ⟨c,ow,ps,R,q⟩=>q σ H ow R (Kp.of_same (Same.refl H))
theorem ag(h:JS X G st ds):nB X G [st] ds:=hV h
theorem af(h1:JS X G st ds)(h2:nB X G rest du):nB X G (st::rest) (al ds du):=zz (dJ h1 h2) fun D σ H ⟨c,ow,ps,R,q⟩=>by
 refine⟨c,ow,ps,R,?_⟩
 unfold al at q
 cases e:ds ps with
 |nx ps'=>rw[e]at q;exact fun σ' H' ow' R' k=>⟨c,ow',ps',R',q.mono k⟩
 |ret w=>rw[e]at q;exact q
 |retn xs=>rw[e]at q;exact q
 |reti w x=>rw[e]at q;exact q
 |brk ps'=>rw[e]at q;exact q
 |cnt ps'=>rw[e]at q;exact q
 |bad=>rw[e]at q;exact q
 |exc c=>rw[e]at q;exact q
def Hr:DS:=fun ps=> .brk ps
def Hs:DS:=fun ps=> .cnt ps
noncomputable def aF(i:Nat)(d:DP):DS:=fun ps=>(d ps).st fun w=> .nx (ps.set i (.v w))
theorem aK(hN:X.N.Nodup)(hi:X.N[i]? =some x)(hx:nw X.env.scope x)(he:JP X G e da)(hs:swapsWith e (some (.Name x p)) pos.line X.env=pure false:=by rfl)(hf:X.fn x=true\/X.env.scope.names.lookup x=some .local:=by first|exact .inl rfl|exact .inr rfl|assumption) :
  JS X G (.Assign [.Name x p] e pos) (aF i da):=eK (iJ hN hi hx he hs hf) fun D σ H ⟨c,ow,ps,R,q⟩=>by
 obtain⟨w,e1,q⟩:=aY q
 exact⟨c,ow,ps,w,R,e1,fun v H' s r=>q _ _ _ ((R.grow s).setV r) ((Kp.of_same s).trans (Kp.weak fX))⟩
noncomputable def jc(i:Nat)(d:DM):DS:=fun ps=>(d ps).st fun w=> .nx (w.2.set i (.v w.1))
theorem mv(hN:X.N.Nodup)(hi:X.N[i]? =some x)(hx:nw X.env.scope x)(he:JM X G e dm)(hs:swapsWith e (some (.Name x p)) pos.line X.env=pure false:=by rfl)(hf:X.fn x=true\/X.env.scope.names.lookup x=some .local:=by first|exact .inl rfl|exact .inr rfl|assumption) :
  JS X G (.Assign [.Name x p] e pos) (jc i dm):=eK (iJ hN hi hx he hs hf) fun D σ H ⟨c,ow,ps,R,q⟩=>by
 obtain⟨⟨w,ps'⟩,e1,q⟩:=aY q
 exact⟨c,ow,ps,w,ps',R,e1,fun v H' ow' R' k r=>q _ _ _ (R'.setV r) (k.trans (Kp.weak fX))⟩
noncomputable def gW(i:Nat)(d:DA):DS:=fun ps=>(d ps).st fun ws=>if i<ps.length then .nx (ps.set i (.own (.lst ws))) else .bad
theorem li(hN:X.N.Nodup)(hi:X.N[i]? =some x)(hx:nw X.env.scope x)(he:JN X G e d)(hs:swapsWith e (some (.Name x p)) pos.line X.env=pure false:=by rfl)(hf:X.fn x=true\/X.env.scope.names.lookup x=some .local:=by first|exact .inl rfl|exact .inr rfl|assumption) :
  JS X G (.Assign [.Name x p] e pos) (gW i d):=eK (iJ hN hi hx he hs hf) fun D σ H ⟨c,ow,ps,R,q⟩=>by
 obtain⟨ws,e1,q⟩:=aY q
 split at q
 ·rename_i hl
  exact⟨c,ow,ps,ws,R,e1,fun p vs H' s hp hv r=>q _ _ _ (R.setO hl s hp ⟨vs,hv,r⟩) (Kp.take hp s oi)⟩
 ·exact q.elim
noncomputable def gX(g:DG)(d:DP):DS:=fun ps=>(d ps).st fun w=>(g w ps).st fun ps'=> .nx ps'
theorem lj{g:DG}(he:JP X G e da)(hg:JG X G tg g)(hs:swapsWithSole [tg] e pos.line X.env=pure false:=by rfl)(hw:swappedStores [tg] e X.env=pure none:=by rfl)(h1:(assignEach [tg] X.env).map (·.2)=[assign tg X.env]:=by rfl):JS X G (.Assign [tg] e pos) (gX g da) :=
 eK (Ah he hg hs hw h1) fun D σ H ⟨c,ow,ps,R,q⟩=>by
  obtain⟨w,e1,q⟩:=aY q
  obtain⟨ps',e2,q⟩:=aY q
  exact⟨c,ow,ps,w,R,e1,fun v H' s r=>⟨c,ow,ps,w,ps',R.grow s,r,e2,fun σ' ow' R' wk=>q _ _ _ R' ((Kp.of_same s).trans (Kp.weak wk))⟩⟩
def cx(d:DM):DS:=fun ps=>(d ps).st fun w=> .nx w.2
theorem cY(he:JM X G e dm)(hs:swapsWith e none pos.line X.env=pure false:=by rfl):JS X G (.Expr e pos) (cx dm):=eK (xG he hs) fun D σ H ⟨c,ow,ps,R,q⟩=>by
 obtain⟨⟨w,ps'⟩,e1,q⟩:=aY q
 exact⟨c,ow,ps,w,ps',R,e1,fun v H' ow' R' k r=>q _ _ _ R' k⟩
def aG(d:DP):DS:=fun ps=>(d ps).st fun w=> .ret w
theorem ax(he:JP X G e da):JS X G (.Return (some e) pos) (aG da):=eK (u7 he) fun D σ H ⟨c,ow,ps,R,q⟩=>by
 obtain⟨w,e1,q⟩:=aY q
 exact⟨c,ow,ps,w,R,e1,fun v H' s r=>q v H' (R.same.trans s) ((Kp.weak fun a z=>Or.inl z).rep r)⟩
noncomputable def g7(d:DM):DS:=fun ps=>(d ps).st fun w=> .ret w.1
theorem gY(he:JM X G e dm):JS X G (.Return (some e) pos) (g7 dm):=eK (u7 he) fun D σ H ⟨c,ow,ps,R,q⟩=>by
 obtain⟨⟨w,ps'⟩,e1,q⟩:=aY q
 exact⟨c,ow,ps,w,ps',R,e1,fun v H' ow' R' k r=>q v H' R'.same ((Kp.weak fun a z=>Or.inl z).rep r)⟩
def En(d:DA):DS:=fun ps=>(d ps).st fun xs=> .retn xs
noncomputable def Eo(i:Nat):DS:=fun ps=>match ps[i]? with|some (.own (.lst xs))=> .retn xs|_=> .bad
def Ep:DS:=fun _=> .ret .non
def cG(t:DT)(a b:DS):DS:=fun ps=>(t ps).st fun x=>if x=true then a ps else b ps
theorem bh{c:Expr}{a b:List Stmt}{dt:DT}(hc:JT X G c dt)(ha:nB X G a ds)(hb:nB X G b du):JS X G (.If c a b pos) (cG dt ds du):=eK (Dk hc ha hb) fun D σ H ⟨c,ow,ps,R,q⟩=>by
 obtain⟨x,e1,q⟩:=aY q
 refine⟨c,ow,ps,x,R,e1,fun H' s=> ?_⟩
 split at q
 ·rename_i hx;subst hx;exact iteT ⟨c,ow,ps,R.grow s,q.mono (Kp.of_same s)⟩
 ·rename_i hx
  have:x=false:=by simpa using hx
  subst this
  exact ma ⟨c,ow,ps,R.grow s,q.mono (Kp.of_same s)⟩
noncomputable def jq(i:Nat)(f:Int->Int->Int)(d:DP):DS:=fun ps=>match ps[i]? with
 |some (.v (.int y))=>(d ps).st fun w=>(match w with | .int z=> .nx (ps.set i (.v (.int (f y z))))|_=> .bad)
 |_=> .bad
theorem oj{op:Operator}{f:Int->Int->Int}(hN:X.N.Nodup)(hi:X.N[i]? =some x)(hx:nw X.env.scope x)(he:JP X G e da)(ho:Dl X op (G4 f))(hf:X.fn x=true\/X.env.scope.names.lookup x=some .local:=by first|exact .inl rfl|exact .inr rfl|assumption) :
  JS X G (.AugAssign (.Name x p) op e pos) (jq i f da):=eK (Ai hN hi hx he ho hf) fun D σ H ⟨c,ow,ps,R,q⟩=>by
 unfold jq at q
 split at q
 ·rename_i y hy
  obtain⟨w,e1,q⟩:=aY q
  obtain⟨v,ev,r⟩:=R.getV hy
  refine⟨v,ev,c,ow,ps,w,R,e1,fun u H' s ru=> ?_⟩
  split at q
  ·rename_i z
   exact⟨y,z,r,ru,q _ _ _ ((R.grow s).setV rfl) ((Kp.of_same s).trans (Kp.weak fX))⟩
  ·exact q.elim
 ·exact q.elim
noncomputable def forD(g:DG)(body:DS):List PV->aT->Rs
 |[],ps=> .nx ps
 |w::ws,ps=>(g w ps).st fun ps1=>match body ps1 with
  |.nx ps2=>forD g body ws ps2
  |.cnt ps2=>forD g body ws ps2
  |.brk ps2=> .nx ps2
  |r=>r
noncomputable def sFor(di:DA)(g:DG)(body:DS):DS:=fun ps=>(di ps).st fun ws=>forD g body ws ps
theorem g8{iter:Expr}{body:List Stmt}{di:DA}{g:DG}(hp:PassesOwn .(E) X.A X.env X.xe)(hc:X.calm=true)(hi:JI X G tg iter di)(hg:JG X G tg g)(hb:nB X G body ds)
  (hs:∀x,foldedSetIterable iter X.env x=pure x:=by intro _;rfl):JS X G (.For tg iter body [] pos) (sFor di g ds):=eK (ue hp hc hi hg hb hs) fun D σ H ⟨c,ow,ps,R,q⟩=>by
 obtain⟨ws,e1,q⟩:=aY q
 refine⟨c,ow,ps,ws,R,e1,fun J H1 vs s1 rep wk=> ?_⟩
 refine⟨fun i m σ' H'=>∃ow' ps',m=ws.length-i/\i<=ws.length/\aU X.K G c H' ow' ps' σ'/\Kp X.K G H1 (av c ow) H' (av c ow')/\cR X.K G c H' (av c ow') D (forD g ds (ws.drop i) ps'),
  ⟨_,ow,ps,rfl,Nat.zero_le _,R.grow s1,Kp.of_same (Same.refl _),q.mono (Kp.of_same s1)⟩,?_⟩
 rintro i m σ' H' ⟨ow',ps',rfl,hi',R',k',q'⟩
 obtain⟨wg,wst⟩:=wk H' _ k' R'.same
 rcases Nat.lt_or_ge i ws.length with hlt|hge
 ·right
  rw[List.drop_eq_getElem_cons hlt]at q'
  obtain⟨v,hv,rv⟩:=(k'.reps rep).get (List.getElem?_eq_getElem hlt)
  obtain⟨go,yl⟩:=wg i v hv
  refine⟨go,_,fun _ _ h=>h,fun y H2 hyl=> ?_⟩
  obtain⟨rfl,rfl⟩:=yl y H2 hyl
  obtain⟨ps1,c1,q'⟩:=aY q'
  refine⟨c,ow',ps',ws[i],ps1,R',rv,c1,fun σ3 ow3 R3 wk3=> ?_⟩
  have k3:Kp X.K G H1 (av c ow) H2 (av c ow3):=k'.trans (Kp.weak wk3)
  have q3:=q'.mono (Kp.weak (K:=X.K) (G:=G) (H:=H2) wk3)
  refine⟨c,ow3,ps1,R3,?_⟩
  cases er:ds ps1 with
  |nx ps2 =>
   rw[er]at q3
   exact fun σ4 H4 ow4 R4 k4=>⟨ws.length-(i+1),by omega,ow4,ps2,rfl,hlt,R4,k3.trans k4,cR.mono q3 k4⟩
  |cnt ps2 =>
   rw[er]at q3
   exact fun σ4 H4 ow4 R4 k4=>⟨ws.length-(i+1),by omega,ow4,ps2,rfl,hlt,R4,k3.trans k4,cR.mono q3 k4⟩
  |brk ps2=>rw[er]at q3;exact q3
  |ret w=>rw[er]at q3;exact q3
  |retn xs=>rw[er]at q3;exact q3
  |reti w x=>rw[er]at q3;exact q3
  |bad=>rw[er]at q3;exact q3
  |exc c=>rw[er]at q3;exact q3
 ·left
  have:i=ws.length:=Nat.le_antisymm hi' hge
  subst this
  rw[List.drop_length]at q'
  exact⟨by rw[rep.len];exact wst,q' σ' H' ow' R' (Kp.of_same (Same.refl _))⟩
end
noncomputable def ol(ms:List Bool)(n:Nat)(ws:List PV):aT:=(List.zipWith (fun m w=>if m=true then Sl.bor w else Sl.v w) ms ws)++List.replicate (n-ws.length) .no
noncomputable def aH(ms:List Bool)(n:Nat)(d:DS)(ws:List PV):Rx PV:=if ws.length=ms.length then(match d (ol ms n ws)with | .ret w=> .ok w | .retn xs=> .ok (.lst xs) | .nx _=> .ok .non | .exc c=> .exc c|_=> .bad) else .bad
theorem JQ{K:Fg}{G:Pg}{H:Hp}{A:Av}:∀{ms:List Bool} {ws:List PV} {vs:List V} {i:Nat} {s:Sl} {o:Option V},dz K G H A ms ws vs->(List.zipWith (fun m w=>if m=true then Sl.bor w else Sl.v w) ms ws)[i]? =some s->(vs.map some)[i]? =some o->JL K G (fun p=>H p≠none) H A s o
 |[],ws,vs,i,s,o,h,e1,e2=>by obtain⟨rfl,rfl⟩:=h;simp at e1
 |m::ms,ws,vs,0,s,o,h,e1,e2=>by
  obtain⟨w,wr,v,vr,rfl,rfl,r,rr⟩:=h
  simp at e1 e2
  subst e1;subst e2
  cases m with
  |true =>
   simp only[if_pos]
   rw[if_pos rfl]at r
   refine⟨v,rfl,?_⟩
   rcases r with r|⟨x,p,e1,e2,r⟩
   ·exact .inl r
   ·obtain⟨o',eo,_⟩:=r.at
    exact .inr ⟨x,p,e1,e2,r,by show H p≠none;rw[eo];simp⟩
  |false =>
   rw[if_neg Bool.false_ne_true]at r
   exact⟨v,rfl,r⟩
 |m::ms,ws,vs,i+1,s,o,h,e1,e2=>by
  obtain⟨w,wr,v,vr,rfl,rfl,r,rr⟩:=h
  exact JQ (i:=i) rr (by simpa using e1) (by simpa using e2)
theorem mw{K:Fg}{G:Pg}{H:Hp}{A:Av}{ms:List Bool}{ws:List PV}{vs:List V}{N:List Str}(r:dz K G H A ms ws vs):gS K G (fun p=>H p≠none) H A (ol ms N.length ws) (L2.start N vs):=by
 have l1:=r.len.1
 have l2:=r.len.2
 refine⟨by simp[ol,L2.start,l1,l2],fun i s o e1 e2=> ?_⟩
 unfold ol at e1
 unfold L2.start at e2
 rcases Nat.lt_or_ge i ms.length with h|h
 ·rw[List.getElem?_append_left (by simp[l1];omega)]at e1
  rw[List.getElem?_append_left (by simp[l2];omega)]at e2
  exact JQ r e1 e2
 ·rw[List.getElem?_append_right (by simp[l1];omega),List.getElem?_replicate]at e1
  split at e1
  ·cases e1;exact True.intro
  ·cases e1
theorem uU{P:Program}{w:World}{K:Fg}{mg:Str->Option Value}{base:Bs}{G:Pg}{x qual:Str}{st:Stmt}{f:Addr}{fd:FuncData}{N ps:List Str}{k:Nat}{ms:List Bool}{d:DS}(F:fE K x qual st f fd)(S:am N ps (ah st))(hm:ms.length=ps.length)
  (hb:∀(cdv:Value) (A:Around) (outer:List Env) (s:Shared) (H:Hp) (E:XK),br k (A.deeper (envOfC qual (ah st) s.heap.objs.size f cdv))->nB (iO fS P w K mg base N qual (ah st) f cdv A outer s H E).nox G (bz st) d) :
  cN P w K mg base fS (k+1) f fd ps (tX K G ms (aH ms N.length d)):=by
 refine F.ok S (fun vs H Q E h=> ?_) (fun cdv A outer s H vs Q E hr h=> ?_)
 ·obtain⟨A,ws,w,u,r,_⟩:=h
  rw[r.len.2,hm]
 ·obtain⟨A',ws,w',u,r,e,q⟩:=h
  refine⟨_,hb cdv A outer s H E hr,?_⟩
  have F0:=mw (N:=N) r
  have S0:=F0.toS u fun a z=>z
  refine⟨_,nA,ol ms N.length ws,S0,?_⟩
  unfold aH at e
  rw[if_pos r.len.1]at e
  cases ed:d (ol ms N.length ws) with
  |nx ps'=>rw[ed]at e;cases e;exact fun σ' H' ow' R' _=>q .non H' (R'.same.same rfl) rfl
  |ret w2=>rw[ed]at e;cases e;exact fun v H' s r=>q v H' (s.same rfl) r
  |reti w x=>rw[ed]at e;cases e
  |retn xs=>rw[ed]at e;cases e;exact fun p vs H' s hp hv r=>q (.ref p) H' (s.same rfl) ⟨p,vs,rfl,.inl ⟨hv,fun z=>u p z hp⟩,(Kp.weak fun a z=>Or.inl z).reps r⟩
  |brk _=>rw[ed]at e;cases e
  |cnt _=>rw[ed]at e;cases e
  |bad=>rw[ed]at e;cases e
  |exc _=>rw[ed]at e;cases e
end DN
end
noncomputable section
namespace DN
open PySem PySem.Spec PyProof.Rows L2
def sj:PV->Bool
 |.non=>true | .bl _=>true | .int _=>true | .str _=>true|_=>false
mutual
noncomputable def pr:PV->PV->Option Bool
 |.tup xs,.tup ys=>gA xs ys
 |.lst xs,.lst ys=>if xs.length=ys.length then gA xs ys else some false
 |.tup _,.lst _=>some false
 |.lst _,.tup _=>some false
 |.tup _,.non=>some false | .tup _,.bl _=>some false | .tup _,.int _=>some false | .tup _,.str _=>some false
 |.lst _,.non=>some false | .lst _,.bl _=>some false | .lst _,.int _=>some false | .lst _,.str _=>some false
 |.non,.tup _=>some false | .bl _,.tup _=>some false | .int _,.tup _=>some false | .str _,.tup _=>some false
 |.non,.lst _=>some false | .bl _,.lst _=>some false | .int _,.lst _=>some false | .str _,.lst _=>some false
 |.non,.non=>some true | .bl a,.bl b=>some (a == b) | .int a,.int b=>some (a == b) | .str a,.str b=>some (a == b)
 |.bl a,.int b=>some ((if a then 1 else 0) == b) | .int a,.bl b=>some (a == (if b then 1 else 0))
 |.non,.bl _=>some false | .non,.int _=>some false | .non,.str _=>some false
 |.bl _,.non=>some false | .int _,.non=>some false | .str _,.non=>some false
 |.bl _,.str _=>some false | .str _,.bl _=>some false | .int _,.str _=>some false | .str _,.int _=>some false
 |_,_=>none
noncomputable def gA:List PV->List PV->Option Bool
 |[],[]=>some true
 |x::xs,y::ys=>match pr x y,gA xs ys with|some a,some b=>some (a && b)|_,_=>none
 |[],_::_=>some false
 |_::_,[]=>some false
end
mutual
noncomputable def PV.depth:PV->Nat
 |.tup xs=>aN xs+1
 |.lst xs=>aN xs+1
 |_=>0
noncomputable def aN:List PV->Nat
 |[]=>0
 |x::xs=>max x.depth (aN xs)
end
theorem pw(xs ys:List PV):pr (.tup xs) (.tup ys)=gA xs ys:=rfl
theorem iV(xs ys:List PV):pr (.lst xs) (.lst ys)=if xs.length=ys.length then gA xs ys else some false:=rfl
noncomputable def sk:List PV->List PV->Nat->Bool
 |x::_,y::_,0=>(pr x y).getD false
 |_::xs,_::ys,j+1=>sk xs ys j
 |_,_,_=>false
theorem iW{x y:PV}{xs ys:List PV}{b:Bool}(h:gA (x::xs) (y::ys)=some b):∃a c,pr x y=some a/\gA xs ys=some c/\b=(a && c):=by
 rw[gA]at h
 cases e1:pr x y with
 |none=>rw[e1]at h;simp at h
 |some a =>
  cases e2:gA xs ys with
  |none=>rw[e1,e2]at h;simp at h
  |some c=>rw[e1,e2]at h;simp at h;exact⟨a,c,rfl,rfl,h.symm⟩
theorem dQ:∀{xs ys:List PV} {b:Bool},gA xs ys=some b->((List.range (min xs.length ys.length)).all (sk xs ys) && xs.length == ys.length)=b
 |[],[],b,h=>by rw[gA]at h;cases h;rfl
 |[],y::ys,b,h=>by rw[gA]at h;cases h;simp
 |x::xs,[],b,h=>by rw[gA]at h;cases h;simp
 |x::xs,y::ys,b,h=>by
  obtain⟨a,c,e1,e2,rfl⟩:=iW h
  have ih:=dQ e2
  rw[<-ih,List.length_cons,List.length_cons,Nat.add_min_add_right,List.range_succ_eq_map,List.all_cons,List.all_map]
  have q1:((sk (x::xs) (y::ys)) ∘ Nat.succ)=sk xs ys:=rfl
  have q2:sk (x::xs) (y::ys) 0=a:=by show(pr x y).getD false=a;rw[e1];rfl
  have q3:(xs.length+1 == ys.length+1)=(xs.length == ys.length):=by simp
  rw[q1,q2,q3,Bool.and_assoc]
noncomputable section
variable{X:Cx}{G:Pg}{pins:List (Addr×Obj)}{σ :L2.St}{H:Hp}{s:Shared}{A0:Av}
theorem so(I:aA X pins σ H s){a:Addr}{xs ys:List V}(h:eE X.K H a xs)(h':eE X.K H a ys):xs=ys:=by
 obtain⟨i1,r1,p1,_⟩:=I.list h
 obtain⟨i2,r2,p2,_⟩:=I.list h'
 obtain⟨o,n,e,c,d,q⟩:=p1
 obtain⟨o',n',e',c',d',q'⟩:=p2
 rw[e]at e';cases e'
 rw[q]at q'
 have:i1=i2:=by
  have:=(Data.seq.inj q').1
  simpa using this
 subst this
 exact r1.inj r2
mutual
theorem mx(I:aA X pins σ H s):∀{x y:PV} {v:V} {b:Bool},cU X.K G H A0 x v->cU X.K G H A0 y v->pr x y=some b->b=true
 |.tup xs,y,v,b,h,h',e=>by
  obtain⟨a,vs,rfl,sq,rs⟩:=h
  cases y with
  |tup ys =>
   obtain⟨a',vs',e2,sq',rs'⟩:=h'
   cases e2
   have:=I.tuple_inj (gE.of sq) (gE.of sq')
   subst this
   exact jT I rs rs' e
  |lst ys =>
   obtain⟨a',vs',e2,sq',rs'⟩:=h'
   cases e2
   obtain⟨_,_,⟨o,h1,h2,_⟩,_⟩:=I.tuple (gE.of sq)
   obtain⟨_,_,⟨o',_,h1',h2',_⟩,_⟩:=I.list sq'.sq
   rw[h1]at h1';cases h1'
   rw[h2]at h2';exact absurd (Value.type.inj h2') (by decide)
  |non=>cases h'
  |bl _=>cases h'
  |int _=>cases h'
  |str _=>cases h'
  |_=>cases e
 |.lst xs,y,v,b,h,h',e=>by
  obtain⟨a,vs,rfl,sq,rs⟩:=h
  cases y with
  |lst ys =>
   obtain⟨a',vs',e2,sq',rs'⟩:=h'
   cases e2
   have:=so I sq.sq sq'.sq
   subst this
   rw[iV,if_pos (by rw[rs.len,rs'.len])]at e
   exact jT I rs rs' e
  |tup ys =>
   obtain⟨a',vs',e2,sq',rs'⟩:=h'
   cases e2
   obtain⟨_,_,⟨o,h1,h2,_⟩,_⟩:=I.tuple (gE.of sq')
   obtain⟨_,_,⟨o',_,h1',h2',_⟩,_⟩:=I.list sq.sq
   rw[h1]at h1';cases h1'
   rw[h2]at h2';exact absurd (Value.type.inj h2') (by decide)
  |non=>cases h'
  |bl _=>cases h'
  |int _=>cases h'
  |str _=>cases h'
  |_=>cases e
 |.non,y,v,b,h,h',e=>by
  cases h
  cases y with
  |non=>cases h' <;> (cases e;simp)
  |bl _=>cases h' <;> (cases e;simp)
  |int _=>cases h' <;> (cases e;simp)
  |str _=>cases h' <;> (cases e;simp)
  |tup _=>obtain⟨_,_,z,_⟩:=h';cases z
  |lst _=>obtain⟨_,_,z,_⟩:=h';cases z
  |dic _ _=>obtain⟨_,_,z,_⟩:=h';cases z
  |dit _ _=>obtain⟨_,_,z,_⟩:=h';cases z
  |clo _ _=>obtain⟨_,_,_,z,_⟩:=h';cases z
  |obj _ _=>obtain⟨_,_,_,z,_⟩:=h';cases z
 |.bl k,y,v,b,h,h',e=>by
  cases h
  cases y with
  |non=>cases h' <;> (cases e;simp)
  |bl _=>cases h' <;> (cases e;simp)
  |int _=>cases h' <;> (cases e;simp)
  |str _=>cases h' <;> (cases e;simp)
  |tup _=>obtain⟨_,_,z,_⟩:=h';cases z
  |lst _=>obtain⟨_,_,z,_⟩:=h';cases z
  |dic _ _=>obtain⟨_,_,z,_⟩:=h';cases z
  |dit _ _=>obtain⟨_,_,z,_⟩:=h';cases z
  |clo _ _=>obtain⟨_,_,_,z,_⟩:=h';cases z
  |obj _ _=>obtain⟨_,_,_,z,_⟩:=h';cases z
 |.int k,y,v,b,h,h',e=>by
  cases h
  cases y with
  |non=>cases h' <;> (cases e;simp)
  |bl _=>cases h' <;> (cases e;simp)
  |int _=>cases h' <;> (cases e;simp)
  |str _=>cases h' <;> (cases e;simp)
  |tup _=>obtain⟨_,_,z,_⟩:=h';cases z
  |lst _=>obtain⟨_,_,z,_⟩:=h';cases z
  |dic _ _=>obtain⟨_,_,z,_⟩:=h';cases z
  |dit _ _=>obtain⟨_,_,z,_⟩:=h';cases z
  |clo _ _=>obtain⟨_,_,_,z,_⟩:=h';cases z
  |obj _ _=>obtain⟨_,_,_,z,_⟩:=h';cases z
 |.str k,y,v,b,h,h',e=>by
  cases h
  cases y with
  |non=>cases h' <;> (cases e;simp)
  |bl _=>cases h' <;> (cases e;simp)
  |int _=>cases h' <;> (cases e;simp)
  |str _=>cases h' <;> (cases e;simp)
  |tup _=>obtain⟨_,_,z,_⟩:=h';cases z
  |lst _=>obtain⟨_,_,z,_⟩:=h';cases z
  |dic _ _=>obtain⟨_,_,z,_⟩:=h';cases z
  |dit _ _=>obtain⟨_,_,z,_⟩:=h';cases z
  |clo _ _=>obtain⟨_,_,_,z,_⟩:=h';cases z
  |obj _ _=>obtain⟨_,_,_,z,_⟩:=h';cases z
 |.obj k xs,y,v,b,h,h',e=>by
  cases y <;> cases e
 |.dic k xs,y,v,b,h,h',e=>by
  cases y <;> cases e
 |.dit k xs,y,v,b,h,h',e=>by
  cases y <;> cases e
 |.clo k xs,y,v,b,h,h',e=>by
  cases y <;> cases e
theorem jT(I:aA X pins σ H s):∀{xs ys:List PV} {vs:List V} {b:Bool},aD X.K G H A0 xs vs->aD X.K G H A0 ys vs->gA xs ys=some b->b=true
 |[],[],vs,b,h,h',e=>by rw[gA]at e;cases e;rfl
 |[],y::ys,vs,b,h,h',e=>by
  obtain⟨v,r,e2,_⟩:=h'
  have h:vs=[]:=h
  rw[h]at e2;cases e2
 |x::xs,[],vs,b,h,h',e=>by
  obtain⟨v,r,e2,_⟩:=h
  have h':vs=[]:=h'
  rw[h']at e2;cases e2
 |x::xs,y::ys,vs,b,h,h',e=>by
  obtain⟨v,r,rfl,h1,h2⟩:=h
  obtain⟨v',r',e2,h1',h2'⟩:=h'
  cases e2
  obtain⟨a,c,e1,e2,rfl⟩:=iW e
  rw[mx I h1 h1' e1,jT I h2 h2' e2];rfl
end
mutual
theorem KJ(I:aA X pins σ H s):∀{x y:PV} {v v':V} {u u':Value} {A:Around} {b:Bool},A.units+x.depth<cLine->cU X.K G H A0 x v->cU X.K G H A0 y v'->aQ v u->aQ v' u'->pr x y=some b->SeqAt.EqAt A s u u' b
 |.tup xs,y,v,v',u,u',A,b,hu,h,h',r,r',e=>by
  have hu0:A.units<cLine:=Nat.lt_of_le_of_lt (Nat.le_add_right _ _) hu
  have h0:=h
  obtain⟨a,vs,rfl,sq,rs⟩:=h
  obtain rfl:u=Value.ref a:=r
  obtain⟨its,r1,p1,_⟩:=I.tuple (gE.of sq)
  cases y with
  |tup ys =>
   have h0':=h'
   obtain⟨a',vs',rfl,sq',rs'⟩:=h'
   obtain rfl:u'=Value.ref a':=r'
   by_cases ea:a=a'
   ·subst ea
    rw[mx I h0 h0' e]
    exact SeqAt.EqAt.same _
   ·obtain⟨its',r2,p2,_⟩:=I.tuple (gE.of sq')
    have hd:(PV.tup xs).depth=aN xs+1:=by rw[PV.depth]
    rw[pw]at e
    refine SeqAt.EqAt.of_refs ea ?_
    have q:=SeqAt.RcAt.tuples (A:=A) (e:=sk xs ys) p1 p2 (by omega) fun j h1 h2=>by
     have h1':j<its.length:=by simpa using h1
     have h2':j<its'.length:=by simpa using h2
     have:=py I (A:=A.in1) (j:=j) (by show A.units+1+aN xs<cLine;omega) rs rs' r1 r2 e (List.getElem?_eq_getElem h1') (List.getElem?_eq_getElem h2')
     simpa using this
    have e4:its.toArray.size=xs.length:=by rw[List.size_toArray,<-r1.length,rs.len]
    have e5:its'.toArray.size=ys.length:=by rw[List.size_toArray,<-r2.length,rs'.len]
    rw[e4,e5,dQ e]at q
    exact q
  |lst ys =>
   obtain⟨a',vs',rfl,sq',rs'⟩:=h'
   obtain rfl:u'=Value.ref a':=r'
   obtain⟨its',r2,p2,_⟩:=I.list sq'.sq
   cases e
   exact SeqAt.EqAt.tuple_list p1 p2.isList hu0
  |non=>cases h';cases r';cases e;exact SeqAt.EqAt.tuple_none p1 hu0
  |bl k=>cases h';cases r';cases e;exact SeqAt.EqAt.tuple_bool k p1 hu0
  |int k=>cases h';obtain⟨t,rfl⟩:=r';cases e;exact SeqAt.EqAt.tuple_int k t p1 hu0
  |str k=>cases h';obtain⟨t,rfl⟩:=r';cases e;exact SeqAt.EqAt.tuple_str k t p1 hu0
  |_=>cases e
 |.lst xs,y,v,v',u,u',A,b,hu,h,h',r,r',e=>by
  have hu0:A.units<cLine:=Nat.lt_of_le_of_lt (Nat.le_add_right _ _) hu
  have h0:=h
  obtain⟨a,vs,rfl,sq,rs⟩:=h
  obtain rfl:u=Value.ref a:=r
  obtain⟨its,r1,p1,_⟩:=I.list sq.sq
  cases y with
  |lst ys =>
   have h0':=h'
   obtain⟨a',vs',rfl,sq',rs'⟩:=h'
   obtain rfl:u'=Value.ref a':=r'
   by_cases ea:a=a'
   ·subst ea
    rw[mx I h0 h0' e]
    exact SeqAt.EqAt.same _
   ·obtain⟨its',r2,p2,_⟩:=I.list sq'.sq
    have hd:(PV.lst xs).depth=aN xs+1:=by rw[PV.depth]
    have e4:its.toArray.size=xs.length:=by rw[List.size_toArray,<-r1.length,rs.len]
    have e5:its'.toArray.size=ys.length:=by rw[List.size_toArray,<-r2.length,rs'.len]
    refine SeqAt.EqAt.of_refs ea ?_
    rw[iV]at e
    by_cases hl:xs.length=ys.length
    ·rw[if_pos hl]at e
     have q:=SeqAt.RcAt.lists (A:=A) (e:=sk xs ys) p1.isList p2.isList (by rw[e4,e5,hl]) (by omega) fun j h1 h2=>by
      have h1':j<its.length:=by simpa using h1
      have h2':j<its'.length:=by simpa using h2
      have:=py I (A:=A.in1) (j:=j) (by show A.units+1+aN xs<cLine;omega) rs rs' r1 r2 e (List.getElem?_eq_getElem h1') (List.getElem?_eq_getElem h2')
      simpa using this
     have q2:=dQ e
     rw[hl,Nat.min_self,beq_self_eq_true,Bool.and_true]at q2
     rw[e4,hl,q2]at q
     exact q
    ·rw[if_neg hl]at e
     cases e
     exact SeqAt.RcAt.lists_lengths p1.isList p2.isList (by rw[e4,e5];simpa using hl) hu0
  |tup ys =>
   obtain⟨a',vs',rfl,sq',rs'⟩:=h'
   obtain rfl:u'=Value.ref a':=r'
   obtain⟨its',r2,p2,_⟩:=I.tuple (gE.of sq')
   cases e
   exact SeqAt.EqAt.list_tuple p1.isList p2 hu0
  |non=>cases h';cases r';cases e;exact SeqAt.EqAt.list_none p1.isList hu0
  |bl k=>cases h';cases r';cases e;exact SeqAt.EqAt.list_bool k p1.isList hu0
  |int k=>cases h';obtain⟨t,rfl⟩:=r';cases e;exact SeqAt.EqAt.list_int k t p1.isList hu0
  |str k=>cases h';obtain⟨t,rfl⟩:=r';cases e;exact SeqAt.EqAt.list_str k t p1.isList hu0
  |_=>cases e
 |.non,y,v,v',u,u',A,b,hu,h,h',r,r',e=>by
  have hu0:A.units<cLine:=Nat.lt_of_le_of_lt (Nat.le_add_right _ _) hu
  cases h
  cases r
  cases y with
  |non=>cases h';cases r';cases e;exact SeqAt.EqAt.same _
  |bl k=>cases h';cases r';cases e;exact SeqAt.EqAt.none_bool k
  |int k=>cases h';obtain⟨t,rfl⟩:=r';cases e;exact SeqAt.EqAt.none_int k t
  |str k=>cases h';obtain⟨t,rfl⟩:=r';cases e;exact SeqAt.EqAt.none_str k t
  |tup ys =>
   obtain⟨a',vs',rfl,sq',rs'⟩:=h'
   obtain rfl:u'=Value.ref a':=r'
   obtain⟨its',r2,p2,_⟩:=I.tuple (gE.of sq')
   cases e
   exact SeqAt.EqAt.none_tuple p2 hu0
  |lst ys =>
   obtain⟨a',vs',rfl,sq',rs'⟩:=h'
   obtain rfl:u'=Value.ref a':=r'
   obtain⟨its',r2,p2,_⟩:=I.list sq'.sq
   cases e
   exact SeqAt.EqAt.none_list p2.isList hu0
  |_=>cases e
 |.bl k0,y,v,v',u,u',A,b,hu,h,h',r,r',e=>by
  have hu0:A.units<cLine:=Nat.lt_of_le_of_lt (Nat.le_add_right _ _) hu
  cases h
  cases r
  cases y with
  |non=>cases h';cases r';cases e;exact SeqAt.EqAt.bool_none k0
  |bl k=>cases h';cases r';cases e;exact SeqAt.EqAt.bool_bool k0 k
  |int k=>cases h';obtain⟨t,rfl⟩:=r';cases e;exact SeqAt.EqAt.bool_int k0 k t
  |str k=>cases h';obtain⟨t,rfl⟩:=r';cases e;exact SeqAt.EqAt.bool_str k0 k t
  |tup ys =>
   obtain⟨a',vs',rfl,sq',rs'⟩:=h'
   obtain rfl:u'=Value.ref a':=r'
   obtain⟨its',r2,p2,_⟩:=I.tuple (gE.of sq')
   cases e
   exact SeqAt.EqAt.bool_tuple k0 p2 hu0
  |lst ys =>
   obtain⟨a',vs',rfl,sq',rs'⟩:=h'
   obtain rfl:u'=Value.ref a':=r'
   obtain⟨its',r2,p2,_⟩:=I.list sq'.sq
   cases e
   exact SeqAt.EqAt.bool_list k0 p2.isList hu0
  |_=>cases e
 |.int k0,y,v,v',u,u',A,b,hu,h,h',r,r',e=>by
  have hu0:A.units<cLine:=Nat.lt_of_le_of_lt (Nat.le_add_right _ _) hu
  cases h
  obtain⟨t0,rfl⟩:=r
  cases y with
  |non=>cases h';cases r';cases e;exact SeqAt.EqAt.int_none k0 t0
  |bl k=>cases h';cases r';cases e;exact SeqAt.EqAt.int_bool k0 t0 k
  |int k=>cases h';obtain⟨t,rfl⟩:=r';cases e;exact SeqAt.EqAt.int_int k0 t0 k t
  |str k=>cases h';obtain⟨t,rfl⟩:=r';cases e;exact SeqAt.EqAt.int_str k0 t0 k t
  |tup ys =>
   obtain⟨a',vs',rfl,sq',rs'⟩:=h'
   obtain rfl:u'=Value.ref a':=r'
   obtain⟨its',r2,p2,_⟩:=I.tuple (gE.of sq')
   cases e
   exact SeqAt.EqAt.int_tuple k0 t0 p2 hu0
  |lst ys =>
   obtain⟨a',vs',rfl,sq',rs'⟩:=h'
   obtain rfl:u'=Value.ref a':=r'
   obtain⟨its',r2,p2,_⟩:=I.list sq'.sq
   cases e
   exact SeqAt.EqAt.int_list k0 t0 p2.isList hu0
  |_=>cases e
 |.str k0,y,v,v',u,u',A,b,hu,h,h',r,r',e=>by
  have hu0:A.units<cLine:=Nat.lt_of_le_of_lt (Nat.le_add_right _ _) hu
  cases h
  obtain⟨t0,rfl⟩:=r
  cases y with
  |non=>cases h';cases r';cases e;exact SeqAt.EqAt.str_none k0 t0
  |bl k=>cases h';cases r';cases e;exact SeqAt.EqAt.str_bool k0 t0 k
  |int k=>cases h';obtain⟨t,rfl⟩:=r';cases e;exact SeqAt.EqAt.str_int k0 t0 k t
  |str k=>cases h';obtain⟨t,rfl⟩:=r';cases e;exact SeqAt.EqAt.str_str k0 t0 k t
  |tup ys =>
   obtain⟨a',vs',rfl,sq',rs'⟩:=h'
   obtain rfl:u'=Value.ref a':=r'
   obtain⟨its',r2,p2,_⟩:=I.tuple (gE.of sq')
   cases e
   exact SeqAt.EqAt.str_tuple k0 t0 p2 hu0
  |lst ys =>
   obtain⟨a',vs',rfl,sq',rs'⟩:=h'
   obtain rfl:u'=Value.ref a':=r'
   obtain⟨its',r2,p2,_⟩:=I.list sq'.sq
   cases e
   exact SeqAt.EqAt.str_list k0 t0 p2.isList hu0
  |_=>cases e
 |.obj k xs,y,v,v',u,u',A,b,hu,h,h',r,r',e=>by
  cases y <;> cases e
 |.dic k xs,y,v,v',u,u',A,b,hu,h,h',r,r',e=>by
  cases y <;> cases e
 |.dit k xs,y,v,v',u,u',A,b,hu,h,h',r,r',e=>by
  cases y <;> cases e
 |.clo k xs,y,v,v',u,u',A,b,hu,h,h',r,r',e=>by
  cases y <;> cases e
theorem py(I:aA X pins σ H s):∀{xs ys:List PV} {vs vs':List V} {us us':List Value} {A:Around} {j:Nat} {u u':Value} {b:Bool},A.units+aN xs<cLine->aD X.K G H A0 xs vs->aD X.K G H A0 ys vs'->aR vs us->aR vs' us'->gA xs ys=some b ->
  us[j]? =some u->us'[j]? =some u'->SeqAt.EqAt A s u u' (sk xs ys j)
 |[],ys,vs,vs',us,us',A,j,u,u',b,hu,h,h',r,r',e,q,q'=>by
  have h:vs=[]:=h
  subst h;cases r
  simp at q
 |x::xs,[],vs,vs',us,us',A,j,u,u',b,hu,h,h',r,r',e,q,q'=>by
  have h':vs'=[]:=h'
  subst h';cases r'
  simp at q'
 |x::xs,y::ys,vs,vs',us,us',A,j,u,u',b,hu,h,h',r,r',e,q,q'=>by
  obtain⟨v,t,rfl,h1,h2⟩:=h
  obtain⟨v',t',rfl,h1',h2'⟩:=h'
  obtain⟨a,c,e1,e2,rfl⟩:=iW e
  have hd:aN (x::xs)=max x.depth (aN xs):=by rw[aN]
  cases r with
  |cons rx rt =>
   cases r' with
   |cons rx' rt' =>
    cases j with
    |zero =>
     simp at q q'
     subst q;subst q'
     have:sk (x::xs) (y::ys) 0=a:=by show(pr x y).getD false=a;rw[e1];rfl
     rw[this]
     exact KJ I (by omega) h1 h1' rx rx' e1
    |succ j=>exact py I (j:=j) (by omega) h2 h2' rt rt' e2 (by simpa using q) (by simpa using q')
end
theorem KK(I:aA X pins σ H s):∀{x y:PV} {v v':V} {u u':Value} {A:Around} {b:Bool},A.units+x.depth<cLine->bK X.K G H A0 x v->bK X.K G H A0 y v'->aQ v u->aQ v' u'->pr x y=some b->SeqAt.RcAt A s u u' b:=by
 intro x y v v' u u' A b hu h h' r r' e
 have hu0:A.units<cLine:=Nat.lt_of_le_of_lt (Nat.le_add_right _ _) hu
 cases x with
 |tup xs =>
  obtain⟨a,vs,rfl,sq,rs⟩:=h.tup
  obtain rfl:u=Value.ref a:=r
  obtain⟨its,r1,p1,_⟩:=I.tuple sq
  cases y with
  |tup ys =>
   obtain⟨a',vs',rfl,sq',rs'⟩:=h'.tup
   obtain rfl:u'=Value.ref a':=r'
   obtain⟨its',r2,p2,_⟩:=I.tuple sq'
   rw[pw]at e
   have hd:(PV.tup xs).depth=aN xs+1:=by rw[PV.depth]
   have e4:its.toArray.size=xs.length:=by rw[List.size_toArray,<-r1.length,rs.len]
   have e5:its'.toArray.size=ys.length:=by rw[List.size_toArray,<-r2.length,rs'.len]
   have q:=SeqAt.RcAt.tuples (A:=A) (s:=s) (e:=sk xs ys) p1 p2 (by omega) fun j h1 h2=>by
     have h1':j<its.length:=by simpa using h1
     have h2':j<its'.length:=by simpa using h2
     have:=py I (A:=A.in1) (j:=j) (by show A.units+1+aN xs<cLine;omega) rs rs' r1 r2 e (List.getElem?_eq_getElem h1') (List.getElem?_eq_getElem h2')
     simpa using this
   rw[e4,e5,dQ e]at q
   exact q
  |lst ys =>
   obtain⟨a',vs',rfl,sq',rs'⟩:=h'.lst
   obtain rfl:u'=Value.ref a':=r'
   obtain⟨its',r2,p2,_⟩:=I.list sq'
   cases e
   exact SeqAt.RcAt.tuple_list p1 p2.isList hu0
  |non=>rw[h'.non]at r';cases r';cases e;exact SeqAt.RcAt.tuple_none p1 hu0
  |bl k=>rw[h'.bl]at r';cases r';cases e;exact SeqAt.RcAt.tuple_bool k p1 hu0
  |int k=>rw[h'.int]at r';obtain⟨t,rfl⟩:=r';cases e;exact SeqAt.RcAt.tuple_int k t p1 hu0
  |str k=>rw[h'.str]at r';obtain⟨t,rfl⟩:=r';cases e;exact SeqAt.RcAt.tuple_str k t p1 hu0
  |_=>cases e
 |lst xs =>
  obtain⟨a,vs,rfl,sq,rs⟩:=h.lst
  obtain rfl:u=Value.ref a:=r
  obtain⟨its,r1,p1,_⟩:=I.list sq
  cases y with
  |tup ys =>
   obtain⟨a',vs',rfl,sq',rs'⟩:=h'.tup
   obtain rfl:u'=Value.ref a':=r'
   obtain⟨its',r2,p2,_⟩:=I.tuple sq'
   cases e
   exact SeqAt.RcAt.list_tuple p1.isList p2 hu0
  |lst ys =>
   obtain⟨a',vs',rfl,sq',rs'⟩:=h'.lst
   obtain rfl:u'=Value.ref a':=r'
   obtain⟨its',r2,p2,_⟩:=I.list sq'
   rw[iV]at e
   have hd:(PV.lst xs).depth=aN xs+1:=by rw[PV.depth]
   have e4:its.toArray.size=xs.length:=by rw[List.size_toArray,<-r1.length,rs.len]
   have e5:its'.toArray.size=ys.length:=by rw[List.size_toArray,<-r2.length,rs'.len]
   by_cases hl:xs.length=ys.length
   ·rw[if_pos hl]at e
    have q:=SeqAt.RcAt.lists (A:=A) (s:=s) (e:=sk xs ys) p1.isList p2.isList (by rw[e4,e5,hl]) (by omega) fun j h1 h2=>by
      have h1':j<its.length:=by simpa using h1
      have h2':j<its'.length:=by simpa using h2
      have:=py I (A:=A.in1) (j:=j) (by show A.units+1+aN xs<cLine;omega) rs rs' r1 r2 e (List.getElem?_eq_getElem h1') (List.getElem?_eq_getElem h2')
      simpa using this
    have q2:=dQ e
    rw[hl,Nat.min_self,beq_self_eq_true,Bool.and_true]at q2
    rw[e4,hl,q2]at q
    exact q
   ·rw[if_neg hl]at e
    cases e
    exact SeqAt.RcAt.lists_lengths p1.isList p2.isList (by rw[e4,e5];simpa using hl) hu0
  |non=>rw[h'.non]at r';cases r';cases e;exact SeqAt.RcAt.list_none p1.isList hu0
  |bl k=>rw[h'.bl]at r';cases r';cases e;exact SeqAt.RcAt.list_bool k p1.isList hu0
  |int k=>rw[h'.int]at r';obtain⟨t,rfl⟩:=r';cases e;exact SeqAt.RcAt.list_int k t p1.isList hu0
  |str k=>rw[h'.str]at r';obtain⟨t,rfl⟩:=r';cases e;exact SeqAt.RcAt.list_str k t p1.isList hu0
  |_=>cases e
 |non =>
  rw[h.non]at r
  cases r
  cases y with
  |non=>rw[h'.non]at r';cases r';cases e;exact SeqAt.RcAt.none_none
  |bl k=>rw[h'.bl]at r';cases r';cases e;exact SeqAt.RcAt.none_bool k
  |int k=>rw[h'.int]at r';obtain⟨t,rfl⟩:=r';cases e;exact SeqAt.RcAt.none_int k t
  |str k=>rw[h'.str]at r';obtain⟨t,rfl⟩:=r';cases e;exact SeqAt.RcAt.none_str k t
  |tup ys =>
   obtain⟨a',vs',rfl,sq',rs'⟩:=h'.tup
   obtain rfl:u'=Value.ref a':=r'
   obtain⟨its',r2,p2,_⟩:=I.tuple sq'
   cases e
   exact SeqAt.RcAt.none_tuple p2 hu0
  |lst ys =>
   obtain⟨a',vs',rfl,sq',rs'⟩:=h'.lst
   obtain rfl:u'=Value.ref a':=r'
   obtain⟨its',r2,p2,_⟩:=I.list sq'
   cases e
   exact SeqAt.RcAt.none_list p2.isList hu0
  |_=>cases e
 |bl k0 =>
  rw[h.bl]at r
  cases r
  cases y with
  |non=>rw[h'.non]at r';cases r';cases e;exact SeqAt.RcAt.bool_none k0
  |bl k=>rw[h'.bl]at r';cases r';cases e;exact SeqAt.RcAt.bool_bool k0 k
  |int k=>rw[h'.int]at r';obtain⟨t,rfl⟩:=r';cases e;exact SeqAt.RcAt.bool_int k0 k t
  |str k=>rw[h'.str]at r';obtain⟨t,rfl⟩:=r';cases e;exact SeqAt.RcAt.bool_str k0 k t
  |tup ys =>
   obtain⟨a',vs',rfl,sq',rs'⟩:=h'.tup
   obtain rfl:u'=Value.ref a':=r'
   obtain⟨its',r2,p2,_⟩:=I.tuple sq'
   cases e
   exact SeqAt.RcAt.bool_tuple k0 p2 hu0
  |lst ys =>
   obtain⟨a',vs',rfl,sq',rs'⟩:=h'.lst
   obtain rfl:u'=Value.ref a':=r'
   obtain⟨its',r2,p2,_⟩:=I.list sq'
   cases e
   exact SeqAt.RcAt.bool_list k0 p2.isList hu0
  |_=>cases e
 |int k0 =>
  rw[h.int]at r
  obtain⟨t0,rfl⟩:=r
  cases y with
  |non=>rw[h'.non]at r';cases r';cases e;exact SeqAt.RcAt.int_none k0 t0
  |bl k=>rw[h'.bl]at r';cases r';cases e;exact SeqAt.RcAt.int_bool k0 t0 k
  |int k=>rw[h'.int]at r';obtain⟨t,rfl⟩:=r';cases e;exact SeqAt.RcAt.int_int k0 t0 k t
  |str k=>rw[h'.str]at r';obtain⟨t,rfl⟩:=r';cases e;exact SeqAt.RcAt.int_str k0 t0 k t
  |tup ys =>
   obtain⟨a',vs',rfl,sq',rs'⟩:=h'.tup
   obtain rfl:u'=Value.ref a':=r'
   obtain⟨its',r2,p2,_⟩:=I.tuple sq'
   cases e
   exact SeqAt.RcAt.int_tuple k0 t0 p2 hu0
  |lst ys =>
   obtain⟨a',vs',rfl,sq',rs'⟩:=h'.lst
   obtain rfl:u'=Value.ref a':=r'
   obtain⟨its',r2,p2,_⟩:=I.list sq'
   cases e
   exact SeqAt.RcAt.int_list k0 t0 p2.isList hu0
  |_=>cases e
 |str k0 =>
  rw[h.str]at r
  obtain⟨t0,rfl⟩:=r
  cases y with
  |non=>rw[h'.non]at r';cases r';cases e;exact SeqAt.RcAt.str_none k0 t0
  |bl k=>rw[h'.bl]at r';cases r';cases e;exact SeqAt.RcAt.str_bool k0 t0 k
  |int k=>rw[h'.int]at r';obtain⟨t,rfl⟩:=r';cases e;exact SeqAt.RcAt.str_int k0 t0 k t
  |str k=>rw[h'.str]at r';obtain⟨t,rfl⟩:=r';cases e;exact SeqAt.RcAt.str_str k0 t0 k t
  |tup ys =>
   obtain⟨a',vs',rfl,sq',rs'⟩:=h'.tup
   obtain rfl:u'=Value.ref a':=r'
   obtain⟨its',r2,p2,_⟩:=I.tuple sq'
   cases e
   exact SeqAt.RcAt.str_tuple k0 t0 p2 hu0
  |lst ys =>
   obtain⟨a',vs',rfl,sq',rs'⟩:=h'.lst
   obtain rfl:u'=Value.ref a':=r'
   obtain⟨its',r2,p2,_⟩:=I.list sq'
   cases e
   exact SeqAt.RcAt.str_list k0 t0 p2.isList hu0
  |_=>cases e
 |obj _ _=>cases y <;> cases e
 |dic _ _=>cases y <;> cases e
 |dit _ _=>cases y <;> cases e
 |clo _ _=>cases y <;> cases e
theorem KL(I:aA X pins σ H s):∀{x y:PV} {v v':V} {u u':Value} {A:Around} {b:Bool},A.units+x.depth<cLine->bK X.K G H A0 x v->bK X.K G H A0 y v'->aQ v u->aQ v' u'->pr x y=some b->SeqAt.RcNeAt A s u u' (!b):=by
 intro x y v v' u u' A b hu h h' r r' e
 have hu0:A.units<cLine:=Nat.lt_of_le_of_lt (Nat.le_add_right _ _) hu
 cases x with
 |tup xs =>
  obtain⟨a,vs,rfl,sq,rs⟩:=h.tup
  obtain rfl:u=Value.ref a:=r
  obtain⟨its,r1,p1,_⟩:=I.tuple sq
  cases y with
  |tup ys =>
   obtain⟨a',vs',rfl,sq',rs'⟩:=h'.tup
   obtain rfl:u'=Value.ref a':=r'
   obtain⟨its',r2,p2,_⟩:=I.tuple sq'
   rw[pw]at e
   have hd:(PV.tup xs).depth=aN xs+1:=by rw[PV.depth]
   have e4:its.toArray.size=xs.length:=by rw[List.size_toArray,<-r1.length,rs.len]
   have e5:its'.toArray.size=ys.length:=by rw[List.size_toArray,<-r2.length,rs'.len]
   have q:=SeqAt.RcNeAt.tuples (A:=A) (s:=s) (e:=sk xs ys) p1 p2 (by omega) fun j h1 h2=>by
     have h1':j<its.length:=by simpa using h1
     have h2':j<its'.length:=by simpa using h2
     have:=py I (A:=A.in1) (j:=j) (by show A.units+1+aN xs<cLine;omega) rs rs' r1 r2 e (List.getElem?_eq_getElem h1') (List.getElem?_eq_getElem h2')
     simpa using this
   rw[e4,e5,dQ e]at q
   exact q
  |lst ys =>
   obtain⟨a',vs',rfl,sq',rs'⟩:=h'.lst
   obtain rfl:u'=Value.ref a':=r'
   obtain⟨its',r2,p2,_⟩:=I.list sq'
   cases e
   exact SeqAt.RcNeAt.tuple_list p1 p2.isList hu0
  |non=>rw[h'.non]at r';cases r';cases e;exact SeqAt.RcNeAt.tuple_none p1 hu0
  |bl k=>rw[h'.bl]at r';cases r';cases e;exact SeqAt.RcNeAt.tuple_bool k p1 hu0
  |int k=>rw[h'.int]at r';obtain⟨t,rfl⟩:=r';cases e;exact SeqAt.RcNeAt.tuple_int k t p1 hu0
  |str k=>rw[h'.str]at r';obtain⟨t,rfl⟩:=r';cases e;exact SeqAt.RcNeAt.tuple_str k t p1 hu0
  |_=>cases e
 |lst xs =>
  obtain⟨a,vs,rfl,sq,rs⟩:=h.lst
  obtain rfl:u=Value.ref a:=r
  obtain⟨its,r1,p1,_⟩:=I.list sq
  cases y with
  |tup ys =>
   obtain⟨a',vs',rfl,sq',rs'⟩:=h'.tup
   obtain rfl:u'=Value.ref a':=r'
   obtain⟨its',r2,p2,_⟩:=I.tuple sq'
   cases e
   exact SeqAt.RcNeAt.list_tuple p1.isList p2 hu0
  |lst ys =>
   obtain⟨a',vs',rfl,sq',rs'⟩:=h'.lst
   obtain rfl:u'=Value.ref a':=r'
   obtain⟨its',r2,p2,_⟩:=I.list sq'
   rw[iV]at e
   have hd:(PV.lst xs).depth=aN xs+1:=by rw[PV.depth]
   have e4:its.toArray.size=xs.length:=by rw[List.size_toArray,<-r1.length,rs.len]
   have e5:its'.toArray.size=ys.length:=by rw[List.size_toArray,<-r2.length,rs'.len]
   by_cases hl:xs.length=ys.length
   ·rw[if_pos hl]at e
    have q:=SeqAt.RcNeAt.lists (A:=A) (s:=s) (e:=sk xs ys) p1.isList p2.isList (by rw[e4,e5,hl]) (by omega) fun j h1 h2=>by
      have h1':j<its.length:=by simpa using h1
      have h2':j<its'.length:=by simpa using h2
      have:=py I (A:=A.in1) (j:=j) (by show A.units+1+aN xs<cLine;omega) rs rs' r1 r2 e (List.getElem?_eq_getElem h1') (List.getElem?_eq_getElem h2')
      simpa using this
    have q2:=dQ e
    rw[hl,Nat.min_self,beq_self_eq_true,Bool.and_true]at q2
    rw[e4,hl,q2]at q
    exact q
   ·rw[if_neg hl]at e
    cases e
    exact SeqAt.RcNeAt.lists_lengths p1.isList p2.isList (by rw[e4,e5];simpa using hl) hu0
  |non=>rw[h'.non]at r';cases r';cases e;exact SeqAt.RcNeAt.list_none p1.isList hu0
  |bl k=>rw[h'.bl]at r';cases r';cases e;exact SeqAt.RcNeAt.list_bool k p1.isList hu0
  |int k=>rw[h'.int]at r';obtain⟨t,rfl⟩:=r';cases e;exact SeqAt.RcNeAt.list_int k t p1.isList hu0
  |str k=>rw[h'.str]at r';obtain⟨t,rfl⟩:=r';cases e;exact SeqAt.RcNeAt.list_str k t p1.isList hu0
  |_=>cases e
 |non =>
  rw[h.non]at r
  cases r
  cases y with
  |non=>rw[h'.non]at r';cases r';cases e;exact SeqAt.RcNeAt.none_none
  |bl k=>rw[h'.bl]at r';cases r';cases e;exact SeqAt.RcNeAt.none_bool k
  |int k=>rw[h'.int]at r';obtain⟨t,rfl⟩:=r';cases e;exact SeqAt.RcNeAt.none_int k t
  |str k=>rw[h'.str]at r';obtain⟨t,rfl⟩:=r';cases e;exact SeqAt.RcNeAt.none_str k t
  |tup ys =>
   obtain⟨a',vs',rfl,sq',rs'⟩:=h'.tup
   obtain rfl:u'=Value.ref a':=r'
   obtain⟨its',r2,p2,_⟩:=I.tuple sq'
   cases e
   exact SeqAt.RcNeAt.none_tuple p2 hu0
  |lst ys =>
   obtain⟨a',vs',rfl,sq',rs'⟩:=h'.lst
   obtain rfl:u'=Value.ref a':=r'
   obtain⟨its',r2,p2,_⟩:=I.list sq'
   cases e
   exact SeqAt.RcNeAt.none_list p2.isList hu0
  |_=>cases e
 |bl k0 =>
  rw[h.bl]at r
  cases r
  cases y with
  |non=>rw[h'.non]at r';cases r';cases e;exact SeqAt.RcNeAt.bool_none k0
  |bl k=>rw[h'.bl]at r';cases r';cases e;exact SeqAt.RcNeAt.bool_bool k0 k
  |int k=>rw[h'.int]at r';obtain⟨t,rfl⟩:=r';cases e;exact SeqAt.RcNeAt.bool_int k0 k t
  |str k=>rw[h'.str]at r';obtain⟨t,rfl⟩:=r';cases e;exact SeqAt.RcNeAt.bool_str k0 k t
  |tup ys =>
   obtain⟨a',vs',rfl,sq',rs'⟩:=h'.tup
   obtain rfl:u'=Value.ref a':=r'
   obtain⟨its',r2,p2,_⟩:=I.tuple sq'
   cases e
   exact SeqAt.RcNeAt.bool_tuple k0 p2 hu0
  |lst ys =>
   obtain⟨a',vs',rfl,sq',rs'⟩:=h'.lst
   obtain rfl:u'=Value.ref a':=r'
   obtain⟨its',r2,p2,_⟩:=I.list sq'
   cases e
   exact SeqAt.RcNeAt.bool_list k0 p2.isList hu0
  |_=>cases e
 |int k0 =>
  rw[h.int]at r
  obtain⟨t0,rfl⟩:=r
  cases y with
  |non=>rw[h'.non]at r';cases r';cases e;exact SeqAt.RcNeAt.int_none k0 t0
  |bl k=>rw[h'.bl]at r';cases r';cases e;exact SeqAt.RcNeAt.int_bool k0 t0 k
  |int k=>rw[h'.int]at r';obtain⟨t,rfl⟩:=r';cases e;exact SeqAt.RcNeAt.int_int k0 t0 k t
  |str k=>rw[h'.str]at r';obtain⟨t,rfl⟩:=r';cases e;exact SeqAt.RcNeAt.int_str k0 t0 k t
  |tup ys =>
   obtain⟨a',vs',rfl,sq',rs'⟩:=h'.tup
   obtain rfl:u'=Value.ref a':=r'
   obtain⟨its',r2,p2,_⟩:=I.tuple sq'
   cases e
   exact SeqAt.RcNeAt.int_tuple k0 t0 p2 hu0
  |lst ys =>
   obtain⟨a',vs',rfl,sq',rs'⟩:=h'.lst
   obtain rfl:u'=Value.ref a':=r'
   obtain⟨its',r2,p2,_⟩:=I.list sq'
   cases e
   exact SeqAt.RcNeAt.int_list k0 t0 p2.isList hu0
  |_=>cases e
 |str k0 =>
  rw[h.str]at r
  obtain⟨t0,rfl⟩:=r
  cases y with
  |non=>rw[h'.non]at r';cases r';cases e;exact SeqAt.RcNeAt.str_none k0 t0
  |bl k=>rw[h'.bl]at r';cases r';cases e;exact SeqAt.RcNeAt.str_bool k0 t0 k
  |int k=>rw[h'.int]at r';obtain⟨t,rfl⟩:=r';cases e;exact SeqAt.RcNeAt.str_int k0 t0 k t
  |str k=>rw[h'.str]at r';obtain⟨t,rfl⟩:=r';cases e;exact SeqAt.RcNeAt.str_str k0 t0 k t
  |tup ys =>
   obtain⟨a',vs',rfl,sq',rs'⟩:=h'.tup
   obtain rfl:u'=Value.ref a':=r'
   obtain⟨its',r2,p2,_⟩:=I.tuple sq'
   cases e
   exact SeqAt.RcNeAt.str_tuple k0 t0 p2 hu0
  |lst ys =>
   obtain⟨a',vs',rfl,sq',rs'⟩:=h'.lst
   obtain rfl:u'=Value.ref a':=r'
   obtain⟨its',r2,p2,_⟩:=I.list sq'
   cases e
   exact SeqAt.RcNeAt.str_list k0 t0 p2.isList hu0
  |_=>cases e
 |obj _ _=>cases y <;> cases e
 |dic _ _=>cases y <;> cases e
 |dit _ _=>cases y <;> cases e
 |clo _ _=>cases y <;> cases e
noncomputable def cB(x y:PV):Rx PV:=if x.depth<100 then(match pr x y with|some b=> .ok (.bl b)|none=> .bad) else .bad
noncomputable def fJ(x y:PV):Rx PV:=if x.depth<100 then(match pr x y with|some b=> .ok (.bl (!b))|none=> .bad) else .bad
def yq(K:Fg)(G:Pg)(neg:Bool):R2:=fun v u H Q=>∃A x y b,x.depth<100/\bK K G H A x v/\bK K G H A y u/\pr x y=some b/\Q (.bl (if neg then !b else b)) H
theorem uV(hu:X.A.units+100<cLine):fQ X (compareOp .Eq) (yq X.K G false):=by
 intro pins s σ H v u v' u' Q I rx ry h
 obtain⟨A,x,y,b,hd,h1,h2,e,q⟩:=h
 exact KK I (by omega) h1 h2 rx ry e X.prog X.w _ _ ⟨.bl b,H,I,rfl,q⟩
theorem uW(hu:X.A.units+100<cLine):fQ X (compareOp .NotEq) (yq X.K G true):=by
 intro pins s σ H v u v' u' Q I rx ry h
 obtain⟨A,x,y,b,hd,h1,h2,e,q⟩:=h
 exact KL I (by omega) h1 h2 rx ry e X.prog X.w _ _ ⟨.bl (!b),H,I,rfl,q⟩
theorem zA{K:Fg}:nz K G cB (yq K G false):=by
 intro H A x y w v u Q hu e r1 r2 q
 unfold cB at e
 split at e
 ·rename_i hd
  split at e
  ·rename_i b hb;cases e;exact⟨A,x,y,b,hd,r1,r2,hb,q _ H (Same.refl H) rfl⟩
  ·cases e
 ·cases e
theorem zB{K:Fg}:nz K G fJ (yq K G true):=by
 intro H A x y w v u Q hu e r1 r2 q
 unfold fJ at e
 split at e
 ·rename_i hd
  split at e
  ·rename_i b hb;cases e;exact⟨A,x,y,b,hd,r1,r2,hb,q _ H (Same.refl H) rfl⟩
  ·cases e
 ·cases e
noncomputable section
variable{e a b:Expr}{da db:DP}{pos:Pos}
theorem qr{A:Around}{k:Nat}(hr:br k A):A.units+100<cLine:=by have:=hr.un;omega
theorem sr{k:Nat}(hr:br k X.A)(ha:JB X G a da)(hb:JB X G b db):JP X G (.Compare a [.Eq] [b] pos) (d2 cB da db):=uL (uV (qr hr)) zA ha hb (fT _)
theorem Ht{k:Nat}(hr:br k X.A)(ha:JB X G a da)(hb:JB X G b db):JP X G (.Compare a [.NotEq] [b] pos) (d2 fJ da db):=uL (uW (qr hr)) zB ha hb (fT _)
theorem t_eq{k:Nat}(hr:br k X.A)(ha:JB X G a da)(hb:JB X G b db):JT X G (.Compare a [.Eq] [b] pos) (aS (d2 cB da db)):=jN (uV (qr hr)) zA ha hb (fT _)
theorem my{k:Nat}(hr:br k X.A)(ha:JB X G a da)(hb:JB X G b db):JT X G (.Compare a [.NotEq] [b] pos) (aS (d2 fJ da db)):=jN (uW (qr hr)) zB ha hb (fT _)
noncomputable def jU:PV->V
 |.non=> .non | .bl b=> .bl b | .int i=> .int i | .str x=> .str x|_=> .ref 0
noncomputable def cK(neg:Bool)(x y:PV):Rx PV:=match (match y with | .lst ys=>some ys | .tup ys=>some ys|_=>none) with
 |some ys=>if sj x=true/\ys.all sj=true then .ok (.bl (if neg then !(ys.any fun y=>kT (jU y) (jU x)) else(ys.any fun y=>kT (jU y) (jU x)))) else .bad
 |none=> .bad
theorem iu{K:Fg}{H:Hp}{A:Av}{x:PV}{v:V}(r:bK K G H A x v)(f:sj x=true):v=jU x/\dY v=true:=by
 cases x <;> first|(rw[r.non];exact⟨rfl,rfl⟩)|(rw[r.bl];exact⟨rfl,rfl⟩)|(rw[r.int];exact⟨rfl,rfl⟩)|(rw[r.str];exact⟨rfl,rfl⟩)|cases f
theorem gr{K:Fg}{H:Hp}{A:Av}:∀{xs:List PV} {vs:List V},aD K G H A xs vs->xs.all sj=true->vs=xs.map jU/\vs.all dY=true
 |[],vs,h,_=>by have h:vs=[]:=h;subst h;exact⟨rfl,rfl⟩
 |x::xs,vs,h,f=>by
  obtain⟨v,r,rfl,h1,h2⟩:=h
  rw[List.all_cons,Bool.and_eq_true]at f
  obtain⟨e1,f1⟩:=iu (.inl h1) f.1
  obtain⟨e2,f2⟩:=gr h2 f.2
  exact⟨by rw[e1,e2];rfl,by rw[List.all_cons,f1,f2];rfl⟩
theorem zC{K:Fg}{neg:Bool}:nz K G (cK neg) (DL K neg):=by
 intro H A x y w v u Q hu e r1 r2 q
 unfold cK at e
 split at e
 ·rename_i ys hy
  split at e
  ·rename_i hf
   cases e
   obtain⟨e1,f1⟩:=iu r1 hf.1
   have fin:∀vs,aD K G H A ys vs->vs.all dY=true/\CG v vs=(ys.any fun y=>kT (jU y) (jU x)):=fun vs rs=>by
    obtain⟨e2,f2⟩:=gr rs hf.2
    refine⟨f2,?_⟩
    unfold CG
    rw[e2,e1,List.any_map];rfl
   cases y with
   |lst zs =>
    cases hy
    obtain⟨a,vs,rfl,sq,rs⟩:=r2.lst
    obtain⟨f2,e3⟩:=fin vs rs
    refine⟨a,vs,rfl,.inl sq,f1,f2,?_⟩
    rw[e3]
    exact q _ H (Same.refl H) rfl
   |tup zs =>
    cases hy
    obtain⟨a,vs,rfl,sq,rs⟩:=r2.tup
    obtain⟨f2,e3⟩:=fin vs rs
    refine⟨a,vs,rfl,.inr sq,f1,f2,?_⟩
    rw[e3]
    exact q _ H (Same.refl H) rfl
   |_=>cases hy
  ·cases e
 ·cases e
theorem B6{K:Fg}{neg:Bool}{H:Hp}{A:Av}{x w:PV}{ys:List PV}{v:V}{vs:List V}{t:Addr}{Q:VK}(e:cK neg x (.tup ys)= .ok w)(r1:bK K G H A x v)(T:jm K t vs)(rs:aD K G H A ys vs)(q:∀z,cU K G H A w z->Q z H):DL K neg v (.ref t) H Q:=by
 have e:(if sj x=true/\ys.all sj=true then Rx.ok (PV.bl (if neg then !(ys.any fun y=>kT (jU y) (jU x)) else(ys.any fun y=>kT (jU y) (jU x)))) else .bad)= .ok w:=e
 split at e
 ·rename_i hf
  cases e
  obtain⟨e1,f1⟩:=iu r1 hf.1
  obtain⟨e2,f2⟩:=gr rs hf.2
  refine⟨t,vs,rfl,.inr (T.sq H),f1,f2,?_⟩
  have:CG v vs=(ys.any fun y=>kT (jU y) (jU x)):=by
   unfold CG
   rw[e2,e1,List.any_map];rfl
  rw[this]
  exact q _ rfl
 ·cases e
theorem yr{x:Str}{t:Addr}{ws:List PV}{vs:List V}{op:CmpOp}{neg:Bool}{np:Pos}(ho:fQ X (compareOp op) (DL X.K neg))(ha:JB X G a da)(T:jm X.K t vs)(hg:Gl X x)(hm:X.mg x=some (.ref t))(hr:∀H A,aD X.K G H A ws vs)(hb:behindInMarks op (.Name x np)=false)(hd:(x == .(L))=false:=by decide) :
  JT X G (.Compare a [op] [.Name x np] pos) (aS (d2 (cK neg) da (dC (.tup ws)))):=ph (qe ho ha (cE hg hm hd) hb) fun σ H Q ⟨c,ow,ps,b,R,e,q⟩=>by
 obtain⟨w,e0,e2⟩:=ai e
 obtain⟨x,e1,e⟩:=ai e0
 refine⟨c,ow,ps,x,R,e1,fun v H1 s1 r1=> ?_⟩
 have:=B6 (Q:=fun z H'=>∃b',z= .bl b'/\Q b' H') e r1 T (hr H1 _) fun z r=>by
  cases w <;> first|(cases e2;exact⟨_,r,q H1 s1⟩)|cases e2
 exact this
theorem Hu(ha:JB X G a da)(hb:JB X G b db)(hm:behindInMarks .In b=false):JT X G (.Compare a [.In] [b] pos) (aS (d2 (cK false) da db)):=jN rN zC ha hb hm
theorem mB(ha:JB X G a da)(hb:JB X G b db)(hm:behindInMarks .NotIn b=false):JT X G (.Compare a [.NotIn] [b] pos) (aS (d2 (cK true) da db)):=jN i9 zC ha hb hm
end
end
end DN
end
noncomputable section
namespace DN
open PySem PySem.Spec PyProof.Rows L2
noncomputable section
variable{P:Program}{w:World}{K:Fg}{mg:Str->Option Value}{base:Bs}{G:Pg}{n:Nat}{m f:Str}{ms:List Bool}
theorem cn{α :Type}{c c':Nat}{x y: α}{l:List (Nat×α)}(h:List.lookup c' ((c,x)::l)=some y):(c'=c/\y=x)\/l.lookup c'=some y:=by
 rw[List.lookup_cons]at h
 by_cases e:c'=c
 ·subst e
  simp at h
  exact .inl ⟨rfl,h.symm⟩
 ·have:(c' == c)=false:=by simpa using e
  rw[this]at h
  exact .inr h
theorem bZ{g:Nat->List PV->Rx PV}:gT P w K mg base G n m ms [] g:=⟨fun c f h=>by simp at h⟩
theorem aw{g:Nat->List PV->Rx PV}{c fi:Nat}{l:List (Nat×Nat)}(h:me P w K mg base fS n (G.cA c) m (tX K G (false::ms) (g fi)))(hm:m∉G.fN c)(r:gT P w K mg base G n m ms l g):gT P w K mg base G n m ms ((c,fi)::l) g :=
 ⟨fun c' f' e=>by
  rcases cn e with⟨rfl,rfl⟩|e
  ·exact⟨h,hm⟩
  ·exact r.all c' f' e⟩
theorem bB:bH K G f []:=⟨fun c j h=>by simp at h⟩
theorem yt{c j:Nat}{l:List (Nat×Nat)}(h1:kO K (G.cA c))(h2:bj K (G.cA c) f)(h3:(G.fN c).Nodup)(h4:(G.fN c)[j]? =some f)(r:bH K G f l):bH K G f ((c,j)::l) :=
 ⟨fun c' f' e=>by
  rcases cn e with⟨rfl,rfl⟩|e
  ·exact⟨h1,h2,h3,h4⟩
  ·exact r.all c' f' e⟩
theorem B7{cv:Value}:dO K G cv []:=⟨fun c j h=>by simp at h,fun c j h=>by simp at h,fun b h=>by simp at h⟩
theorem yu{cv:Value}{q:Nat}{b:Bool}{l:List (Nat×Bool)}(h1:PySem.W.kitOne K (pk G q) cv=some b)(h2:q<9)(r:dO K G cv l):dO K G cv ((q,b)::l) :=
 ⟨fun c' f' e=>by
  rcases cn e with⟨rfl,rfl⟩|e
  ·exact h1
  ·exact r.kit c' f' e,fun c' f' e=>by
  rcases cn e with⟨z,rfl⟩|e
  ·omega
  ·exact r.cls c' f' e,fun b e=>by
  rcases cn e with⟨z,rfl⟩|e
  ·omega
  ·exact r.n9 b e⟩
theorem uX{cv:Value}{c:Nat}{b:Bool}{l:List (Nat×Bool)}(h1:PySem.W.kitOne K (.ref (G.cA c)) cv=some b)(h2:og K (G.cA c))(r:dO K G cv l):dO K G cv ((c+10,b)::l) :=
 ⟨fun c' f' e=>by
  rcases cn e with⟨rfl,rfl⟩|e
  ·exact h1
  ·exact r.kit c' f' e,fun c' f' e=>by
  rcases cn e with⟨z,rfl⟩|e
  ·have:c'=c:=by omega
   subst this;exact h2
  ·exact r.cls c' f' e,fun b e=>by
  rcases cn e with⟨z,rfl⟩|e
  ·omega
  ·exact r.n9 b e⟩
theorem ci{C:Addr}(h:bu K C):og K C:=fun H a dx fs e=>h.ty e
theorem dR{a:Addr}:∀u,aQ (V.ref a) u->u=Value.ref a:=fun _ h=>h
theorem yx{n:String}:∀u,aQ (V.ty n) u->u=Value.type n:=fun _ h=>h
theorem ak{f:Addr}{fd:FuncData}{ps:List Str}{g:List PV->Rx PV}(h:∀ws,g ws= .bad):cN P w K mg base fS n f fd ps (tX K G ms g):=qk fun vs H Q E ⟨A,ws,w,u,r,e,q⟩=>by rw[h]at e;cases e
end
theorem gk_set{i:Nat}:∀(w:PV) (ps ps':aT),ar i w ps= .ok ps'->∀(j:Nat) (x:Ow),ps'[j]? =some (Sl.own x)->ps[j]? =some (Sl.own x):=by
 intro w ps ps' e j x h
 cases e
 by_cases hj:j=i
 ·subst hj
  have hl:j<ps.length:=by
   have:=(List.getElem?_eq_some_iff.mp h).1
   simpa using this
  rw[List.getElem?_set_self hl]at h
  cases h
 ·rw[List.getElem?_set_ne (fun z=>hj z.symm)]at h
  exact h
theorem Hv{K:Fg}{G:Pg}{H:Hp}{a:Addr}{ns:List Int}{g:List PV->Rx PV}(hO:ut H)(hS:eE K H a (ns.map V.int))(hg:g [.lst .(I)]= .ok (.bl true)):tX K G [false] g [.ref a] H (fun v _=>v= .bl true) fun _ _ _=>False:=by
 refine⟨fun _=>False,[.lst .(I)],.bl true,fun a z=>z.elim,⟨_,_,_,_,rfl,rfl,?_,rfl,rfl⟩,hg,fun v H' s r=>r⟩
 rw[if_neg Bool.false_ne_true]
 refine⟨a,_,rfl,?_,aD.ints ns⟩
 rcases hS with(h|⟨o,h⟩)|h
 ·exact .inl ⟨h,fun z=>z⟩
 ·exact .inr (.inl ⟨o,h⟩)
 ·exact .inr (.inr h)
end DN
end
noncomputable section
namespace DN
open PySem PySem.Spec PyProof.Rows L2
noncomputable section
variable{X:Cx}{G:Pg}{e a b o tg:Expr}{es:List Expr}{da db:DP}{d:DA}{pos p apos cpos:Pos}{x m:Str}{k i:Nat}
noncomputable def Gg:List PV->PV->Nat->Option Nat
 |[],_,_=>none
 |y::ys,x,n=>if kT (jU y) (jU x)=true then some n else Gg ys x (n+1)
theorem uY:∀{ys:List PV} {x:PV} {n j:Nat},Gg ys x n=some j->n<=j/\(∃y,ys[j-n]? =some y/\kT (jU y) (jU x)=true)/\ ∀i y,i<j-n->ys[i]? =some y->kT (jU y) (jU x)=false
 |[],x,n,j,h=>by cases h
 |y::ys,x,n,j,h=>by
  unfold Gg at h
  split at h
  ·rename_i he
   cases h
   refine⟨Nat.le_refl _,⟨y,by simp,he⟩,fun i z hi=>absurd hi (by omega)⟩
  ·rename_i he
   obtain⟨h1,⟨z,h2,h3⟩,h4⟩:=uY h
   have hj:j-n=(j-(n+1))+1:=by omega
   refine⟨by omega,⟨z,by rw[hj];simpa using h2,h3⟩,fun i w hi e=> ?_⟩
   cases i with
   |zero=>simp at e;subst e;simpa using he
   |succ i=>exact h4 i w (by omega) (by simpa using e)
noncomputable def uZ(ws:List PV)(d:DP):DP:=fun ps=>(d ps).bind fun x=>if sj x=true then(match Gg ws x 0 with|some j=> .ok (.int j)|none=> .bad) else .bad
theorem yz{x:Str}{t:Addr}{ws:List PV}{vs:List V}{pos':Pos}(T:jm X.K t vs)(hg:Gl X x)(hm:X.mg x=some (.ref t))(hr:∀H A,aD X.K G H A ws vs)(hf:ws.all sj=true)(he:JP X G e da)(hd:(x == .(L))=false:=by decide)
  (hbase:attributeBase (.Name x pos') "index" X.env (eval (.Name x pos') X.env)=eval (.Name x pos') X.env:=by rfl)
  (hfew:.(K)=true:=by rfl)
  (hline:(apos.endLine == cpos.line)=true:=by rfl) (hst:starEach [e] X.env=.(U)::starEach [] X.env:=by rfl) (hpl:(backTo cpos (starEach ([]:List Expr) X.env)).any (·.1)=false:=by rfl) :
  JP X G (.Call (.Attribute (.Name x pos') "index" apos) [e] [] cpos) (uZ ws da) :=
 imp (qf PySem.F.plainAttrs_tuple PySem.F.slot_tuple_index PySem.F.type_tuple_index rZ (cE hg hm hd) (dg he fU hst) hbase hfew hline hst hpl) fun σ H Q ⟨c,ow,ps,w,R,e,q⟩=>by
  obtain⟨y,e1,e2⟩:=ai e
  split at e2
  ·rename_i hy
   split at e2
   ·rename_i j hj
    cases e2
    refine⟨T.ty H,c,ow,ps,y,R,e1,fun v H' s r=> ?_⟩
    obtain⟨ev,fv⟩:=iu (G:=G) (.inl r) hy
    obtain⟨evs,fvs⟩:=gr (hr H' (av c ow)) hf
    obtain⟨_,⟨z,h2,h3⟩,h4⟩:=uY hj
    rw[Nat.sub_zero]at h2 h4
    refine⟨t,vs,v,j,jU z,rfl,rfl,T.sq H',fv,fvs,by rw[evs,List.getElem?_map,h2];rfl,by rw[ev];exact h3,fun i u hi hu=> ?_,q _ H' s rfl⟩
    rw[evs,List.getElem?_map]at hu
    cases q:ws[i]? with
    |none=>rw[q]at hu;cases hu
    |some y'=>rw[q]at hu;cases hu;rw[ev];exact h4 i y' hi q
   ·cases e2
  ·cases e2
end
def KM(K:Fg)(fN:Nat->List Str)(nF:Nat->jw)(g:List PV->Rx PV):Sp:=fun vs H Q E=>∀cA,tX K ⟨cA,fN,nF⟩ [false] g vs H Q E
theorem Hw{P:Program}{w:World}{K:Fg}{mg:Str->Option Value}{k:Nat}{fa:Addr}{x:Str}{fN:Nat->List Str}{nF:Nat->jw}{g:List PV->Rx PV}{ts:List Addr}
  (h:∃(cA:Nat->Addr) (fd:FuncData),(∀(s:Shared) (v:Value),BindsTo s fd ⟨[v],[]⟩ [(x,v)])/\ ∀base:Bs,K.In base->base.Ns mainGlobals mg->base.tabs=ts->cN P w K mg base fS k fa fd [x] (tX K ⟨cA,fN,nF⟩ [false] g)) :
  ∃fd:FuncData,(∀(s:Shared) (v:Value),BindsTo s fd ⟨[v],[]⟩ [(x,v)])/\ ∀base:Bs,K.In base->base.Ns mainGlobals mg->base.tabs=ts->cN P w K mg base fS k fa fd [x] (KM K fN nF g):=by
 obtain⟨cA,fd,h1,h2⟩:=h
 exact⟨fd,h1,fun base k1 k2 k3=>(h2 base k1 k2 k3).imp fun vs H Q E q=>q cA⟩
end DN
end
noncomputable section
namespace DN
open PySem L2
noncomputable def fin:Rs->Rx PV
 |.ret w=> .ok w
 |.retn xs=> .ok (.lst xs)
 |.nx _=> .ok .non
 |.exc c=> .exc c
 |_=> .bad
theorem yA(ms:List Bool)(n:Nat)(d:DS)(ws:List PV):aH ms n d ws=if ws.length=ms.length then fin (d (ol ms n ws)) else .bad:=by
 unfold aH fin
 split
 ·cases d (ol ms n ws) <;> rfl
 ·rfl
theorem aC{ms:List Bool}{n:Nat}{d:DS}{ws:List PV}(h:ws.length=ms.length):aH ms n d ws=fin (d (ol ms n ws)):=by rw[yA,if_pos h]
@[simp]theorem gt(w:PV):fin (.ret w)= .ok w:=rfl
@[simp]theorem Er(xs:List PV):fin (.retn xs)= .ok (.lst xs):=rfl
def Es:Rs->Rx PV
 |.retn xs=> .ok (.lst xs)
 |.exc c=> .exc c
 |_=> .bad
@[simp]theorem CL(xs:List PV):Es (.retn xs)= .ok (.lst xs):=rfl
@[simp]theorem Et(c:Nat):Es (.exc c)= .exc c:=rfl
@[simp]theorem Hx(ps:aT):fin (.nx ps)= .ok .non:=rfl
@[simp]theorem Gh(c:Nat):fin (.exc c)= .exc c:=rfl
noncomputable def kI(l:List (Nat×Bool))(q:Nat):Rx PV:=match l.lookup q with|some b=> .ok (.bl b)|none=> .bad
def om(l:List (Nat×Bool))(x:PV):Rx PV:=kI l (kd x)
@[simp]theorem Eu(l:List (Nat×Bool)):om l .non=kI l 0:=rfl
@[simp]theorem Gi(l:List (Nat×Bool))(b:Bool):om l (.bl b)=kI l 1:=rfl
@[simp]theorem Ev(l:List (Nat×Bool))(b:Int):om l (.int b)=kI l 2:=rfl
@[simp]theorem Ew(l:List (Nat×Bool))(b:Str):om l (.str b)=kI l 3:=rfl
@[simp]theorem Ex(l:List (Nat×Bool))(b:List PV):om l (.tup b)=kI l 4:=rfl
@[simp]theorem Ey(l:List (Nat×Bool))(b:List PV):om l (.lst b)=kI l 5:=rfl
@[simp]theorem Ez(l:List (Nat×Bool))(k:Nat)(b:List PV):om l (.obj k b)=kI l (k+10):=rfl
def Rs.next(x:Rs)(r:DS):Rs:=match x with | .nx ps'=>r ps'|y=>y
noncomputable def yB(x:Rx Bool)(s r:DS)(ps:aT):Rs:=x.st fun b=>if b=true then s ps else r ps
def B8(x:Rx Bool)(u:DT)(ps:aT):Rx Bool:=x.bind fun b=>if b=true then u ps else .ok false
def Hy(x:Rx Bool)(u:DT)(ps:aT):Rx Bool:=x.bind fun b=>if b=true then .ok true else u ps
def v4(x:Rx PV)(b:DP)(ps:aT):Rx PV:=x.bind fun y=>match y with | .bl true=>b ps | .bl false=> .ok (.bl false)|_=> .bad
def B9(x:Rx PV)(b:DP)(ps:aT):Rx PV:=x.bind fun y=>match y with | .bl true=> .ok (.bl true) | .bl false=>b ps|_=> .bad
noncomputable def Ba(x:Rx Bool)(a b:DP)(ps:aT):Rx PV:=x.bind fun y=>if y=true then a ps else b ps
noncomputable def zD(x y:Rx PV)(f:PV->PV->Rx PV):Rx PV:=x.bind fun u=>y.bind fun v=>f u v
noncomputable def zE(x:Rx PV)(xs:Rx (List PV)):Rx (List PV):=x.bind fun u=>xs.bind fun us=> .ok (u::us)
noncomputable section
variable(ps:aT)(i:Nat)(a b:DP)(d:DA)(t u:DT)(s r:DS)(f:PV->PV->Rx PV)
@[simp]theorem aj:(Rs.nx ps).next r=r ps:=rfl
@[simp]theorem EA(w:PV):(Rs.ret w).next r= .ret w:=rfl
@[simp]theorem CM(xs:List PV):(Rs.retn xs).next r= .retn xs:=rfl
@[simp]theorem CN(w:PV)(x:Ow):(Rs.reti w x).next r= .reti w x:=rfl
@[simp]theorem EB:(Rs.brk ps).next r= .brk ps:=rfl
@[simp]theorem EC:(Rs.cnt ps).next r= .cnt ps:=rfl
@[simp]theorem ED(c:Nat):(Rs.exc c).next r= .exc c:=rfl
@[simp]theorem on:yB (.ok true) s r ps=s ps:=rfl
@[simp]theorem eV:yB (.ok false) s r ps=r ps:=rfl
@[simp]theorem JR(c:Nat):yB (.exc c) s r ps= .exc c:=rfl
@[simp]theorem Hz:B8 (.ok true) t ps=t ps:=rfl
@[simp]theorem HA:B8 (.ok false) t ps= .ok false:=rfl
@[simp]theorem JU:Hy (.ok true) t ps= .ok true:=rfl
@[simp]theorem JV:Hy (.ok false) t ps=t ps:=rfl
@[simp]theorem Gj:v4 (.ok (.bl true)) b ps=b ps:=rfl
@[simp]theorem Gk:v4 (.ok (.bl false)) b ps= .ok (.bl false):=rfl
@[simp]theorem HB:B9 (.ok (.bl true)) b ps= .ok (.bl true):=rfl
@[simp]theorem HC:B9 (.ok (.bl false)) b ps=b ps:=rfl
@[simp]theorem HD:Ba (.ok true) a b ps=a ps:=rfl
@[simp]theorem HE:Ba (.ok false) a b ps=b ps:=rfl
@[simp]theorem dq(x y:PV):zD (.ok x) (.ok y) f=f x y:=rfl
@[simp]theorem bO(x:PV)(xs:List PV):zE (.ok x) (.ok xs)= .ok (x::xs):=rfl
@[simp]theorem qt:ae i ps=match ps[i]? with|some (.v w)=> .ok w|_=> .bad:=rfl
@[simp]theorem jV:dSee i ps=match ps[i]? with|some (.v w)=> .ok w|some (.own x)=> .ok x.pv|some (.bor w)=> .ok w|_=> .bad:=rfl
@[simp]theorem zF(w:PV):dC w ps= .ok w:=rfl
@[simp]theorem v5:d2 f a b ps=zD (a ps) (b ps) f:=rfl
@[simp]theorem v6:aS a ps=(a ps).bind fun x=>match x with | .bl b=> .ok b|_=> .bad:=rfl
@[simp]theorem HF:fY t u ps=B8 (t ps) u ps:=rfl
@[simp]theorem v7:jp t u ps=Hy (t ps) u ps:=rfl
@[simp]theorem Bb:fG t ps=(t ps).bind fun x=> .ok (!x):=rfl
@[simp]theorem HG:io a b ps=v4 (a ps) b ps:=rfl
@[simp]theorem JX:uQ a b ps=B9 (a ps) b ps:=rfl
@[simp]theorem HH:jP a ps=(a ps).bind fun x=>match x with | .bl k=> .ok (.bl (!k))|_=> .bad:=rfl
@[simp]theorem JY:gz a ps=(a ps).bind fun x=>match x with | .int i=> .ok (.int (-i))|_=> .bad:=rfl
@[simp]theorem JZ:pj t a b ps=Ba (t ps) a b ps:=rfl
@[simp]theorem K0:Hl a ps=(a ps).bind fun x=> .ok (.bl (Ee x)):=rfl
@[simp]theorem HI:gK a ps=(a ps).bind fun x=> .ok (.bl (!Ee x)):=rfl
@[simp]theorem eW:dNil ps= .ok []:=rfl
@[simp]theorem cb:dCons a d ps=zE (a ps) (d ps):=rfl
@[simp]theorem K1:bW d ps=(d ps).bind fun ws=> .ok (.tup ws):=rfl
@[simp]theorem dA:dOfN d ps=(d ps).bind fun ws=> .ok (.lst ws):=rfl
@[simp]theorem cL(g:List PV->Rx PV):dCall g d ps=(d ps).bind g:=rfl
@[simp]theorem Gm(g:List PV->Rx (List PV)):fZ g d ps=(d ps).bind g:=rfl
@[simp]theorem K2(c:Nat):dP c d ps=(d ps).bind fun ws=> .ok (.obj c ws):=rfl
@[simp]theorem qu:aI a ps=(a ps).bind fun x=>match x with | .lst xs=> .ok xs|_=> .bad:=rfl
@[simp]theorem EE:ft a ps=(a ps).bind fun x=>match x with | .tup xs=> .ok xs|_=> .bad:=rfl
@[simp]theorem K3(l:List (Nat×Bool)):gQ l a ps=(a ps).bind (om l):=rfl
@[simp]theorem K4(dl dh:aT->Rx (Option Int)):cJ a dl dh ps=(a ps).bind fun x=>(dl ps).bind fun lo=>(dh ps).bind fun hi=>match x with | .lst xs=> .ok (kG xs lo hi)|_=> .bad:=rfl
@[simp]theorem KN:hG ps= .ok none:=rfl
@[simp]theorem KO:gp a ps=(a ps).bind fun x=>match x with | .int i=> .ok (some i)|_=> .bad:=rfl
@[simp]theorem mC:dCatL a b ps=(a ps).bind fun x=>(b ps).bind fun y=>match x,y with | .lst xs,.lst ys=>if xs.length+ys.length<=sizeLine then .ok (xs++ys) else .bad|_,_=> .bad:=rfl
@[simp]theorem eL:aJ ps= .nx ps:=rfl
@[simp]theorem K6:Hr ps= .brk ps:=rfl
@[simp]theorem K7:Hs ps= .cnt ps:=rfl
@[simp]theorem ay:al s r ps=(s ps).next r:=rfl
@[simp]theorem fK:aF i a ps=(a ps).st fun w=> .nx (ps.set i (.v w)):=rfl
@[simp]theorem HJ(m:DM):jc i m ps=(m ps).st fun w=> .nx (w.2.set i (.v w.1)):=rfl
@[simp]theorem zG:gW i d ps=(d ps).st fun ws=>if i<ps.length then .nx (ps.set i (.own (.lst ws))) else .bad:=rfl
@[simp]theorem EF(g:DG):gX g a ps=(a ps).st fun w=>(g w ps).st fun ps'=> .nx ps':=rfl
@[simp]theorem v8(m:DM):cx m ps=(m ps).st fun w=> .nx w.2:=rfl
@[simp]theorem HK:En d ps=(d ps).st fun xs=> .retn xs:=rfl
@[simp]theorem HL:Eo i ps=match ps[i]? with|some (.own (.lst xs))=> .retn xs|_=> .bad:=rfl
@[simp]theorem iw:aG a ps=(a ps).st fun w=> .ret w:=rfl
@[simp]theorem HM(m:DM):g7 m ps=(m ps).st fun w=> .ret w.1:=rfl
@[simp]theorem HN:Ep ps= .ret .non:=rfl
@[simp]theorem cq:cG t s r ps=yB (t ps) s r ps:=rfl
@[simp]theorem va(g:DG):sFor d g s ps=(d ps).st fun ws=>forD g s ws ps:=rfl
@[simp]theorem Bc:bS a ps=(a ps).bind fun w=> .ok (w,ps):=rfl
@[simp]theorem HP:iT ps= .ok ([],ps):=rfl
@[simp]theorem Gn(m:DM)(n:pf):bI m n ps=(m ps).bind fun x=>(n x.2).bind fun y=> .ok (x.1::y.1,y.2):=rfl
@[simp]theorem HQ(n:pf):iU n ps=(n ps).bind fun x=>if x.1.length<=1000 then .ok (.tup x.1,x.2) else .bad:=rfl
@[simp]theorem Go(n:pf)(g:List PV->Rx PV):Em g n ps=(n ps).bind fun x=>(g x.1).bind fun w=> .ok (w,x.2):=rfl
@[simp]theorem K8:gU i ps=match ps[i]? with|some (.own y)=> .ok (y.pv,ps.set i (.v y.pv))|some (.v w)=> .ok (w,ps)|_=> .bad:=rfl
@[simp]theorem K9:kH i ps=match ps[i]? with|some (.own (.lst xs))=>(match xs.getLast? with|some w=> .ok (w,ps.set i (.own (.lst xs.dropLast)))|none=> .bad)|_=> .bad:=rfl
@[simp]theorem EG(m:DM):iq i m ps=match ps[i]? with
 |some (.own (.lst _))=>(m ps).bind fun x=>(match x.2[i]? with|some (.own (.lst xs))=>if xs.length<sizeLine then .ok (.non,x.2.set i (.own (.lst (xs++[x.1])))) else .bad|_=> .bad)
 |_=> .bad:=rfl
@[simp]theorem HR(w:PV):ar i w ps= .ok (ps.set i (.v w)):=rfl
@[simp]theorem HS:bX [] ps= .ok ps:=rfl
@[simp]theorem Gp(g:DG)(gs:List PV->aT->Rx aT)(w:PV)(ws:List PV):aE g gs (w::ws) ps=(g w ps).bind fun ps'=>gs ws ps':=rfl
@[simp]theorem HU(n:Nat)(gs:List PV->aT->Rx aT)(ws:List PV):bY n gs (.tup ws) ps=if ws.length=n then gs ws ps else .bad:=rfl
@[simp]theorem vb(g:Int->Int->PV)(x y:Int):fI g (.int x) (.int y)= .ok (g x y):=rfl
@[simp]theorem vc(C:Int->Int->Prop)[∀i j,Decidable (C i j)](g:Int->Int->PV)(x y:Int):AZ C g (.int x) (.int y)=if C x y then .ok (g x y) else .bad:=rfl
@[simp]theorem Ka(x y:Int):cB (.int x) (.int y)= .ok (.bl (x == y)):=rfl
@[simp]theorem Kb(x y:Str):cB (.str x) (.str y)= .ok (.bl (x == y)):=rfl
@[simp]theorem Kc(x y:Bool):cB (.bl x) (.bl y)= .ok (.bl (x == y)):=rfl
@[simp]theorem Kd(x y:Int):fJ (.int x) (.int y)= .ok (.bl (!(x == y))):=rfl
@[simp]theorem Ke(x y:Str):fJ (.str x) (.str y)= .ok (.bl (!(x == y))):=rfl
@[simp]theorem Kf(x y:Bool):fJ (.bl x) (.bl y)= .ok (.bl (!(x == y))):=rfl
@[simp]theorem qv(xs:List PV)(j:Int):fIx (.lst xs) (.int j)=match gN xs j with|some w=> .ok w|none=> .bad:=rfl
@[simp]theorem cS(xs:List PV)(j:Int):fIx (.tup xs) (.int j)=match gN xs j with|some w=> .ok w|none=> .bad:=rfl
@[simp]theorem HV(xs:List PV):bLen [.lst xs]= .ok (.int xs.length):=rfl
@[simp]theorem HW(xs:List PV):bLen [.tup xs]= .ok (.int xs.length):=rfl
@[simp]theorem EH(g:DG):forD g s [] ps= .nx ps:=rfl
end
def bp(tab:List (Nat×Nat))(g:Nat->List PV->Rx PV)(x:PV)(ws:List PV):Rx PV:=match x with
 |.obj c xs=>(match tab.lookup c with|some f=>g f (.obj c xs::ws)|none=> .bad)
 |_=> .bad
noncomputable def vd(tab:List (Nat×Nat))(g:Nat->List PV->Rx PV)(x:PV)(m:Rx (List PV)):Rx PV:=match x with
 |.obj c xs=>(match tab.lookup c with|some f=>m.bind fun ws=>g f (.obj c xs::ws)|none=> .bad)
 |_=> .bad
@[simp]theorem ve(tab:List (Nat×Nat))(g:Nat->List PV->Rx PV)(x:PV)(ws:List PV):vd tab g x (.ok ws)=bp tab g x ws:=rfl
@[simp]theorem mE(tab:List (Nat×Nat))(g:Nat->List PV->Rx PV)(a:DP)(d:DA)(ps:aT):aM tab g a d ps=(a ps).bind fun x=>vd tab g x (d ps):=rfl
noncomputable def aW(l:List (Nat×Nat))(x:PV):Rx PV:=match x with
 |.obj k xs=>(match l.lookup k with|some j=>(match xs[j]? with|some w=> .ok w|none=> .bad)|none=> .bad)
 |_=> .bad
@[simp]theorem vf(l:List (Nat×Nat))(a:DP)(ps:aT):ba l a ps=(a ps).bind (aW l):=rfl
theorem ln{β :Type}{g:DG}{body:DS}(step: β ->PV-> β)(emb: β ->aT):∀(ws:List PV) (b: β),(∀b w,w∈ws->∃ps1,g w (emb b)= .ok ps1/\(body ps1= .nx (emb (step b w))\/body ps1= .cnt (emb (step b w))))->forD g body ws (emb b)= .nx (emb (ws.foldl step b))
 |[],b,_=>rfl
 |w::ws,b,h=>by
  obtain⟨ps1,e1,e2⟩:=h b w List.mem_cons_self
  rw[forD,e1,bn]
  have ih:=ln step emb ws (step b w) fun b' w' hw=>h b' w' (List.mem_cons_of_mem _ hw)
  rcases e2 with e2|e2 <;> (rw[e2];exact ih)
end DN
end
noncomputable section
namespace DN
open PySem PySem.Spec PyProof.Rows L2
noncomputable section
variable{X:Cx}{G:Pg}{e a b o tg:Expr}{es:List Expr}{da db:DP}{d:DA}{pos p p2 apos cpos:Pos}{x m:Str}{k i:Nat}
theorem qw{bs:List Bool}{us:List Value}(r:aR (bs.map V.bl) us){i:Nat}{v:Value}(h:us[i]? =some v):∃b,bs[i]? =some b/\v= .bool b:=by
 have hi:i<us.length:=(List.getElem?_eq_some_iff.mp h).1
 have hl:(bs.map V.bl).length=us.length:=r.length
 have hi':i<bs.length:=by rw[List.length_map]at hl;omega
 obtain⟨u,e1,e2⟩:=r.get (i:=i) (x:=V.bl bs[i]) (by rw[List.getElem?_map,List.getElem?_eq_getElem hi'];rfl)
 rw[h]at e1;cases e1
 exact⟨bs[i],List.getElem?_eq_getElem hi',e2⟩
theorem lq(hc:X.calm=true):hX X (.builtin "all") (fun xs H Q=>∃p bs,xs=[.ref p]/\eE X.K H p (List.map V.bl bs)/\Q (.bl (bs.all id)) H):=by
 intro pins s σ H xs us Q I r h
 obtain⟨p,bs,rfl,hS,q⟩:=h
 obtain⟨u,rfl,ru⟩:=nJ r
 obtain rfl:u=Value.ref p:=ru
 obtain⟨its,ri,pl,_⟩:=I.list hS
 have hl:=pl.isList
 have hlt:p<s.heap.objs.size:=by obtain⟨_,e,_⟩:=hl;exact Heap.lt_size e
 refine call_all_walk (wpAny_pyIter_list hl ?_)
 refine⟨s.heap.objs.size,[s.heap.objs.size,p],[s.heap.objs.size],its.toArray.size,_,_,fun i=>(bs[i]?).getD true,rfl,Walks.list (A:=X.A.in1) (I.ok.hd hc) _ p (Nat.ne_of_lt hlt) its.toArray,
  ⟨⟨_,Heap.get?_push_size _ rfl,rfl,rfl⟩,hl.push _⟩,fun i v s' Q' E' hP hQ=> ?_,fun h' tk hk=> ?_⟩
 ·obtain⟨b,e,rfl⟩:=qw ri (i:=i) (v:=v) (by simpa using hP)
  simp only[e,Option.getD_some]at hQ
  exact wpAny_truthy_bool hQ
 ·have e:((List.range its.toArray.size).all fun i=>(bs[i]?).getD true)=bs.all id:=by
   have hl:its.length=bs.length:=by rw[<-ri.length,List.length_map]
   rw[List.size_toArray,hl];exact LSm.range_all bs
  rw[e]
  exact⟨.bl _,H,I.kept (LSm.kept_iter hk),rfl,q⟩
theorem su(hc:X.calm=true):hX X (.builtin "any") (fun xs H Q=>∃p bs,xs=[.ref p]/\eE X.K H p (List.map V.bl bs)/\Q (.bl (bs.any id)) H):=by
 intro pins s σ H xs us Q I r h
 obtain⟨p,bs,rfl,hS,q⟩:=h
 obtain⟨u,rfl,ru⟩:=nJ r
 obtain rfl:u=Value.ref p:=ru
 obtain⟨its,ri,pl,_⟩:=I.list hS
 have hl:=pl.isList
 have hlt:p<s.heap.objs.size:=by obtain⟨_,e,_⟩:=hl;exact Heap.lt_size e
 refine call_any_walk (wpAny_pyIter_list hl ?_)
 refine⟨s.heap.objs.size,[s.heap.objs.size,p],[s.heap.objs.size],its.toArray.size,_,_,fun i=>(bs[i]?).getD false,rfl,Walks.list (A:=X.A.in1) (I.ok.hd hc) _ p (Nat.ne_of_lt hlt) its.toArray,
  ⟨⟨_,Heap.get?_push_size _ rfl,rfl,rfl⟩,hl.push _⟩,fun i v s' Q' E' hP hQ=> ?_,fun h' tk hk=> ?_⟩
 ·obtain⟨b,e,rfl⟩:=qw ri (i:=i) (v:=v) (by simpa using hP)
  simp only[e,Option.getD_some]at hQ
  exact wpAny_truthy_bool hQ
 ·have e:((List.range its.toArray.size).any fun i=>(bs[i]?).getD false)=bs.any id:=by
   have hl:its.length=bs.length:=by rw[<-ri.length,List.length_map]
   rw[List.size_toArray,hl];exact LSm.range_any bs
  rw[e]
  exact⟨.bl _,H,I.kept (LSm.kept_iter hk),rfl,q⟩
noncomputable def fL:List PV->Option (List Bool)
 |[]=>some []
 |.bl i::r=>(fL r).map (i :: ·)
 |_::_=>none
theorem jW:∀{xs:List PV} {ns:List Bool},fL xs=some ns->xs=ns.map PV.bl
 |[],ns,h=>by cases h;rfl
 |x::r,ns,h=>by
  cases x <;> try cases h
  rename_i i
  have h:(fL r).map (i :: ·)=some ns:=h
  cases q:fL r with
  |none=>rw[q]at h;cases h
  |some ms=>rw[q]at h;cases h;rw[jW q];rfl
theorem aD.of_bls{K:Fg}{H:Hp}{A:Av}:∀{ns:List Bool} {vs:List V},aD K G H A (ns.map PV.bl) vs->vs=ns.map V.bl
 |[],vs,h=>h
 |n::ns,vs,h=>by
  obtain⟨v,r,e,h1,h2⟩:=h
  have h1:v= .bl n:=h1
  rw[e,h1,aD.of_bls h2];rfl
noncomputable def sv:List PV->Rx PV
 |[.lst xs]=>match fL xs with|some ns=> .ok (.bl (ns.all id))|none=> .bad
 |_=> .bad
noncomputable def yC:List PV->Rx PV
 |[.lst xs]=>match fL xs with|some ns=> .ok (.bl (ns.any id))|none=> .bad
 |_=> .bad
theorem vg{K:Fg}:CK K G [true] sv (fun xs H Q=>∃p bs,xs=[V.ref p]/\eE K H p (List.map V.bl bs)/\Q (.bl (bs.all id)) H):=by
 intro H A ws vs w Q hu e r q
 obtain⟨x,v,rfl,rfl,rb⟩:=r.one
 clear r
 cases x <;> try cases e
 rename_i xs
 have e:(match fL xs with|some ns=>Rx.ok (PV.bl (ns.all id))|none=> .bad)= .ok w:=e
 split at e
 ·rename_i ns h
  cases e
  obtain⟨a,vs,rfl,sq,rs⟩:=rb.lst
  rw[jW h]at rs
  rw[rs.of_bls]at sq
  exact⟨a,ns,rfl,sq,q _ H (Same.refl H) rfl⟩
 ·cases e
theorem Bd{K:Fg}:CK K G [true] yC (fun xs H Q=>∃p bs,xs=[V.ref p]/\eE K H p (List.map V.bl bs)/\Q (.bl (bs.any id)) H):=by
 intro H A ws vs w Q hu e r q
 obtain⟨x,v,rfl,rfl,rb⟩:=r.one
 clear r
 cases x <;> try cases e
 rename_i xs
 have e:(match fL xs with|some ns=>Rx.ok (PV.bl (ns.any id))|none=> .bad)= .ok w:=e
 split at e
 ·rename_i ns h
  cases e
  obtain⟨a,vs,rfl,sq,rs⟩:=rb.lst
  rw[jW h]at rs
  rw[rs.of_bls]at sq
  exact⟨a,ns,rfl,sq,q _ H (Same.refl H) rfl⟩
 ·cases e
noncomputable def EI(d:DA):DA:=fun ps=>(d ps).bind fun ws=>match ws with|[.int j]=>if -(2 ^ 62)<=j/\j<=2 ^ 24 then .ok (ip 0 j.toNat) else .bad|_=> .bad
end
@[simp]theorem HX(ps:aT)(d:DA):EI d ps=(d ps).bind fun ws=>match ws with|[.int j]=>if -(2 ^ 62)<=j/\j<=2 ^ 24 then .ok (ip 0 j.toNat) else .bad|_=> .bad:=rfl
noncomputable def EJ(l m:List (Nat×Bool))(d:DP):DP:=fun ps=>(d ps).bind fun x=>match l.lookup (kd x),m.lookup (kd x)with|some a,some b=> .ok (.bl (a || b))|_,_=> .bad
noncomputable section
variable{X:Cx}{G:Pg}{e c1 c2:Expr}{da:DP}{pos p:Pos}
end
noncomputable def EK(l m:List (Nat×Bool))(x:PV):Rx PV:=match l.lookup (kd x),m.lookup (kd x)with|some a,some b=> .ok (.bl (a || b))|_,_=> .bad
@[simp]theorem HY(l m:List (Nat×Bool))(a:DP)(ps:aT):EJ l m a ps=(a ps).bind (EK l m):=rfl
end DN
end
noncomputable section
namespace DN
open PySem L2
theorem ix(ns:List Int)(lo hi:Option Int):∃ms:List Int,kG .(I) lo hi=ms.map PV.int/\ms.length=min (HT.sIx ns.length ns.length hi-HT.sIx ns.length 0 lo) (ns.length-HT.sIx ns.length 0 lo):=by
 refine⟨(ns.drop (HT.sIx ns.length 0 lo)).take (HT.sIx ns.length ns.length hi-HT.sIx ns.length 0 lo),?_,by rw[List.length_take,List.length_drop]⟩
 unfold kG
 rw[List.length_map,List.map_take,List.map_drop]
theorem jX(xs:List PV)(x:PV):(xs++[x]).getLast? =some x:=by simp
theorem jY(xs:List PV)(x:PV):(xs++[x]).dropLast=xs:=by simp
end DN
end
noncomputable section
namespace L2
open PySem PySem.Spec PyProof.Rows
noncomputable section
variable{X:Cx}{tg:Expr}
end
end L2
namespace DN
open PySem PySem.Spec PyProof.Rows L2
def sgP(x:Str):List PV:=x.cps.toList.map fun c=>PV.str ⟨#[c]⟩
noncomputable section
variable{X:Cx}{G:Pg}{e a b o tg iter:Expr}{es:List Expr}{body:List Stmt}{da db dk dv:DP}{d:DA}{ds:DS}{pos pos' p apos:Pos}{x m:Str}{k i:Nat}{ms:List Bool}
def qx(d:DP):DA:=fun ps=>(d ps).bind fun x=>match x with | .str y=> .ok (sgP y)|_=> .bad
@[simp]theorem EL(d:DP)(ps:aT)(y:Str)(h:d ps= .ok (.str y)):qx d ps= .ok (sgP y):=by unfold qx;rw[h];rfl
noncomputable def gB:PV->Option Key
 |.int i=>some (.inl i)
 |.str y=>some (.inr y)
 |_=>none
theorem mF{K:Fg}{H:Hp}{A:Av}{w:PV}{v:V}{k:Key}(r:cU K G H A w v)(e:gB w=some k):v=kV k:=by
 cases w <;> simp[gB]at e
 ·subst e;exact r
 ·subst e;exact r
def inK(ks:List Key)(k:Key):Bool:=ks.any fun k'=>decide (k'=k)
theorem mG{ks:List Key}{k:Key}:inK ks k=true ↔ k∈ks:=by unfold inK;simp
def dB(ks:List Key)(k:Key):List Key:=if inK ks k=true then ks else ks++[k]
noncomputable def cV{α :Type}(ks:List Key)(xs:List α)(k:Key)(w: α):List α :=if inK ks k=true then List.zipWith (fun k' x=>if k'=k then w else x) ks xs else xs++[w]
theorem mH{k:Key}:∀{ks:List Key} {vs:List V},ks.length=vs.length->(((ks.zip vs).any fun kv=>decide (kv.1=k))=true ↔ k∈ks)
 |[],vs,h=>by simp
 |a::ks,[],h=>by simp at h
 |a::ks,v::vs,h=>by
  have:=mH (k:=k) (ks:=ks) (vs:=vs) (by simpa using h)
  rw[List.zip_cons_cons,List.any_cons,Bool.or_eq_true,this,List.mem_cons]
  simp[eq_comm]
theorem qy{k:Key}{w:V}:∀{ks:List Key} {vs:List V},ks.length=vs.length->(ks.zip vs).map (fun kv=>if kv.1=k then(kv.1,w) else kv)=ks.zip (List.zipWith (fun k' x=>if k'=k then w else x) ks vs)
 |[],vs,h=>by simp
 |a::ks,[],h=>by simp at h
 |a::ks,v::vs,h=>by
  have:=qy (k:=k) (w:=w) (ks:=ks) (vs:=vs) (by simpa using h)
  rw[List.zip_cons_cons,List.map_cons,this,List.zipWith_cons_cons,List.zip_cons_cons]
  congr 1
  by_cases e:a=k <;> simp[e]
theorem yD{ks:List Key}{vs:List V}{k:Key}{v:V}(h:ks.length=vs.length):dj (ks.zip vs) k v=(dB ks k).zip (cV ks vs k v):=by
 unfold dj dB cV
 by_cases e:inK ks k=true
 ·rw[if_pos ((mH h).mpr (mG.mp e)),if_pos e,if_pos e,qy h]
 ·rw[if_neg (fun z=>e (mG.mpr ((mH h).mp z))),if_neg e,if_neg e,List.zip_append h];rfl
theorem qz{α :Type}{ks:List Key}{vs:List α}{k:Key}{v: α}(h:ks.length=vs.length):(dB ks k).length=(cV ks vs k v).length:=by
 unfold dB cV
 split <;> simp[h]
theorem qA{K:Fg}{H:Hp}{A:Av}{k:Key}{w:PV}{v:V}(r:cU K G H A w v):∀{ks:List Key} {ws:List PV} {vs:List V},aD K G H A ws vs->aD K G H A (List.zipWith (fun k' x=>if k'=k then w else x) ks ws) (List.zipWith (fun k' x=>if k'=k then v else x) ks vs)
 |[],ws,vs,h=>rfl
 |a::ks,[],vs,h=>by have h:vs=[]:=h;subst h;rfl
 |a::ks,x::ws,vs,h=>by
  obtain⟨u,rr,rfl,h1,h2⟩:=h
  refine⟨_,_,rfl,?_,qA r h2⟩
  by_cases e:a=k
  ·simp only[if_pos e];exact r
  ·simp only[if_neg e];exact h1
theorem aD.put{K:Fg}{H:Hp}{A:Av}{ks:List Key}{k:Key}{w:PV}{v:V}{ws:List PV}{vs:List V}(h:aD K G H A ws vs)(r:cU K G H A w v):aD K G H A (cV ks ws k w) (cV ks vs k v):=by
 unfold cV
 split
 ·exact qA r h
 ·exact h.snoc r
noncomputable def vh(i:Nat):DS:=fun ps=>if i<ps.length then .nx (ps.set i (.own (.dic [] []))) else .bad
theorem Be(hN:X.N.Nodup)(hi:X.N[i]? =some x)(hx:nw X.env.scope x)(hs:swapsWith (.Dict [] [] pos') (some (.Name x p)) pos.line X.env=pure false:=by rfl)(hf:X.fn x=true\/X.env.scope.names.lookup x=some .local:=by first|exact .inl rfl|exact .inr rfl|assumption) :
  JS X G (.Assign [.Name x p] (.Dict [] [] pos') pos) (vh i):=eK (iJ hN hi hx uy hs hf) fun D σ H ⟨c,ow,ps,R,q⟩=>by
 unfold vh at q
 split at q
 ·rename_i hl
  intro p hp
  have s:=bt hp (HO.dK [])
  exact q _ _ _ (R.setO hl s hp ⟨[],au,rfl,rfl⟩) (Kp.take hp s oi)
 ·exact q.elim
noncomputable def jZ(i:Nat)(dk dv:DP):DS:=fun ps=>(dv ps).st fun w=>(dk ps).st fun y=>match ps[i]?,gB y with
 |some (.own (.dic ks xs)),some k=>if ks.length<sizeLine then .nx (ps.set i (.own (.dic (dB ks k) (cV ks xs k w)))) else .bad
 |_,_=> .bad
theorem vi{ke value:Expr}{tpos:Pos}(i:Nat)(hu:X.A.units+1<cLine)(hk:JP X G ke dk)(he:JP X G value dv)(hs:swapsWith value (some (.Subscript (.Name x p) ke tpos)) pos.line X.env=pure false)(hN:X.N[i]? =some x:=by rfl)(hv:lX X.env.scope x:=by first|exact Or.inl rfl|exact Or.inr (Or.inl rfl)|exact Or.inr (Or.inr rfl))(hd:(x == .(L))=false:=by decide)
  (hcd:(x == .(Ad))=false:=by decide):JS X G (.Assign [.Subscript (.Name x p) ke tpos] value pos) (jZ i dk dv) :=
 eK (qh hu (aV hN hv hd hcd) hk he hs) fun D σ H ⟨c,ow,ps,R,q⟩=>by
  obtain⟨w,e1,q⟩:=aY q
  obtain⟨y,e2,q⟩:=aY q
  split at q
  ·rename_i ks xs k hx hkk
   split at q
   ·rename_i hl
    refine⟨c,ow,ps,w,R,e1,fun v H1 s1 r1=> ?_⟩
    obtain⟨p0,e3,e4,vs0,hH0,l0,rs0⟩:=R.getO hx
    refine⟨_,e4,c,ow,ps,y,R.grow s1,e2,fun u H2 s2 r2=> ?_⟩
    have s12:=s1.trans s2
    have R2:=R.grow s12
    have hH:H2 p0=some (.dK (ks.zip vs0)):=s12 _ _ hH0
    have rs:=rs0.same s12
    have mD:Mt (HO.dK (ks.zip vs0)):=And.intro (fun _ z=>by cases z) (fun _ _ z=>by cases z)
    have hz:dj (ks.zip vs0) k v=(dB ks k).zip (cV ks vs0 k v):=yD l0
    have k0:Kp X.K G H2 (av c ow) (upd H2 p0 (.dK (dj (ks.zip vs0) k v))) (av c ow):=Kp.own (.inr ⟨i,e3⟩) hH mD
    have:=R2.chg (y:= .dic (dB ks k) (cV ks xs k w)) (u:= .dK (dj (ks.zip vs0) k v)) hx e3 ⟨cV ks vs0 k v,by rw[hz];exact au,qz l0,k0.reps (rs.put (r1.same s2))⟩
    refine⟨p0,_,rfl,?_,q _ _ _ this.1 ((Kp.of_same s12).trans this.2)⟩
    rw[mF r2 hkk]
    exact nS.k hH (by rw[List.length_zip,<-l0];omega)
   ·exact q.elim
  ·exact q.elim
end
end DN
end
noncomputable section
namespace DN
open PySem PySem.Spec PyProof.Rows L2
noncomputable def bT{α :Type}:List Key->List α ->Key->Option α
 |k'::ks,x::xs,k=>if k'=k then some x else bT ks xs k
 |_,_,_=>none
theorem mI{k:Key}:∀{ks:List Key} {vs:List V},eS (ks.zip vs) k=bT ks vs k
 |[],vs=>by cases vs <;> rfl
 |a::ks,[]=>rfl
 |a::ks,v::vs=>by
  rw[List.zip_cons_cons,bT]
  by_cases e:a=k
  ·rw[ia (p:=(a,v)) e,if_pos e]
  ·rw[ib (p:=(a,v)) e,if_neg e,mI]
noncomputable section
variable{K:Fg}{G:Pg}{H:Hp}{A:Av}
theorem mJ{k:Key}:∀{ks:List Key} {ws:List PV} {vs:List V},aD K G H A ws vs->(∀w,bT ks ws k=some w->∃v,bT ks vs k=some v/\cU K G H A w v)/\(bT ks vs k).isSome=(bT ks ws k).isSome
 |[],ws,vs,h=>⟨fun w e=>(by cases ws <;> cases e),by cases ws <;> cases vs <;> rfl⟩
 |a::ks,[],vs,h=>by
  have h:vs=[]:=h
  subst h
  exact⟨fun w e=>(by cases e),rfl⟩
 |a::ks,x::ws,vs,h=>by
  obtain⟨v,r,rfl,h1,h2⟩:=h
  have ih:=mJ (k:=k) (ks:=ks) h2
  by_cases e:a=k
  ·simp only[bT,if_pos e]
   exact⟨fun w q=>⟨v,rfl,by cases q;exact h1⟩,by simp⟩
  ·simp only[bT,if_neg e]
   exact ih
end
noncomputable section
variable{X:Cx}{G:Pg}{e a b o i f value:Expr}{es:List Expr}{da db dd dk dv:DP}{d:DA}{dm:DM}{pos pos' p apos cpos tpos:Pos}{x:Str}{j:Nat}
noncomputable def lr:PV->PV->Rx PV
 |.dic ks xs,y=>match gB y with
  |some k=>(match bT ks xs k with|some w=> .ok w|none=> .bad)
  |none=> .bad
 |_,_=> .bad
theorem EM{K:Fg}{H:Hp}{A:Av}{w:PV}{v:V}{k:Key}(r:bK K G H A w v)(e:gB w=some k):v=kV k:=by
 cases w <;> simp[gB]at e
 ·subst e;exact r.int
 ·subst e;exact r.str
theorem vj(hu:X.A.units+1<cLine)(ha:JB X G o da)(hb:JB X G i db)(hs:AL i):JP X G (.Subscript o i pos) (d2 lr da db):=imp (y7 hu ha hb hs) fun σ H Q ⟨c,ow,ps,w,R,e,q⟩=>by
  obtain⟨x,e1,ea⟩:=ai e
  clear e
  obtain⟨y,e2,e⟩:=ai ea
  clear ea
  refine⟨c,ow,ps,x,R,e1,fun v H1 s1 r1=>⟨c,ow,ps,y,R.grow s1,e2,fun u H2 s2 r2=> ?_⟩⟩
  cases x
  case dic ks xs =>
   have e:(match gB y with|some k=>(match bT ks xs k with|some w=>Rx.ok w|none=> .bad)|none=> .bad)= .ok w:=e
   split at e
   · rename_i k hk
     split at e
     · rename_i w' hw
       cases e
       obtain⟨a,vs,rfl,hH,l,rs⟩:=(r1.same s2).dic
       obtain⟨v',hv,rv⟩:=(mJ (k:=k) (ks:=ks) rs).1 _ hw
       refine⟨a,v',rfl,?_,q v' H2 (s1.trans s2) rv⟩
       rw[EM r2 hk,<-hv,<-mI]
       exact gO.k hH
     · cases e
   · cases e
  all_goals cases e
noncomputable def eM(da db dd:DP):DP:=fun ps=>(da ps).bind fun x=>(db ps).bind fun y=>(dd ps).bind fun z=>match x,gB y with
 |.dic ks xs,some k=>if ks.length=xs.length then .ok ((bT ks xs k).getD z) else .bad
 |_,_=> .bad
theorem Bf{K:Fg}{H:Hp}{A:Av}{k:Key}{ks:List Key}{ws:List PV}{vs:List V}{w0:PV}{v0:V}(rs:aD K G H A ws vs)(r0:cU K G H A w0 v0):cU K G H A ((bT ks ws k).getD w0) ((eS (ks.zip vs) k).getD v0):=by
 rw[mI]
 have h:=mJ (k:=k) (ks:=ks) rs
 cases e:bT ks ws k with
 |none =>
  have:bT ks vs k=none:=by
   have:=h.2
   rw[e]at this
   cases q:bT ks vs k with
   |none=>rfl
   |some z=>rw[q]at this;cases this
  rw[this];exact r0
 |some w =>
  obtain⟨v,hv,r⟩:=h.1 w e
  rw[hv];exact r
theorem mK(hu:X.A.units+1<cLine)(ha:JB X G o da)(hb:JB X G e db)(hd:JP X G f dd)(m:M2 X o "get" apos e f cpos):JP X G (.Call (.Attribute o "get" apos) [e,f] [] cpos) (eM da db dd):=imp (uB hu ha hb hd m) fun σ H Q ⟨c,ow,ps,w,R,e,q⟩=>by
 obtain⟨x,e1,ea⟩:=ai e
 clear e
 obtain⟨y,e2,e⟩:=ai ea
 clear ea
 obtain⟨z,e3,ez⟩:=ai e
 clear e
 refine⟨c,ow,ps,x,R,e1,fun v H1 s1 r1=> ?_⟩
 split at ez
 ·rename_i ks xs k hk
  split at ez
  ·cases ez
   obtain⟨a,vs,rfl,hH,l,rs⟩:=r1.dic
   refine⟨a,rfl,.inl ⟨_,.inl hH⟩,c,ow,ps,y,R.grow s1,e2,fun u H2 s2 r2=>⟨c,ow,ps,z,(R.grow s1).grow s2,e3,fun t H3 s3 r3=> ?_⟩⟩
   have s23:=s2.trans s3
   refine⟨eS (ks.zip vs) k,?_,q _ H3 (s1.trans s23) (Bf (rs.same s23) r3)⟩
   rw[EM r2 hk]
   exact gO.k (s23 _ _ hH)
  ·cases ez
 ·cases ez
end
end DN
end
noncomputable section
namespace L2
open PySem PySem.Spec PyProof.Rows
theorem aA.turned2{X:Cx}{pins:List (Addr×Obj)}{σ :L2.St}{H:Hp}{s:Shared}{h':Heap}{t':Nat}{it e p:Addr}{w:HO}(I:aA X pins σ H s)(k:∀b o,b≠it->b≠e->s.heap.get? b=some o->h'.get? b=some o)(f:iK X pins H it)(g:iK X pins H e)
  (hp:s.heap.objs.size<=p) (new:bE X.prog X.w (upd H p w) h' p w):aA X pins σ (upd H p w) { s with heap:=h',toks:=t' }:=by
 obtain⟨f0,f1,f2,f3,f4,f5⟩:=f
 obtain⟨g0,g1,g2,g3,g4,g5⟩:=g
 have hn:H p=none:=I.hok.fresh hp
 have nit:∀b u,H b=some u->b≠it:=fun b u q z=>by rw[z,f0]at q;cases q
 have nie:∀b u,H b=some u->b≠e:=fun b u q z=>by rw[z,g0]at q;cases q
 have old:∀b o,s.heap.get? b=some o->b≠p:=fun b o q=>Nat.ne_of_lt (Nat.lt_of_lt_of_le (Heap.lt_size q) hp)
 refine I.step (g':=s.gens) (d':=s.drawn) (ch:=[it,e]) (fun b hb=> ?_) (fun b o _ _ hc q _=>k b o (fun z=>hc (by simp[z])) (fun z=>hc (by simp[z])) q) (fun b o _ _ hc q _=>⟨o.slots,k b o (fun z=>hc (by simp[z])) (fun z=>hc (by simp[z])) q⟩) (fun b o _ q n=>by rw[aq (old b o q)];exact n)
  (fun b o hc q=>⟨o,k b o (fun z=>hc (by simp[z])) (fun z=>hc (by simp[z])) q⟩) (fun b xs q=>by rw[aq (aO q hn)];exact q) (fun b o u q=>by rw[aq (aO q hn)];exact q) (fun b ps q=>by rw[aq (aO q hn)];exact q) (fun m hm=> ?_) (fun b u q=> ?_) I.bare
 ·have q:b=it\/b=e:=by simpa using hb
  rcases q with rfl|rfl
  ·exact⟨f3,f1,f4,f5⟩
  ·exact⟨g3,g1,g4,g5⟩
 ·obtain⟨o,es,ep,ho,r⟩:=hm
  exact⟨o,es,ep,k _ o (Ne.symm f1) (Ne.symm g1) ho,r⟩
 ·by_cases hb:b=p
  ·subst hb
   rw[au]at q
   cases q
   exact new
  ·rw[aq hb]at q
   refine(I.hok b u q).stay (fun c v hc r=>k c v ?_ ?_ r) (fun c r=>by rw[aq (aO r hn)];exact r) (fun c xs r=>by rw[aq (aO r hn)];exact r) fun c o u r=>by rw[aq (aO r hn)];exact r
   ·rcases hc with z|z
    ·rw[z];exact nit b u q
    ·exact nit c _ z
   ·rcases hc with z|z
    ·rw[z];exact nie b u q
    ·exact nie c _ z
end L2
namespace DN
open PySem PySem.Spec PyProof.Rows L2
noncomputable section
variable{X:Cx}{G:Pg}{e a b o tg:Expr}{es:List Expr}{da db:DP}{d:DA}{dm:DM}{ds du:DS}{pos p apos cpos:Pos}{x m:Str}{k i:Nat}{ms:List Bool}
noncomputable def bv:Nat->List PV->List PV
 |_,[]=>[]
 |k,w::ws=> .tup [.int (k:Int),w]::bv (k+1) ws
theorem k5:∀(k:Nat) (ws:List PV),(bv k ws).length=ws.length
 |_,[]=>rfl
 |k,w::ws=>by simp[bv,k5 (k+1) ws]
theorem qB:∀(k:Nat) (ws:List PV) (i:Nat),(bv k ws)[i]? =(ws[i]?).map fun w=> .tup [.int ((k+i:Nat):Int),w]
 |_,[],i=>by simp[bv]
 |k,w::ws,0=>by simp[bv]
 |k,w::ws,i+1=>by
  simp only[bv,List.getElem?_cons_succ]
  rw[qB (k+1) ws i]
  congr 3
  funext w
  congr 3
  omega
noncomputable def vk(d:DP):DA:=fun ps=>(d ps).bind fun x=>match x with | .lst xs=> .ok (bv 0 xs)|_=> .bad
def EN(d:DP)(g:DG)(body:DS):DS:=sFor (vk d) g body
noncomputable def vm(i:Nat)(d:DA):DM:=fun ps=>match ps[i]? with
 |some (.own (.lst xs))=>(d ps).bind fun ys=>if xs.length+ys.length<=sizeLine then .ok (.non,ps.set i (.own (.lst (xs++ys)))) else .bad
 |_=> .bad
theorem EO(i:Nat)(he:JN X G e d)(hline:(apos.endLine == cpos.line)=true:=by rfl)(hN:X.N[i]? =some x:=by rfl)(hv:lX X.env.scope x:=by first|exact Or.inl rfl|exact Or.inr (Or.inl rfl)|exact Or.inr (Or.inr rfl))(hd:(x == .(L))=false:=by decide)
  (hcd:(x == .(Ad))=false:=by decide) (hst:starEach [e] X.env=.(U)::starEach [] X.env:=by rfl) (hbase:attributeBase (.Name x pos) "extend" X.env (eval (.Name x pos) X.env)=eval (.Name x pos) X.env:=by rfl)
  (hpl:(backTo cpos (starEach ([]:List Expr) X.env)).any (·.1)=false:=by rfl)
  (hfew:.(K)=true:=by rfl) :
  JM X G (.Call (.Attribute (.Name x pos) "extend" apos) [e] [] cpos) (vm i d) :=
 imp (qf PySem.F.plainAttrs_list PySem.F.slot_list_extend PySem.F.type_list_extend rO (aV hN hv hd hcd) (dg he fU hst) hbase hfew hline hst hpl) fun σ H Q ⟨c,ow,ps,w,ps',R,e,q⟩=>by
  unfold vm at e
  split at e
  ·rename_i xs hx
   obtain⟨ys,e1,e⟩:=ai e
   split at e
   ·rename_i hl
    cases e
    obtain⟨p0,e2,e3,vs,hH,rs⟩:=R.getO hx
    refine⟨.ref p0,e3,.inl ⟨rfl,_,eE.of hH⟩,c,ow,ps,ys,R,e1,fun p us H1 s1 hp hu ru=> ?_⟩
    have R1:=R.grow s1
    have hne:p≠p0:=fun z=>by rw[z,hH]at hp;cases hp
    have hH1:=s1 _ _ hH
    have mD:Mt (HO.lst vs):=And.intro (fun _ z=>by cases z) (fun _ _ z=>by cases z)
    have k0:Kp X.K G H1 (av c ow) (upd H1 p0 (.lst (vs++us))) (av c ow):=Kp.own (.inr ⟨i,e2⟩) hH1 mD
    have ru':aD X.K G H1 (av c ow) ys us:=(Kp.weak fun a z=>Or.inl z).reps ru
    have:=R1.chg (y:= .lst (xs++ys)) (u:= .lst (vs++us)) hx e2 ⟨_,au,k0.reps ((rs.same s1).app ru')⟩
    exact⟨p0,p,vs,us,rfl,rfl,hH1,hu,by rw[<-rs.len,<-ru.len];exact hl,q .non _ ow this.1 ((Kp.of_same s1).trans this.2) rfl⟩
   ·cases e
  ·cases e
noncomputable def sw(i:Nat):DM:=fun ps=>match ps[i]? with
 |some (.own (.lst _))=> .ok (.non,ps.set i (.own (.lst [])))
 |_=> .bad
theorem EQ(i:Nat)(hline:(apos.endLine == cpos.line)=true:=by rfl)(hN:X.N[i]? =some x:=by rfl)(hv:lX X.env.scope x:=by first|exact Or.inl rfl|exact Or.inr (Or.inl rfl)|exact Or.inr (Or.inr rfl))(hd:(x == .(L))=false:=by decide)
  (hcd:(x == .(Ad))=false:=by decide) (hbase:attributeBase (.Name x pos) "clear" X.env (eval (.Name x pos) X.env)=eval (.Name x pos) X.env:=by rfl):JM X G (.Call (.Attribute (.Name x pos) "clear" apos) [] [] cpos) (sw i) :=
 imp (p6 PySem.F.plainAttrs_list PySem.F.slot_list_clear PySem.F.type_list_clear ur (aV hN hv hd hcd) hbase hline) fun σ H Q ⟨c,ow,ps,w,ps',R,e,q⟩=>by
  unfold sw at e
  split at e
  ·rename_i xs hx
   cases e
   obtain⟨p,e1,e2,vs,hH,rs⟩:=R.getO hx
   have:=R.chg (y:= .lst []) (u:= .lst []) hx e1 ⟨_,au,rfl⟩
   exact⟨.ref p,e2,.inl ⟨rfl,_,eE.of hH⟩,p,vs,rfl,rfl,hH,q .non _ ow this.1 this.2 rfl⟩
  ·cases e
theorem aD.reverse{K:Fg}{H:Hp}{A:Av}:∀{ws:List PV} {vs:List V},aD K G H A ws vs->aD K G H A ws.reverse vs.reverse
 |[],vs,h=>by have h:vs=[]:=h;subst h;rfl
 |w::ws,vs,h=>by
  obtain⟨v,r,rfl,h1,h2⟩:=h
  rw[List.reverse_cons,List.reverse_cons]
  exact(aD.reverse h2).snoc h1
noncomputable def pz(i:Nat):DM:=fun ps=>match ps[i]? with
 |some (.own (.lst xs))=> .ok (.non,ps.set i (.own (.lst xs.reverse)))
 |_=> .bad
theorem zH(i:Nat)(hline:(apos.endLine == cpos.line)=true:=by rfl)(hN:X.N[i]? =some x:=by rfl)(hv:lX X.env.scope x:=by first|exact Or.inl rfl|exact Or.inr (Or.inl rfl)|exact Or.inr (Or.inr rfl))(hd:(x == .(L))=false:=by decide)
  (hcd:(x == .(Ad))=false:=by decide) (hbase:attributeBase (.Name x pos) "reverse" X.env (eval (.Name x pos) X.env)=eval (.Name x pos) X.env:=by rfl):JM X G (.Call (.Attribute (.Name x pos) "reverse" apos) [] [] cpos) (pz i) :=
 imp (p6 PySem.F.plainAttrs_list PySem.F.slot_list_reverse PySem.F.type_list_reverse p8 (aV hN hv hd hcd) hbase hline) fun σ H Q ⟨c,ow,ps,w,ps',R,e,q⟩=>by
  unfold pz at e
  split at e
  ·rename_i xs hx
   cases e
   obtain⟨p,e1,e2,vs,hH,rs⟩:=R.getO hx
   have mD:Mt (HO.lst vs):=And.intro (fun _ z=>by cases z) (fun _ _ z=>by cases z)
   have k0:Kp X.K G H (av c ow) (upd H p (.lst vs.reverse)) (av c ow):=Kp.own (.inr ⟨i,e1⟩) hH mD
   have:=R.chg (y:= .lst xs.reverse) (u:= .lst vs.reverse) hx e1 ⟨_,au,k0.reps rs.reverse⟩
   exact⟨.ref p,e2,.inl ⟨rfl,_,eE.of hH⟩,p,vs,rfl,rfl,hH,q .non _ ow this.1 this.2 rfl⟩
  ·cases e
noncomputable def ER(d:DP)(dl dh:aT->Rx (Option Int)):DP:=fun ps=>(d ps).bind fun x=>(dl ps).bind fun lo=>(dh ps).bind fun hi=>match x with
 |.tup xs=>if HT.sIx xs.length 0 lo=0/\HT.sIx xs.length xs.length hi=xs.length then .bad else .ok (.tup (kG xs lo hi))
 |_=> .bad
noncomputable def ES:PV->PV->Rx PV
 |.tup xs,.tup ys=>if xs≠[]/\xs.length+ys.length<=sizeLine then .ok (.tup (xs++ys)) else .bad
 |_,_=> .bad
noncomputable def yE(d:DA)(b:DP):DA:=fun ps=>(d ps).bind fun xs=>(b ps).bind fun y=>match y with
 |.int k=>if 0<=k/\k<2 ^ 62/\xs.length*k.toNat<=sizeLine then .ok (List.replicate k.toNat xs).flatten else .bad
 |_=> .bad
theorem aD.rep{K:Fg}{H:Hp}{A:Av}{ws:List PV}{vs:List V}(h:aD K G H A ws vs):∀n:Nat,aD K G H A (List.replicate n ws).flatten (List.replicate n vs).flatten
 |0=>rfl
 |n+1=>by
  rw[List.replicate_succ,List.flatten_cons,List.replicate_succ,List.flatten_cons]
  exact h.app (aD.rep h n)
theorem zI(ha:JN X G a d)(hb:JP X G b db):JN X G (.BinOp a .Mult b pos) (yE d db):=imp (uf AI ha hb) fun σ H Q ⟨c,ow,ps,ws,R,e,q⟩=>by
 obtain⟨xs,e1,e⟩:=ai e
 obtain⟨y,e2,e⟩:=ai e
 refine⟨c,ow,ps,xs,R,e1,fun p0 vs H1 s1 hp0 hv rs=>⟨c,ow,ps,y,R.grow s1,e2,fun u H2 s2 r2=> ?_⟩⟩
 split at e
 ·rename_i k
  split at e
  ·rename_i hk
   cases e
   obtain rfl:u=V.int k:=r2
   refine⟨p0,k,vs,rfl,rfl,s2 _ _ hv,by omega,by omega,by rw[<-rs.len];exact hk.2.2,fun p hp=> ?_⟩
   have sp:=bt hp (.lst (List.replicate k.toNat vs).flatten)
   have r0:aD X.K G H2 (av c ow) xs vs:=((Kp.weak fun a z=>Or.inl z).reps rs).same s2
   exact q p _ _ ((s1.trans s2).trans sp) ((s1.trans s2).free hp) au ((Kp.take hp sp fun a z=>z.symm).reps (r0.rep _))
  ·cases e
 ·cases e
noncomputable def Bg(g:List PV->Rx PV)(d:DA):DA:=fun ps=>(d ps).bind fun ws=>(g ws).bind fun w=>match w with | .lst xs=> .ok xs|_=> .bad
variable(ps:aT)
@[simp]theorem ET:vm i d ps=match ps[i]? with
 |some (.own (.lst xs))=>(d ps).bind fun ys=>if xs.length+ys.length<=sizeLine then .ok (.non,ps.set i (.own (.lst (xs++ys)))) else .bad
 |_=> .bad:=rfl
@[simp]theorem Kg:sw i ps=match ps[i]? with
 |some (.own (.lst _))=> .ok (.non,ps.set i (.own (.lst [])))
 |_=> .bad:=rfl
@[simp]theorem Kh:pz i ps=match ps[i]? with
 |some (.own (.lst xs))=> .ok (.non,ps.set i (.own (.lst xs.reverse)))
 |_=> .bad:=rfl
@[simp]theorem HZ(g:DG):EN da g ds ps=(vk da ps).st fun ws=>forD g ds ws ps:=rfl
@[simp]theorem I0:vk da ps=(da ps).bind fun x=>match x with | .lst xs=> .ok (bv 0 xs)|_=> .bad:=rfl
@[simp]theorem Ia(dl dh:aT->Rx (Option Int)):ER da dl dh ps=(da ps).bind fun x=>(dl ps).bind fun lo=>(dh ps).bind fun hi=>match x with
 |.tup xs=>if HT.sIx xs.length 0 lo=0/\HT.sIx xs.length xs.length hi=xs.length then .bad else .ok (.tup (kG xs lo hi))
 |_=> .bad:=rfl
@[simp]theorem Ib(xs ys:List PV):ES (.tup xs) (.tup ys)=if xs≠[]/\xs.length+ys.length<=sizeLine then .ok (.tup (xs++ys)) else .bad:=rfl
@[simp]theorem Ki:yE d db ps=(d ps).bind fun xs=>(db ps).bind fun y=>match y with
 |.int k=>if 0<=k/\k<2 ^ 62/\xs.length*k.toNat<=sizeLine then .ok (List.replicate k.toNat xs).flatten else .bad
 |_=> .bad:=rfl
@[simp]theorem Gq(g:List PV->Rx PV):Bg g d ps=(d ps).bind fun ws=>(g ws).bind fun w=>match w with | .lst xs=> .ok xs|_=> .bad:=rfl
end
end DN
end
noncomputable section
namespace L2
open PySem PySem.Spec PyProof.Rows
noncomputable section
variable{X:Cx}{pins:List (Addr×Obj)}{σ :St}{H:Hp}{s s1:Shared}{scope:Scope}{own:List Str}{caps:List (Str×Nat)}{fp:List Addr}
def Bh(own:List Str)(caps:List (Str×Nat))(wi:TI)(g:TG)(tc:TT)(te:TE)(i:Nat):TS:=fun D σ H=>wi σ H (uD own caps g tc te σ fun v H'=>D.nx (σ.set i (some v)) H')
theorem qC{elt tg iter:Expr}{ifs:List Expr}{pos spos px:Pos}{wi:TI}{g:TG}{tc:TT}{te:TE}{j:Nat}{x:Str}(hN:X.N.Nodup)(hi':X.N[j]? =some x)(hx:nw X.env.scope x)(S:dH X scope own caps)(hc:X.calm=true)(hi:PI X tg iter wi)
  (hg:∀C s₀ H₀ fp,PG .(N) tg g) (ht:∀C s₀ H₀ fp,DY .(N) ifs tc) (he:∀C s₀ H₀ fp,PE .(N) elt te)
  (hsw:swapsWith (.ListComp elt [⟨tg,iter,ifs,0⟩] scope pos) (some (.Name x px)) spos.line X.env=pure true:=by rfl) (hs:∀x,foldedSetIterable iter X.env x=pure x:=by intro _;rfl)
  (hf:X.fn x=true\/X.env.scope.names.lookup x=some .local:=by first|exact .inl rfl|exact .inr rfl|assumption):PS X (.Assign [.Name x px] (.ListComp elt [⟨tg,iter,ifs,0⟩] scope pos) spos) (Bh own caps wi g tc te j):=by
 intro pins s σ H D0 I h
 rw[exec_Assign_Name_used _ _ _ _ hsw]
 refine wpAny_bind (wpAny_standAt (wpAny_bind ?_))
 show wpAny _ X.A (do let _ <- comprehension (.ListComp elt [⟨tg,iter,ifs,0⟩] scope pos) scope X.env _ (newList []) false (eval iter X.env) (some (assign (.Name x px) X.env))) _ _ s
 have hfree:∀y∈scope.names,y.2= .free->∃c,X.env.cells.lookup y.1=some c:=fun y hy e=>I.ok.has _ (S.frees.mem y hy e)
 refine wpAny_bind (wpAny_mono (wpAny_comprehension_free (Q:=fun _ s'=>SP X pins D0 .next s') (use:=some (assign (.Name x px) X.env)) rfl hs (eG hfree) S.kind S.names (bx (hi pins s σ H _ I h) fun v s1 h1=>bx h1 fun itv s2 h2=> ?_))
  (fun _ s' hq=>wpAny_pure (wpAny_pure hq)) fun _ _ e=>e)
 obtain⟨it,fp,tn,J,H2,e,I2,T,st2,f2,hW⟩:=h2
 subst e
 -- the new list
 refine wpAny_newList ?_
 have hD:H2 s2.heap.objs.size=none:=I2.fresh
 have I3:=I2.lnew (its:=[]) (ys:=[]) (t':=s2.toks) .nil (Nat.zero_le _)
 have k3:∀b o,s2.heap.get? b=some o->(s2.heap.push { cls:= .type "list",data:= .seq ([]:List Value).toArray }).get? b=some o:=fun b o q=>Heap.get?_push_of_some _ q
 have st3:tn 0 (s2.heap.push { cls:= .type "list",data:= .seq ([]:List Value).toArray }):=T.keep _ _ _ st2 fun b _ o q=>k3 b o q
 have lt2:∀b∈fp,b<s2.heap.objs.size:=fun b hb=>let ⟨o,q,_⟩:=T.obj _ _ st2 b hb;Heap.lt_size q
 have neD:∀b∈fp,b≠s2.heap.objs.size:=fun b hb=>Nat.ne_of_lt (lt2 b hb)
 have f3:∀b∈fp,iK X pins (upd H2 s2.heap.objs.size (.lst [])) b:=fun b hb=>⟨by rw[aq (neD b hb)];exact(f2 b hb).1,(f2 b hb).2⟩
 obtain⟨W,⟨m0,w0⟩,turn⟩:=hW _ hD
 generalize eD:s2.heap.objs.size=D at *
 generalize eH:upd H2 D (.lst [])=H3 at *
 generalize eh:s2.heap.push { cls:= .type "list",data:= .seq ([]:List Value).toArray }=hp3 at *
 have I3':aA X pins σ H3 { s2 with heap:=hp3 }:=I3
 -- the block's frame
 refine wpAny_newFunctionEnv S.nocell (fun y hy=>by simp at hy) (fun h1 hns hsb=> ?_) S.kind
 have kb:∀b o,hp3.get? b=some o->h1.get? b=some o:=fun b o q=>hsb.extBut b o (Nat.ne_of_lt (Heap.lt_size q)) (Heap.get?_push_of_some _ q)
 have lt3:∀b∈fp,b<hp3.objs.size:=fun b hb=>let ⟨o,q,_⟩:=T.obj _ _ st3 b hb;Heap.lt_size q
 have IB:=aA.block (s:={ s2 with heap:=hp3 }) (h1:=h1) (tk:=s2.toks) I3' S f3 hns kb lt3
 have stB:tn 0 h1:=T.keep _ _ _ st3 fun b _ o q=>kb b o q
 have back:∀{σ':St} {H':Hp} {s':Shared} {h':Heap},aA .(G) [] σ' H' s'->Heap.SameBut hp3.objs.size s'.heap h'->aA X pins σ H' { s' with heap:=h' }:=fun {σ' H' s' h'} J hsm=>by
  have nC:∀b o,H' b=some o->b≠hp3.objs.size:=fun b o q z=>by
   have:=J.free
   rw[z]at q
   have q2:H' hp3.objs.size=none:=this
   rw[q]at q2;cases q2
  have hok:gD X.prog X.w H' h':=fun b o q=>(J.hok b o q).stay (fun c v hc z=>hsm.extBut c v (by
   rcases hc with hc|hc
   ·rw[hc];exact nC b o q
   ·exact nC c _ hc) z) (fun _ z=>z) (fun _ _ z=>z) fun _ _ _ z=>z
  have nb:∀b o,hp3.get? b=some o->b≠hp3.objs.size:=fun b o q=>Nat.ne_of_lt (Heap.lt_size q)
  have un:Un (frs X.stack) fp H3 H' hp3 h':=⟨fun b o q n hb hx=>hsm.extBut b o (nb b o q) (J.base.keep b o q n hb hx),fun b o q n hb hx=>by
    obtain⟨sl,z⟩:=J.base.slot b o q n hb hx
    exact⟨sl,hsm.extBut b _ (nb b o q) z⟩,J.base.free,fun b o q hx=>by
    obtain⟨o',z⟩:=J.base.there b o q hx
    exact⟨o',hsm.extBut b _ (nb b o q) z⟩,J.base.tups,J.base.frzs,J.base.tbls⟩
  have os:=J.os
  have bare:=J.bare
  obtain⟨hh,g,d,t,os'⟩:=s'
  obtain rfl:os'=s2.os:=os
  show aA X pins σ H' { ({ s2 with heap:=hp3 }:Shared)with heap:=h',gens:=g,drawn:=d,toks:=t }
  exact I3'.call (h':=h') (g':=g) (d':=d) (t':=t) (ch:=fp) un hok bare fun b hb=>⟨(f3 b hb).2.2.2.1,(f3 b hb).2.1,(f3 b hb).2.2.2.2.1,(f3 b hb).2.2.2.2.2⟩
 have statB:∀{H':Hp},(∀b∈fp,H' b=none)->∀b∈fp,iK .(G) [] H' b:=fun hn b hb =>
  ⟨hn b hb,Nat.ne_of_lt (lt3 b hb),fun z=>(IB.ok.exfs b hb) z,.inl hb,(IB.ok.exf b hb).2,fun p hp=>absurd (show p∈([]:List (Addr×Obj)) from hp) (by simp)⟩
 have loop:∀s₃ :Shared,s₃ ={ s2 with heap:=h1,toks:=s2.toks }->codeAny .(E) X.A (.compLoop (.ListComp elt [⟨tg,iter,ifs,0⟩] scope pos) 0 (.ref it) (.ref D) (compEnvC scope (clos X.env scope.names []) hp3.objs.size X.env))
   (compPost .(E) X.A X.xe (some (assign (.Name x px) X.env)) (fun _ s'=>SP X pins D0 .next s') (.ref D) hp3.objs.size) s₃ :=by
  rintro s₃ rfl
  refine ik (fun n s'=>∃i σ' H',aA .(G) [] σ' H' s'/\tn i s'.heap/\(∀b∈fp,H' b=none)/\W i n σ' H') ?_ m0 ⟨0,mh own caps σ,H3,IB,stB,fun b hb=>(f3 b hb).1,w0⟩
  rintro n s3 ⟨i, σ3,H4,I4,st4,fr4,w4⟩
  rcases turn i n σ3 H4 w4 with⟨stop,qn⟩|⟨go,N,hN,step⟩
  ·refine bx (T.done .(G) rfl rfl rfl hc i [] s3 σ3 H4 _ I4 (statB fr4) st4 stop) fun r s4 ⟨hr,I5⟩=> ?_
   subst hr
   obtain⟨m,hn,_⟩:=I5.loc
   have I6:aA X pins σ H4 s4:=back I5 ⟨rfl,fun _ _=>rfl⟩
   have neL:hp3.objs.size≠X.env.locals:=fun z=>by
    have:=I3'.lt
    rw[<-z]at this
    exact Nat.lt_irrefl _ this
   have neC:∀y c,X.env.cells.lookup y=some c->c≠hp3.objs.size:=fun y c e z=>by
    obtain⟨v,q⟩:=I3'.cell y c e
    have:=q.lt
    rw[z]at this
    exact Nat.lt_irrefl _ this
   have neP:∀p∈X.pn++pins,p.1≠hp3.objs.size:=fun p hp z=>by
    have:=Heap.lt_size (I3'.pin p hp).1
    rw[z]at this
    exact Nat.lt_irrefl _ this
   refine wpAny_assign_Name (kN I6 hN hi' hx (v:= .ref D) rfl (fun s7 I7 ⟨a,sb,ha⟩=> ?_) hf)
   have na:hp3.objs.size≠a:=fun z=>by
    rcases ha with ha|ha
    ·exact neL (z.trans ha)
    ·exact neC _ _ ha z.symm
   refine⟨m,hn.sameBut sb na,fun h' hsm=>⟨_,H4,?_,qn⟩⟩
   exact I7.turned (t':=s7.toks) (it:=hp3.objs.size) (fun b o hb e=>hsm.extBut b o hb e) I5.free neL (.inr I3'.sz) neC neP
  ·refine bx (T.item .(G) rfl rfl rfl hc i [] s3 σ3 H4 (fun _ _=>False) I4 (statB fr4) st4 go) fun r s4 ⟨u,hr,h4⟩=> ?_
   subst hr
   refine bx h4 fun _ s5 ⟨x,H5,I5,r5,y5,st5,fr5⟩=> ?_
   have I5':=I5.pinned (statB fr5) (T.obj _ _ st5)
   refine bx (hg hp3.objs.size { s2 with heap:=hp3 } H3 fp _ s5 σ3 H5 x u _ I5' r5 (step x H5 y5)) fun _ s6 ⟨σ6,H6,I6,q6⟩=> ?_
   refine bx (ht hp3.objs.size { s2 with heap:=hp3 } H3 fp _ s6 σ6 H6 _ I6 q6) fun ok s7 ⟨H7,I7,q7⟩=> ?_
   have again:∀{σ7:St} {H7:Hp} {s7:Shared},aA .(G) ([]++iM fp s5.heap) σ7 H7 s7->N σ7 H7->∃m,m<n/\ ∃i σ' H',aA .(G) [] σ' H' s7/\tn i s7.heap/\(∀b∈fp,H' b=none)/\W i m σ' H':=fun {σ7 H7 s7} I7 n7=>by
    obtain⟨m',hm,w7⟩:=hN σ7 H7 n7
    refine⟨m',hm,i+1, σ7,H7,I7.unpinned,T.keep _ _ _ st5 fun b hb o e=>.(Ai).1,fun b hb=> ?_,w7⟩
    obtain⟨o,e,d⟩:=T.obj _ _ st5 b hb
    exact .(Ai).2.1
   cases ok with
   |false =>
    rw[if_neg (by decide)]
    rw[if_neg (by decide)]at q7
    exact again I7 q7
   |true =>
    rw[if_pos rfl]
    rw[if_pos rfl]at q7
    refine bx (he hp3.objs.size { s2 with heap:=hp3 } H3 fp _ s7 σ6 H7 _ I7 q7) fun y s8 ⟨yv,H8,I8,r8,ys,e8,z8,n8⟩=> ?_
    refine bx (iP (X:=gI X scope hp3.objs.size (cy own caps) { s2 with heap:=hp3 } H3 fp) _ s8 σ6 H8 (.ref D) [yv] (.ref D) [y] (fun _ H'=>N σ6 H') I8 rfl (.cons r8 .nil) ⟨D,ys,yv,rfl,rfl,e8,z8,n8⟩) fun _ s9 ⟨v9,H9,I9,_,q9⟩=> ?_
    exact again I9 q9
 exact codeAny_compStart_list (loop _ rfl) (T.self _ 0 _ _ _ stB (loop _ rfl))
end
end L2
namespace DN
open PySem PySem.Spec PyProof.Rows L2
noncomputable section
variable{X:Cx}{G:Pg}{e a b o tg:Expr}{es:List Expr}{da db:DP}{d:DA}{dm:DM}{ds du:DS}{pos p apos cpos:Pos}{x m:Str}{k i:Nat}{ms:List Bool}
theorem Bi{elt iter:Expr}{ifs:List Expr}{scope:Scope}{own:List Str}{caps:List (Str×Nat)}{di:DA}{g:DG}{dt:DT}{de:DP}(hN:X.N.Nodup)(hi':X.N[i]? =some x)(hx:nw X.env.scope x)(S:dH X scope own caps)(hc:X.calm=true)(hi:Ek X G tg iter di)
  (hg:∀C s₀ H₀ fp,JG .(N) G tg g) (ht:∀C s₀ H₀ fp,El .(N) G ifs dt) (he:∀C s₀ H₀ fp,JP .(N) G elt de)
  (gk:∀(w:PV) (ps ps':aT),g w ps= .ok ps'->∀(i:Nat) (x:Ow),ps'[i]? =some (Sl.own x)->ps[i]? =some (Sl.own x))
  (hsw:swapsWith (.ListComp elt [⟨tg,iter,ifs,0⟩] scope cpos) (some (.Name x p)) pos.line X.env=pure true:=by rfl) (hs:∀x,foldedSetIterable iter X.env x=pure x:=by intro _;rfl)
  (hf:X.fn x=true\/X.env.scope.names.lookup x=some .local:=by first|exact .inl rfl|exact .inr rfl|assumption):JS X G (.Assign [.Name x p] (.ListComp elt [⟨tg,iter,ifs,0⟩] scope cpos) pos) (gW i (dComp own caps di g dt de)) :=
 eK (qC (wi:=Ej X.K G di) (g:=tG X.K G g) (tc:=se X.K G dt) (te:=xv X.K G de) hN hi' hx S hc hi hg ht he hsw hs hf) fun D σ H ⟨c,ow,ps,R,q⟩=>by
  obtain⟨ws,e1,q⟩:=aY q
  split at q
  ·rename_i hl
   exact mr gk ⟨c,ow,ps,ws,R,e1,fun p vs H' s hp hv r=>q _ _ _ (R.setO hl s hp ⟨vs,hv,r⟩) (Kp.take hp s oi)⟩
  ·exact q.elim
theorem pA{elt iter:Expr}{ifs:List Expr}{scope:Scope}{own:List Str}{caps:List (Str×Nat)}{di:DA}{g:DG}{dt:DT}{de:DP}(hN:X.N.Nodup)(hi':X.N[i]? =some x)(hx:nw X.env.scope x)(S:dH X scope own caps)(hc:X.calm=true)(hi:Ek X G tg iter di)
  (hg:∀C s₀ H₀ fp,JG .(N) G tg g) (ht:∀C s₀ H₀ fp,El .(N) G ifs dt) (he:∀C s₀ H₀ fp,JP .(N) G elt de)
  (gk:∀(w:PV) (ps ps':aT),g w ps= .ok ps'->∀(i:Nat) (x:Ow),ps'[i]? =some (Sl.own x)->ps[i]? =some (Sl.own x))
  (hsw:swapsWith (.ListComp elt [⟨tg,iter,ifs,0⟩] scope cpos) (some (.Name x p)) pos.line X.env=pure true:=by rfl) (hs:∀x,foldedSetIterable iter X.env x=pure x:=by intro _;rfl)
  (hf:X.fn x=true\/X.env.scope.names.lookup x=some .local:=by first|exact .inl rfl|exact .inr rfl|assumption):JS X G (.Assign [.Name x p] (.ListComp elt [⟨tg,iter,ifs,0⟩] scope cpos) pos) (aF i (dOfN (dComp own caps di g dt de))) :=
 eK (qC (wi:=Ej X.K G di) (g:=tG X.K G g) (tc:=se X.K G dt) (te:=xv X.K G de) hN hi' hx S hc hi hg ht he hsw hs hf) fun D σ H ⟨c,ow,ps,R,q⟩=>by
  obtain⟨w,e0,q⟩:=aY q
  obtain⟨ws,e1,e2⟩:=ai e0
  cases e2
  exact mr gk ⟨c,ow,ps,ws,R,e1,fun p vs H' s hp hv r=>q _ _ _ ((R.grow s).setV ⟨p,vs,rfl,.inl ⟨hv,fun z=>R.used p z hp⟩,(Kp.weak fun a z=>Or.inl z).reps r⟩) ((Kp.of_same s).trans (Kp.weak fX))⟩
theorem g9{α :Type}{dt:DT}{de:DP}{ps0:aT}(emb: α ->PV)(q: α ->Bool)(f: α ->PV):∀(us:List α) (s:Sl),(∀u,u∈us->dt (.v (emb u)::ps0)= .ok (q u)/\(q u=true->de (.v (emb u)::ps0)= .ok (f u)))->jR (ar 0) dt de (us.map emb) (s::ps0)= .ok ((us.filter q).map f)
 |[],s,_=>rfl
 |u::us,s,h=>by
  obtain⟨h1,h2⟩:=h u List.mem_cons_self
  have ih:=g9 emb q f us (.v (emb u)) fun w' hw=>h w' (List.mem_cons_of_mem _ hw)
  have e0:ar 0 (emb u) (s::ps0)= .ok (.v (emb u)::ps0):=rfl
  rw[List.map_cons,jR,e0,ao,h1,ao]
  cases hp:q u with
  |true=>rw[if_pos rfl,h2 hp,ao,ih,ao,List.filter_cons,if_pos hp];rfl
  |false=>rw[if_neg Bool.false_ne_true,ih,List.filter_cons,if_neg (by rw[hp];exact Bool.false_ne_true)]
theorem bC{α :Type}{de:DP}{ps0:aT}(emb f: α ->PV)(us:List α)(s:Sl)(h:∀u,u∈us->de (.v (emb u)::ps0)= .ok (f u)):jR (ar 0) bM de (us.map emb) (s::ps0)= .ok (us.map f):=by
 rw[g9 emb (fun _=>true) f us s fun u hu=>⟨rfl,fun _=>h u hu⟩,List.filter_eq_self.mpr fun _ _=>rfl]
mutual
noncomputable def PV.data:PV->Bool
 |.obj _ _=>false
 |.dic _ _=>false
 |.clo _ _=>false
 |.tup xs=>vn xs
 |.lst xs=>vn xs
 |.dit _ _=>false
 |_=>true
noncomputable def vn:List PV->Bool
 |[]=>true
 |x::xs=>x.data && vn xs
end
end
end DN
end
noncomputable section
namespace DN
open PySem PySem.Spec PyProof.Rows L2
theorem oq{f:Str}{v:V}:∀{ns:List Str} {vs:List V},f∉ns->ns.length=vs.length->ck f v (ns.zip vs)=(ns++[f]).zip (vs++[v])
 |[],[],_,_=>rfl
 |[],_::_,_,h=>by simp at h
 |_::_,[],_,h=>by simp at h
 |n::ns,u::vs,h,l=>by
  have h1:n≠f:=fun z=>h (by rw[z];exact List.mem_cons_self)
  rw[List.zip_cons_cons]
  show(if n=f then _ else _)=_
  rw[if_neg h1,oq (fun z=>h (List.mem_cons_of_mem _ z)) (by simpa using l)]
  rfl
theorem pB{f:Str}:∀{ns:List Str} {vs:List V} {j:Nat} {v:V},ns.Nodup->ns[j]? =some f->vs[j]? =some v->(ns.zip vs).lookup f=some v
 |[],_,_,_,_,h,_=>by simp at h
 |_::_,[],_,_,_,_,h=>by simp at h
 |n::ns,u::vs,0,v,nd,h1,h2=>by
  simp at h1 h2
  subst h1;subst h2
  rw[List.zip_cons_cons,List.lookup_cons];simp
 |n::ns,u::vs,j+1,v,nd,h1,h2=>by
  have h1:ns[j]? =some f:=by simpa using h1
  have h2:vs[j]? =some v:=by simpa using h2
  have hne:f≠n:=fun z=>(List.nodup_cons.mp nd).1 (by rw[<-z];exact List.mem_of_getElem? h1)
  have hb:(f == n)=false:=by simpa using hne
  rw[List.zip_cons_cons,List.lookup_cons,hb]
  exact pB (List.nodup_cons.mp nd).2 h1 h2
noncomputable section
variable{X:Cx}{G:Pg}{e a b o tg:Expr}{es:List Expr}{da db:DP}{d:DA}{dm:DM}{ds du:DS}{pos p apos cpos:Pos}{x m:Str}{k i:Nat}{ms:List Bool}
noncomputable def ot(l:List (Nat×Nat))(k:Nat)(xs:List PV):Rx PV:=match l.lookup k with|some j=>(match xs[j]? with|some w=> .ok w|none=> .bad)|none=> .bad
noncomputable def ou(l:List (Nat×Nat))(i:Nat):DP:=fun ps=>match ps[i]? with
 |some (.ino (.obj k xs))=>ot l k xs
 |some (.own (.obj k xs))=>ot l k xs
 |some (.bor (.obj k xs))=>ot l k xs
 |some (.ini k xs)=>ot l k xs
 |some (.v (.obj k xs))=>ot l k xs
 |_=> .bad
theorem qD{l:List (Nat×Nat)}{k:Nat}{xs:List PV}{w:PV}(h:ot l k xs= .ok w):∃j,l.lookup k=some j/\xs[j]? =some w:=by
 unfold ot at h
 split at h
 ·rename_i j hj
  split at h
  ·rename_i w' hw;cases h;exact⟨j,hj,hw⟩
  ·cases h
 ·cases h
theorem vo{f:Str}{l:List (Nat×Nat)}(i:Nat)(ok:bH X.K G f l)(hN:X.N[i]? =some x:=by rfl)(hv:lX X.env.scope x:=by first|exact Or.inl rfl|exact Or.inr (Or.inl rfl)|exact Or.inr (Or.inr rfl))(hd:(x == .(L))=false:=by decide)
  (hcd:(x == .(Ad))=false:=by decide) (hb:attributeBase (.Name x p) f X.env (eval (.Name x p) X.env)=eval (.Name x p) X.env:=by rfl):JP X G (.Attribute (.Name x p) f pos) (ou l i) :=
 imp (ul (aV hN hv hd hcd) hb) fun σ H Q ⟨c,ow,ps,w,R,e,q⟩=>by
  have full:∀{k:Nat} {xs:List PV} {p:Addr} {dx:Addr} {vs:List V},ot l k xs= .ok w-> σ[i]? =some (some (.ref p))->H p=some (.ins (G.cA k) dx ((G.fN k).zip vs))->aD X.K G H (av c ow) xs vs->DB X.K (Da i) f σ H Q:=fun {k xs p dx vs} h hσ hH rs=>by
   obtain⟨j,hj,hw⟩:=qD h
   obtain⟨c1,c2,c3,c4⟩:=ok.all k j hj
   obtain⟨v,hv,rv⟩:=rs.get hw
   exact⟨.ref p,hσ,p,_,dx,_,v,rfl,hH,c1,c2,pB c3 c4 hv,q v H (Same.refl H) rv⟩
  unfold ou at e
  split at e
  ·rename_i k xs hx
   obtain⟨o',eo,_,_,pp,e2,_,dx,vs,hH,hl,rs⟩:=R.get hx
   rw[e2]at eo
   exact full e eo hH rs
  ·rename_i k xs hx
   obtain⟨pp,e1,e2,dx,vs,hH,hl,rs⟩:=R.getO hx
   exact full e e2 hH rs
  ·rename_i k xs hx
   obtain⟨o',eo,_,v,e2,r⟩:=R.get hx
   rw[e2]at eo
   have rb:bK X.K G H (av c ow) (.obj k xs) v:=by
    rcases r with r|⟨y,pp,z1,z2,z3,_⟩
    ·exact .inl r
    ·exact .inr ⟨y,pp,z1,z2,z3⟩
   obtain⟨aa,dx,vs,rfl,hH,hl,rs⟩:=rb.obj
   exact full e eo hH rs
  ·rename_i k xs hx
   obtain⟨o',eo,_,_,pp,e2,_,dx,vs,hH,hl,rs⟩:=R.get hx
   rw[e2]at eo
   obtain⟨j,hj,hw⟩:=qD e
   obtain⟨c1,c2,c3,c4⟩:=ok.all k j hj
   obtain⟨v,hv,rv⟩:=rs.get hw
   have hlt:j<xs.length:=(List.getElem?_eq_some_iff.mp hw).1
   have c4':((G.fN k).take xs.length)[j]? =some f:=by rw[List.getElem?_take_of_lt hlt];exact c4
   exact⟨.ref pp,eo,pp,_,dx,_,v,rfl,hH,c1,c2,pB (c3.sublist (List.take_sublist _ _)) c4' hv,q v H (Same.refl H) rv⟩
  ·rename_i k xs hx
   obtain⟨v,ev,aa,dx,vs,rfl,hH,hl,na,rs⟩:=R.getV hx
   exact full e ev hH rs
  ·cases e
noncomputable def k6(k j:Nat)(d:DP):DS:=fun ps=>match ps[(0:Nat)]? with
 |some (.ini k' xs)=>if k'=k/\xs.length=j then(d ps).st fun w=> .nx (ps.set 0 (.ini k (xs++[w]))) else .bad
 |_=> .bad
theorem jd{f:Str}{j:Nat}(k:Nat)(cl:kO X.K (G.cA k))(na:bj X.K (G.cA k) f)(nd:(G.fN k).Nodup)(hf:(G.fN k)[j]? =some f)(hsm:(G.fN k).length<1000)(he:JP X G e da)(hN:X.N[0]? =some x:=by rfl)(hv:lX X.env.scope x:=by first|exact Or.inl rfl|exact Or.inr (Or.inl rfl)|exact Or.inr (Or.inr rfl))
  (hd:(x == .(L))=false:=by decide) (hcd:(x == .(Ad))=false:=by decide) (hs:swapsWith e (some (.Attribute (.Name x p) f apos)) pos.line X.env=pure false:=by rfl) :
  JS X G (.Assign [.Attribute (.Name x p) f apos] e pos) (k6 k j da):=eK (dL (aV hN hv hd hcd) he hs) fun D σ H ⟨c,ow,ps,R,q⟩=>by
 unfold k6 at q
 split at q
 ·rename_i k' xs hx
  split at q
  ·rename_i hk
   obtain⟨rfl,rfl⟩:=hk
   obtain⟨w,e1,q⟩:=aY q
   refine⟨c,ow,ps,w,R,e1,fun v H1 s1 r1=> ?_⟩
   have R1:=R.grow s1
   obtain⟨o',eo,z1,z2,pp,e2,el,dx,vs,hH,hl,rs⟩:=R1.get hx
   rw[e2]at eo
   have hlt:xs.length<(G.fN k').length:=(List.getElem?_eq_some_iff.mp hf).1
   have hlen:((G.fN k').take xs.length).length=vs.length:=by rw[List.length_take,<-rs.len];omega
   have hfe:(G.fN k')[xs.length]=f:=by
    have:=List.getElem?_eq_getElem hlt
    rw[this]at hf
    exact Option.some.inj hf
   have htk:(G.fN k').take (xs.length+1)=(G.fN k').take xs.length++[f]:=by rw[List.take_succ_eq_append_getElem hlt,hfe]
   have hnot:f∉(G.fN k').take xs.length:=fun z=>by
    have nd':=nd.sublist (List.take_sublist (xs.length+1) (G.fN k'))
    rw[htk]at nd'
    exact(List.nodup_append.mp nd').2.2 f z f (by simp) rfl
   have hput:=oq (v:=v) hnot hlen
   refine⟨.ref pp,eo,pp,_,dx,_,rfl,hH,cl,na,?_,?_⟩
   ·rw[List.length_zip,hlen,Nat.min_self,<-rs.len];omega
   ·have mD:Mt (HO.ins (G.cA k') dx (((G.fN k').take xs.length).zip vs)):=And.intro (fun _ z=>by cases z) (fun _ _ z=>by cases z)
    have k0:Kp X.K G H1 (av c ow) (upd H1 pp (.ins (G.cA k') dx (ck f v (((G.fN k').take xs.length).zip vs)))) (av c ow):=Kp.own (.inl (R1.lent pp el).1) hH mD
    have:=R1.chgL (s':= .ini k' (xs++[w])) (u:= .ins (G.cA k') dx (ck f v (((G.fN k').take xs.length).zip vs))) hx el hH mD fun v' hv'=>by
     rw[eo]at hv'
     cases hv'
     refine⟨z1,rfl,pp,rfl,el,dx,vs++[v],?_,?_,k0.reps (rs.snoc r1)⟩
     ·rw[au,hput,List.length_append,List.length_singleton,htk]
     ·rw[List.length_append,List.length_singleton];omega
    exact q _ _ ow this.1 ((Kp.of_same s1).trans this.2)
  ·exact q.elim
 ·exact q.elim
end
noncomputable def Ic(k:Nat)(ms:List Bool)(n:Nat)(ws:List PV):aT:= .ini k []::ol ms (n-1) ws
noncomputable def jr(k nf:Nat)(ms:List Bool)(n:Nat)(d:DS)(ws:List PV):Rx PV:=if ws.length=ms.length then(match d (Ic k ms n ws) with
 |.nx ps=>(match ps[(0:Nat)]? with|some (.ini k' fs)=>if k'=k/\fs.length=nf then .ok (.obj k fs) else .bad|_=> .bad)
 |.exc c=> .exc c
 |_=> .bad) else .bad
def vp(K:Fg)(G:Pg)(k:Nat)(ms:List Bool)(g:List PV->Rx PV):Sp:=fun vs H Q _=>∃(A:Av) (H1:Hp) (ws:List PV) (x dx:Addr) (us:List V) (fs:List PV),vs= .ref x::us/\H x=some (.ins (G.cA k) dx [])/\H1 x=none/\Same H1 H/\jn H1 A/\dz K G H1 A ms ws us/\g ws= .ok (.obj k fs) /\
 ∀H' dx' vs',Same H1 H'->H' x=some (.ins (G.cA k) dx' ((G.fN k).zip vs'))->(G.fN k).length=vs'.length->aD K G H' (fun a=>A a\/a=x) fs vs'->Q .non H'
theorem gS.keep{K:Fg}{G:Pg}{H H':Hp}{A A' B:Av}{ps:aT}{σ :L2.St}(R:gS K G B H A ps σ)(k:Kp K G H A H' A')(e:∀p,B p->H' p=H p):gS K G B H' A' ps σ :=by
 refine⟨R.len,fun i s o h1 h2=> ?_⟩
 have q:=R.slot i s o h1 h2
 cases s with
 |no=>exact True.intro
 |v w=>obtain⟨v,e,r⟩:=q;exact⟨v,e,k.rep r⟩
 |own x=>exact q.elim
 |ino x=>exact q.elim
 |ini k xs=>exact q.elim
 |dol ks xss=>exact q.elim
 |als d j=>exact q.elim
 |bor w =>
  obtain⟨v,e1,r⟩:=q
  refine⟨v,e1,?_⟩
  rcases r with r|⟨x,p,e1,e2,r,n⟩
  ·exact .inl (k.rep r)
  ·exact .inr ⟨x,p,e1,e2,r.keep k (e p n),n⟩
theorem gS.cons{K:Fg}{G:Pg}{H:Hp}{A B:Av}{ps:aT}{σ :L2.St}{s:Sl}{v:V}{x:Addr}(R:gS K G B H A ps σ)(u:jn H A)(ub:∀a,B a->H a≠none/\a≠x)(hx:A x)(hs:nY K G ⟨H,A,B,some x⟩ (ps.length+1) H (av ⟨H,A,B,some x⟩ nA) nA 0 s (some v)):aU K G ⟨H,A,B,some x⟩ H nA (s::ps) (some v::σ):=by
 refine⟨by simp[R.len],jL.of (Same.refl H),(fun p e=> ?_),u,(fun a z=>⟨(ub a z).1,fun e=>(ub a z).2 (Option.some.inj e).symm⟩),(fun i p e=>(nomatch e)),(fun i j p e=>(nomatch e)),(fun _ _ e=>(nomatch e)),fun i s' o e1 e2=> ?_⟩
 ·cases e;exact⟨hx,u x hx⟩
 ·cases i with
  |zero=>simp at e1 e2;subst e1;subst e2;exact hs
  |succ i =>
   have q:=R.slot i s' o (by simpa using e1) (by simpa using e2)
   have k:Kp K G H A H (av ⟨H,A,B,some x⟩ nA):=Kp.weak fun a z=>Ge a z
   cases s' with
   |no=>rfl
   |v w=>obtain⟨v,e,r⟩:=q;exact⟨rfl,v,e,k.rep r⟩
   |own x=>exact q.elim
   |ino x=>exact q.elim
   |ini k xs=>exact q.elim
   |dol ks xss=>exact q.elim
   |als d j=>exact q.elim
   |bor w =>
    obtain⟨v,e,r⟩:=q
    refine⟨rfl,v,e,?_⟩
    rcases r with r|⟨x,p,e1,e2,r,n⟩
    ·exact .inl (k.rep r)
    ·exact .inr ⟨x,p,e1,e2,r.keep k rfl,n⟩
theorem pC{N:List Str}{v:V}{us:List V}(h:0<N.length):L2.start N (v::us)=some v::L2.start N.tail us:=by
 unfold L2.start
 cases N with
 |nil=>simp at h
 |cons n N=>simp
theorem mL{P:Program}{w:World}{K:Fg}{mg:Str->Option Value}{base:Bs}{G:Pg}{x qual:Str}{st:Stmt}{f:Addr}{fd:FuncData}{N ps:List Str}{k c nf:Nat}{ms:List Bool}{d:DS}(F:fE K x qual st f fd)(S:am N ps (ah st))(hm:ms.length+1=ps.length)(hn:0<N.length)(hnf:(G.fN c).length=nf)
  (hb:∀(cdv:Value) (A:Around) (outer:List Env) (s:Shared) (H:Hp) (E:XK),br k (A.deeper (envOfC qual (ah st) s.heap.objs.size f cdv))->nB (iO fS P w K mg base N qual (ah st) f cdv A outer s H E).nox G (bz st) d) :
  cN P w K mg base fS (k+1) f fd ps (vp K G c ms (jr c nf ms N.length d)):=by
 refine F.ok S (fun vs H Q E h=> ?_) (fun cdv A outer s H vs Q E hr h=> ?_)
 ·obtain⟨A,H1,ws,xa,dx,us,fs,rfl,_,_,_,_,r,_⟩:=h
  rw[List.length_cons,r.len.2,hm]
 ·obtain⟨A',H1,ws,xa,dx,us,fs,rfl,hx,hx1,sm,u,r,e,q⟩:=h
  refine⟨_,hb cdv A outer s H E hr,?_⟩
  have hlen:N.tail.length=N.length-1:=List.length_tail
  have F0:=mw (N:=N.tail) r
  rw[hlen]at F0
  have nx:∀a,H1 a≠none->a≠xa:=fun a z y=>z (by rw[y];exact hx1)
  have kp:Kp K G H1 A' H (fun a=>A' a\/a=xa):=Kp.take hx1 sm fun a z=>z.symm
  have F1:gS K G (fun p=>H1 p≠none) H (fun a=>A' a\/a=xa) (ol ms (N.length-1) ws) (L2.start N.tail us):=F0.keep kp fun p hp=>by
   cases e1:H1 p with
   |none=>exact absurd e1 hp
   |some o=>exact sm _ _ e1
  have us':jn H (fun a=>A' a\/a=xa):=fun a z=>by
   rcases z with z|z
   ·cases e1:H1 a with
    |none=>exact absurd e1 (u a z)
    |some o=>rw[sm _ _ e1];simp
   ·rw[z,hx];simp
  have S0:=F1.cons (s:= .ini c []) (v:= .ref xa) (x:=xa) us' (fun a z=>⟨by
   cases e1:H1 a with
   |none=>exact absurd e1 z
   |some o=>rw[sm _ _ e1];simp,nx a z⟩) (.inr rfl) ⟨rfl,rfl,xa,rfl,rfl,dx,[],by rw[hx];rfl,Nat.zero_le _,rfl⟩
  rw[pC hn]
  refine⟨_,nA,Ic c ms N.length ws,S0,?_⟩
  unfold jr at e
  rw[if_pos r.len.1]at e
  cases ed:d (Ic c ms N.length ws) with
  |nx ps' =>
   rw[ed]at e
   have e:(match ps'[(0:Nat)]? with|some (.ini k' fs)=>if k'=c/\fs.length=nf then Rx.ok (PV.obj c fs) else .bad|_=> .bad)= .ok (.obj c fs):=e
   split at e
   ·rename_i k' fs' hp0
    split at e
    ·rename_i hk
     cases e
     obtain⟨rfl,hfl⟩:=hk
     intro σ' H' ow' R' _
     obtain⟨o',eo,z1,z2,pp,e2,el,dx',vs',hH,hl,rs⟩:=R'.get hp0
     cases el
     refine q H' dx' vs' (fun a o h=> ?_) ?_ ?_ ((Kp.weak fun a z=>Or.inl z).reps rs)
     ·exact R'.same a o (sm _ _ h) (fun z=>nx a (by rw[h];simp) (Option.some.inj z).symm)
     ·rw[hH,List.take_of_length_le (by rw[hfl,hnf];exact Nat.le_refl _)]
     ·rw[hnf,<-hfl,rs.len]
    ·cases e
   ·cases e
  |ret w2=>rw[ed]at e;cases e
  |retn xs=>rw[ed]at e;cases e
  |reti w x=>rw[ed]at e;cases e
  |brk _=>rw[ed]at e;cases e
  |cnt _=>rw[ed]at e;cases e
  |bad=>rw[ed]at e;cases e
  |exc _=>rw[ed]at e;cases e
structure sy(P:Program)(w:World)(K:Fg)(mg:Str->Option Value)(base:Bs)(G:Pg)(k:Nat)(x:Str)(c:Nat)(ms:List Bool)(g:List PV->Rx PV):Prop where
 glob:mg x=some (.ref (G.cA c))
 cl:kO K (G.cA c)
 ex:∃(f:Addr) (fd:FuncData) (ps:List Str),Mk K (G.cA c) f/\cN P w K mg base fS k f fd ps (vp K G c ms g)/\bw K fd ps []
noncomputable section
variable{X:Cx}{G:Pg}{e a b o tg:Expr}{es:List Expr}{da db:DP}{d:DA}{pos p:Pos}{x:Str}{k i c:Nat}{ms:List Bool}{g:List PV->Rx PV}
theorem yF{t:TA}(h:sy X.prog X.w X.K X.mg X.base G k x c ms g)(hr:br (k+1) X.A)(hg:Gl X x)(ha:PA X (e::es) t)(hdb:(x == .(L))=false:=by decide)
  (he:starEach (e::es) X.env=.(U)::starEach es X.env:=by rfl) (hpl:.(W).any (·.1)=false:=by rfl):PE X .(As) (zp (G.cA c) (vp X.K G c ms g) [] E0 t):=by
 obtain⟨f,fd,ps,M,F,hb⟩:=h.ex
 exact xR M F hr hg h.glob hb .nil kX ha hdb he hpl
theorem yG{H:Hp}{Q:VK}{cf:Fr}{ow:gJ}{ps:aT}{σ :L2.St}{ws:List PV}{vs:List V}{fs:List PV}(R:aU X.K G cf H ow ps σ)(r:dz X.K G H (av cf ow) ms ws vs)(e:g ws= .ok (.obj c fs))
  (q:∀x dx us H',Same H H'->H x=none->H' x=some (.ins (G.cA c) dx ((G.fN c).zip us))->(G.fN c).length=us.length->aD X.K G H' (fun a=>av cf ow a\/a=x) fs us->Q (.ref x) H') :
  ∀x dx,H x=none->H dx=none->dx≠x->vp X.K G c ms g (.ref x::(vs++[])) (upd (upd H dx (.own x)) x (.ins (G.cA c) dx [])) (fun v H2=>v= .non/\Q (.ref x) H2) E0:=by
 intro x dx n1 n2 ne
 have sn:Same H (upd (upd H dx (.own x)) x (.ins (G.cA c) dx [])):=fun b o h=>by rw[aq (aO h n1),aq (aO h n2)];exact h
 exact⟨av cf ow,H,ws,x,dx,vs,fs,by rw[List.append_nil],au,n1,sn,R.used,r,e,fun H' dx' vs' s h1 h2 h3=>⟨rfl,q x dx' vs' H' s n1 h1 h2 h3⟩⟩
theorem fu(h:sy X.prog X.w X.K X.mg X.base G k x c ms g)(hr:br (k+1) X.A)(hg:Gl X x)(ha:JA X G ms (e::es) d)(hobj:∀ws w,g ws= .ok w->∃fs,w= .obj c fs)(hdb:(x == .(L))=false:=by decide)
  (he:starEach (e::es) X.env=.(U)::starEach es X.env:=by rfl) (hpl:.(W).any (·.1)=false:=by rfl):JP X G .(As) (dCall g d) :=
 imp (yF h hr hg ha hdb he hpl) fun σ H Q ⟨cf,ow,ps,w,R,e,q⟩=>by
  obtain⟨ws,e1,e2⟩:=ai e
  obtain⟨fs,rfl⟩:=hobj ws w e2
  refine⟨cf,ow,ps,ws,R,e1,fun vs H' s r=> ?_⟩
  refine yG (R.grow s) r e2 fun xx dx us H2 s2 n1 h1 h2 h3=> ?_
  exact q _ H2 (s.trans s2) ⟨xx,dx,us,rfl,h1,h2,fun z=>(R.grow s).used xx z n1,(Kp.weak fun a z=>Or.inl z).reps h3⟩
theorem iy{k nf n:Nat}{ms:List Bool}{d:DS}{ws:List PV}{w:PV}(h:jr k nf ms n d ws= .ok w):∃fs,w= .obj k fs:=by
 unfold jr at h
 split at h
 ·split at h
  ·split at h
   ·split at h
    ·cases h;exact⟨_,rfl⟩
    ·cases h
   ·cases h
  ·cases h
  ·cases h
 ·cases h
theorem gu{P:Program}{w:World}{K:Fg}{mg:Str->Option Value}{base:Bs}{n:Nat}{f:Addr}{fd:FuncData}{ps:List Str}{g:List PV->Rx PV}(h:∀ws,g ws= .bad):cN P w K mg base fS n f fd ps (vp K G c ms g) :=
 qk fun vs H Q E ⟨A,H1,ws,x,dx,us,fs,_,_,_,_,_,_,e,_⟩=>by rw[h]at e;cases e
variable(ps:aT)
@[simp]theorem Kj(k j:Nat):k6 k j da ps=match ps[(0:Nat)]? with
 |some (.ini k' xs)=>if k'=k/\xs.length=j then(da ps).st fun w=> .nx (ps.set 0 (.ini k (xs++[w]))) else .bad
 |_=> .bad:=rfl
@[simp]theorem Id(l:List (Nat×Nat))(i:Nat):ou l i ps=match ps[i]? with
 |some (.ino (.obj k xs))=>aW l (.obj k xs)
 |some (.own (.obj k xs))=>aW l (.obj k xs)
 |some (.bor (.obj k xs))=>aW l (.obj k xs)
 |some (.ini k xs)=>aW l (.obj k xs)
 |some (.v (.obj k xs))=>aW l (.obj k xs)
 |_=> .bad:=rfl
end
end DN
end
noncomputable section
namespace DN
open PySem PySem.Spec PyProof.Rows L2
noncomputable section
variable{K:Fg}{G:Pg}{H H':Hp}{A A':Av}{c:Fr}{ow:gJ}{ps:aT}{σ :L2.St}
end
noncomputable section
variable{X:Cx}{G:Pg}{e a b o tg:Expr}{es:List Expr}{da db:DP}{d:DA}{dm:DM}{dma:pf}{ds du:DS}{dt:DT}{pos p apos cpos:Pos}{x m:Str}{k i:Nat}{ms:List Bool}
end
end DN
end
noncomputable section
namespace DN
open PySem PySem.Spec PyProof.Rows L2
noncomputable section
variable{X:Cx}{G:Pg}{e a b o tg:Expr}{es:List Expr}{da db:DP}{d:DA}{dm:DM}{dma:pf}{ds du:DS}{dt:DT}{pos p apos cpos:Pos}{x m:Str}{k i:Nat}{ms:List Bool}
abbrev pD:=aT->Rx (Bool×aT)
def KP(K:Fg)(G:Pg)(d:pD):TT:=fun σ H Q=>∃(c:Fr) (ow:gJ) (ps:aT) (b:Bool) (ps':aT),aU K G c H ow ps σ /\d ps= .ok (b,ps')/\ ∀H' ow',aU K G c H' ow' ps' σ ->Kp K G H (av c ow) H' (av c ow')->Q b H'
abbrev Kk(X:Cx)(G:Pg)(e:Expr)(d:pD):Prop:=PT X e (KP X.K G d)
noncomputable def KQ(d:DM):pD:=fun ps=>(d ps).bind fun r=>match r.1 with | .bl b=> .ok (b,r.2)|_=> .bad
noncomputable def dS(d:DT):pD:=fun ps=>(d ps).bind fun b=> .ok (b,ps)
theorem ox(h:JT X G e dt):Kk X G e (dS dt):=ph h fun σ H Q ⟨c,ow,ps,b,ps',R,e,q⟩=>by
 obtain⟨b',e1,e2⟩:=ai e
 cases e2
 exact⟨c,ow,ps,b,R,e1,fun H' s=>q H' ow (R.grow s) (Kp.of_same s)⟩
noncomputable def Ie(d:pD):pD:=fun ps=>(d ps).bind fun r=> .ok (!r.1,r.2)
noncomputable def KR(t u:pD):pD:=fun ps=>(t ps).bind fun r=>if r.1=true then .ok (true,r.2) else u r.2
noncomputable def Ig(t u:pD):pD:=fun ps=>(t ps).bind fun r=>if r.1=true then u r.2 else .ok (false,r.2)
noncomputable def Ih(t:pD)(a b:DS):DS:=fun ps=>(t ps).st fun r=>if r.1=true then a r.2 else b r.2
noncomputable def bP(t:pD)(body:DS):Nat->aT->Option Rs
 |0,_=>none
 |n+1,ps=>match t ps with
  |.ok (true,ps1)=>(match body ps1 with
   |.nx ps2=>bP t body n ps2
   |.cnt ps2=>bP t body n ps2
   |.brk ps2=>some (.nx ps2)
   |r=>some r)
  |.ok (false,ps1)=>some (.nx ps1)
  |.bad=>some .bad
  |.exc c=>some (.exc c)
def en(t:pD)(body:DS):DS:=fun ps=>(bP t body 100000 ps).getD .bad
theorem gc{ce:Expr}{body:List Stmt}{d1:pD}(hp:PassesOwn .(E) X.A X.env X.xe)(hc:Kk X G ce d1)(hb:nB X G body ds):JS X G (.While ce body [] pos) (en d1 ds):=eK (u9 hp hc hb) fun D σ H ⟨c,ow,ps,R,q⟩=>by
 unfold en at q
 generalize (100000:Nat)=n at q
 cases h:bP d1 ds n ps with
 |none=>rw[h]at q;exact q.elim
 |some r =>
  rw[h]at q
  have q:cR X.K G c H (av c ow) D r:=q
  refine⟨fun m σ' H'=>∃ow' ps',aU X.K G c H' ow' ps' σ'/\bP d1 ds m ps'=some r/\cR X.K G c H' (av c ow') D r,⟨n,ow,ps,R,h,q⟩,?_⟩
  rintro m σ' H' ⟨ow',ps',R',h',q'⟩
  cases m with
  |zero=>cases h'
  |succ m =>
   rw[bP]at h'
   cases e:d1 ps' with
   |bad=>rw[e]at h';cases h';exact q'.elim
   |exc c=>rw[e]at h';cases h';exact q'.elim
   |ok r1 =>
    obtain⟨b,p1⟩:=r1
    rw[e]at h'
    refine⟨c,ow',ps',b,p1,R',e,fun H2 ow2 R2 k2=> ?_⟩
    cases b with
    |false =>
     cases h'
     exact ma (q' σ' H2 ow2 R2 k2)
    |true =>
     refine iteT ⟨_,fun _ _ h=>h,c,ow2,p1,R2,?_⟩
     have q2:=q'.mono k2
     cases eb:ds p1 with
     |nx ps2 =>
      have h':bP d1 ds m ps2=some r:=by simpa only[eb]using h'
      exact fun σ4 H4 ow4 R4 k4=>⟨m,Nat.lt_succ_self m,ow4,ps2,R4,h',q2.mono k4⟩
     |cnt ps2 =>
      have h':bP d1 ds m ps2=some r:=by simpa only[eb]using h'
      exact fun σ4 H4 ow4 R4 k4=>⟨m,Nat.lt_succ_self m,ow4,ps2,R4,h',q2.mono k4⟩
     |brk ps2=>simp only[eb]at h';cases h';exact q2
     |ret w=>simp only[eb]at h';cases h';exact q2
     |retn xs=>simp only[eb]at h';cases h';exact q2
     |reti w x=>simp only[eb]at h';cases h';exact q2
     |bad=>simp only[eb]at h';cases h';exact q2
     |exc c=>simp only[eb]at h';cases h';exact q2
noncomputable def Ii(c n:Nat)(d:pf):DM:=fun ps=>(d ps).bind fun r=>if r.1.length=n then .ok (.obj c r.1,r.2) else .bad
end
end DN
end
noncomputable section
namespace DN
open PySem PySem.Spec PyProof.Rows L2
noncomputable section
open PySem.StrLaws PySem.Builtin PySem.Builtin.Str
end
noncomputable section
variable{X:Cx}{G:Pg}{e a b o tg:Expr}{es:List Expr}{da db:DP}{d:DA}{pos p apos cpos:Pos}{x m:Str}{k i:Nat}{ms:List Bool}
end
noncomputable section
variable{P:Program}{w:World}{K:Fg}{mg:Str->Option Value}{base:Bs}{G:Pg}{n:Nat}{m:Str}{ms:List Bool}
end
end DN
end
noncomputable section
namespace DN
open PySem PySem.Spec PyProof.Rows L2
@[simp]theorem Ij(xs:List PV):(Ow.lst xs).pv= .lst xs:=rfl
@[simp]theorem Gr(k:Nat)(xs:List PV):(Ow.obj k xs).pv= .obj k xs:=rfl
@[simp]theorem Ik(ks:List Key)(xs:List PV):(Ow.dic ks xs).pv= .dic ks xs:=rfl
end DN
end
noncomputable section
namespace DN
open PySem PySem.Spec PyProof.Rows L2
def EU(K:Fg)(G:Pg)(np:Nat)(g:List PV->Rx PV):CH:=fun vs cv H Q _=>∃A ws cw w,jn H A/\dz K G H A (List.replicate np false) ws vs/\aD K G H A cw cv/\g (ws++cw)= .ok w/\ ∀v H',Same H H'->cU K G H' A w v->Q v H'
noncomputable section
variable{P:Program}{w:World}{K:Fg}{mg:Str->Option Value}{base:Bs}{G:Pg}{H:Hp}{A:Av}
theorem dz.more{cw:List PV}{cv:List V}:∀{n:Nat} {ws:List PV} {vs:List V},dz K G H A (List.replicate n false) ws vs->aD K G H A cw cv->dz K G H A (List.replicate (n+cw.length) false) (ws++cw) (vs++cv)
 |0,ws,vs,h,r=>by
  obtain⟨rfl,rfl⟩:=h
  rw[Nat.zero_add]
  exact go r
 |n+1,ws,vs,h,r=>by
  obtain⟨w,wr,v,vr,rfl,rfl,r1,rr⟩:=h
  rw[Nat.add_right_comm]
  exact⟨w,wr++cw,v,vr++cv,rfl,rfl,r1,dz.more rr r⟩
where go:∀{cw:List PV} {cv:List V},aD K G H A cw cv->dz K G H A (List.replicate cw.length false) cw cv
 |[],cv,h=>⟨rfl,h⟩
 |w::cw,cv,h=>by
  obtain⟨v,r,rfl,r1,r2⟩:=h
  exact⟨w,cw,v,r,rfl,rfl,by rw[if_neg Bool.false_ne_true];exact r1,go r2⟩
theorem Bj{n:jw}{body:List Stmt}{N ps:List Str}{k np:Nat}{d:DS}(hb:n.body= .stmts body)(S:ml N ps n.free n.scope)(hm:np=ps.length)
  (hbind:∀(nm qual:Str) (cl:List (Str×Addr)) (doc pm cdv ct:Value) (us:List Value),us.length=ps.length->bindArgs (E1 n nm qual cl doc pm cdv ct) ⟨us,[]⟩=pure (ps.zip us))
  (hj:∀(qual:Str) (cd:Value) (cl:List (Str×Addr)) (f:Addr) (A:Around) (outer:List Env) (s:Shared) (H:Hp) (E:XK),br k (A.deeper (PySem.W.envX qual n.scope s.heap.objs.size f cd cl))->nB (E2 fS P w K mg base N qual n.scope f cd cl A outer s H E).nox G body d) :
  pd P w K mg base fS (k+1) n (EU K G np (aH (List.replicate (np+n.free.length) false) N.length d)):=by
 refine AV hb S (fun vs cv H Q E ⟨A,ws,cw,w,u,r,_⟩=>by rw[r.len.2,List.length_replicate,hm]) hbind (fun qual cd cl f A outer s H vs cv Q E hr hce h=> ?_)
 obtain⟨A',ws,cw,w',u,r,rc,e,q⟩:=h
 refine⟨_,(hj qual cd cl f A outer s H E hr).nox,?_⟩
 have hl:n.free.length=cw.length:=by rw[hce.len];exact rc.len.symm
 have r2:=r.more rc
 have F0:=mw (N:=N) r2
 have S0:=F0.toS u fun a z=>z
 refine⟨_,nA,ol (List.replicate (np+cw.length) false) N.length (ws++cw),S0,?_⟩
 unfold aH at e
 rw[hl,if_pos r2.len.1]at e
 cases ed:d (ol (List.replicate (np+cw.length) false) N.length (ws++cw)) with
 |nx ps'=>rw[ed]at e;cases e;exact fun σ' H' ow' R' _=>q .non H' (R'.same.same rfl) rfl
 |ret w2=>rw[ed]at e;cases e;exact fun v H' s r=>q v H' (s.same rfl) r
 |reti w x=>rw[ed]at e;cases e
 |retn xs=>rw[ed]at e;cases e;exact fun p vs H' s hp hv r=>q (.ref p) H' (s.same rfl) ⟨p,vs,rfl,.inl ⟨hv,fun z=>u p z hp⟩,(Kp.weak fun a z=>Or.inl z).reps r⟩
 |brk _=>rw[ed]at e;cases e
 |cnt _=>rw[ed]at e;cases e
 |bad=>rw[ed]at e;cases e
 |exc _=>rw[ed]at e;cases e
theorem vq{n:jw}{k np:Nat}{g:List PV->Rx PV}(h:∀ws,g ws= .bad):pd P w K mg base fS k n (EU K G np g) :=
 ⟨fun A outer s H q cl us vs cv Q E _ _ _ _ _ ⟨_,ws,cw,w,_,_,_,e,_⟩=>by rw[h]at e;cases e⟩
structure ls(P:Program)(w:World)(K:Fg)(mg:Str->Option Value)(base:Bs)(G:Pg)(k:Nat)(tab:List (Nat×Nat))(g:Nat->List PV->Rx PV):Prop where
 all:∀f np,tab.lookup f=some np->pd P w K mg base fS k (G.nF f) (EU K G np (g f))
theorem vt{k:Nat}{g:Nat->List PV->Rx PV}:ls P w K mg base G k [] g:=⟨fun f np h=>by simp at h⟩
theorem qE{k f np:Nat}{tab:List (Nat×Nat)}{g:Nat->List PV->Rx PV}(h:pd P w K mg base fS k (G.nF f) (EU K G np (g f)))(r:ls P w K mg base G k tab g):ls P w K mg base G k ((f,np)::tab) g :=
 ⟨fun f' np' e=>by
  rcases cn e with⟨rfl,rfl⟩|e
  ·exact h
  ·exact r.all f' np' e⟩
end
noncomputable section
variable{X:Cx}{G:Pg}{e a b o:Expr}{es:List Expr}{da db:DP}{d:DA}{ds:DS}{pos p apos:Pos}{x m:Str}{k i:Nat}{ms:List Bool}{tab:List (Nat×Nat)}{g:Nat->List PV->Rx PV}
noncomputable def mM(tab:List (Nat×Nat))(g:Nat->List PV->Rx PV)(x:PV)(m:Rx (List PV)):Rx PV:=match x with
 |.clo f cw=>(match tab.lookup f with|some np=>m.bind fun ws=>if ws.length=np then g f (ws++cw) else .bad|none=> .bad)
 |_=> .bad
theorem yH{x:PV}{m:Rx (List PV)}{w:PV}(h:mM tab g x m= .ok w):∃f cw np ws,x= .clo f cw/\tab.lookup f=some np/\m= .ok ws/\ws.length=np/\g f (ws++cw)= .ok w:=by
 unfold mM at h
 split at h
 ·rename_i f cw
  split at h
  ·rename_i np hnp
   obtain⟨ws,e1,h⟩:=ai h
   split at h
   ·rename_i hl;exact⟨f,cw,np,ws,rfl,hnp,e1,hl,h⟩
   ·cases h
  ·cases h
 ·cases h
theorem lu{K:Fg}{H:Hp}{A:Av}:∀{ms:List Bool} {ws:List PV} {vs:List V},ms.all (! ·)=true->dz K G H A ms ws vs->dz K G H A (List.replicate ws.length false) ws vs
 |[],ws,vs,_,h=>by obtain⟨rfl,rfl⟩:=h;exact⟨rfl,rfl⟩
 |m::ms,ws,vs,hm,h=>by
  obtain⟨w,wr,v,vr,rfl,rfl,r,rr⟩:=h
  rw[List.all_cons,Bool.and_eq_true]at hm
  cases m with
  |true=>simp at hm
  |false=>exact⟨w,wr,v,vr,rfl,rfl,r,lu hm.2 rr⟩
theorem vv(h:ls X.prog X.w X.K X.mg X.base G k tab g)(hms:ms.all (! ·)=true){c:Fr}{ow:gJ}{ps:aT}{σ :L2.St}{H H1:Hp}{Q:VK}{y w:PV}{u:V}(R:aU X.K G c H ow ps σ)(s1:Same H H1)(ry:cU X.K G H1 (av c ow) y u)
  (e:mM tab g y (d ps)= .ok w) (q:∀v H',Same H H'->cU X.K G H' (av c ow) w v->Q v H') :
  uH (ι :={ q:Nat×Nat // tab.lookup q.1=some q.2 }) (fun i=>G.nF i.1.1) (fun i=>EU X.K G i.1.2 (g i.1.1)) E0 (G9 X.K G ms d) σ H1 u Q:=by
 obtain⟨f,cw,np,ws,rfl,ht,e1,hl,e2⟩:=yH e
 obtain⟨qa,cl,cv,rfl,hc,hce,rc⟩:=ry
 refine⟨⟨(f,np),ht⟩,qa,cl,cv,rfl,hc,c,ow,ps,ws,R.grow s1,e1,fun vs H2 s2 r=>⟨hc.keep fun a o u z=>s2 _ _ z,hce.keep fun a o u z=>s2 _ _ z,_,ws,cw,w,(R.grow (s1.trans s2)).used,?_,rc.same s2,e2,fun v H' s r2=>q v H' ((s1.trans s2).trans s) r2⟩⟩
 have:=lu hms r
 rw[hl]at this
 exact this
noncomputable def Bk(tab:List (Nat×Nat))(g:Nat->List PV->Rx PV)(a:DP)(d:DA):DP:=fun ps=>(a ps).bind fun y=>mM tab g y (d ps)
noncomputable def gd(tab:List (Nat×Nat))(g:Nat->List PV->Rx PV)(l:List (Nat×Nat))(a:DP)(d:DA):DP:=fun ps=>(a ps).bind fun x=>(aW l x).bind fun y=>mM tab g y (d ps)
theorem mN{l:List (Nat×Nat)}{pl:Sem Bool}(ok:bH X.K G m l)(ho:JP X G o da)(h:ls X.prog X.w X.K X.mg X.base G k tab g)(hr:br k X.A)(ha:JA X G ms (e::es) d)(hms:ms.all (! ·)=true:=by rfl)
  (hst:starEach (e::es) X.env=.(U)::starEach es X.env:=by rfl) (hpl:.(W).any (·.1)=false:=by rfl)
  (ht:eval .(AD) X.env=(do
   let ov <- eval o X.env
   standAt apos.atName
   let (f,first) <- holding [ov] (getMethod ov m pl)
   callWith pos f first (backTo pos (starEach (e::es) X.env)) (backToKw pos (keywordEach [] X.env))):=by rfl) :
  JP X G .(AD) (gd tab g l da d) :=
 imp (uI (ι :={ q:Nat×Nat // tab.lookup q.1=some q.2 }) (E:=E0) (pl:=pl) ho (fun i=>h.all i.1.1 i.1.2 i.2) hr kX ha hst hpl ht) fun σ H Q ⟨c,ow,ps,w,R,e,q⟩=>by
  obtain⟨y,e1,e2⟩:=ai e
  obtain⟨z,e2,e3⟩:=ai e2
  refine⟨c,ow,ps,y,R,e1,fun u H1 s1 ry=> ?_⟩
  unfold aW at e2
  split at e2
  ·rename_i kk xs _
   split at e2
   ·rename_i j hj
    split at e2
    ·rename_i w' hw
     cases e2
     obtain⟨a,dx,vs,rfl,hH,hl,na,rs⟩:=ry
     obtain⟨c1,c2,c3,c4⟩:=ok.all kk j hj
     obtain⟨v,hv,rv⟩:=rs.get hw
     exact⟨a,_,dx,_,v,rfl,hH,c1,c2,gR c3 c4 hv,vv h hms R s1 rv e3 q⟩
    ·cases e2
   ·cases e2
  ·cases e2
noncomputable def jt(js:List Nat)(ps:aT):Rx (List PV):=match js with
 |[]=> .ok []
 |j::js=>match ps[j]? with
  |some (.v w)=>(jt js ps).bind fun ws=> .ok (w::ws)
  |_=> .bad
theorem qF{K:Fg}{c:Fr}{H:Hp}{ow:gJ}{ps:aT}{σ :L2.St}(R:aU K G c H ow ps σ):∀{js:List Nat} {ws:List PV},jt js ps= .ok ws->∃cv,AW σ js cv/\aD K G H (av c ow) ws cv
 |[],ws,h=>by cases h;exact⟨[],⟨rfl,fun i j v e=>by simp at e⟩,rfl⟩
 |j::js,ws,h=>by
  unfold jt at h
  split at h
  ·rename_i w hw
   obtain⟨us,e1,e2⟩:=ai h
   cases e2
   obtain⟨v,e3,r⟩:=R.getV hw
   obtain⟨cv,⟨l,hh⟩,rs⟩:=qF R e1
   refine⟨v::cv,⟨by simp[l],fun i j' v' a1 a2=> ?_⟩,v,cv,rfl,r,rs⟩
   cases i with
   |zero=>simp at a1 a2;subst a1 a2;exact e3
   |succ i=>exact hh i j' v' (by simpa using a1) (by simpa using a2)
  ·cases h
theorem EV{f:Nat}{js:List Nat}{ps:aT}{c:Fr}{ow:gJ}{σ :L2.St}{H:Hp}{Q:VK}{ws:List PV}(R:aU X.K G c H ow ps σ)(e:jt js ps= .ok ws)(q:∀v H',Same H H'->cU X.K G H' (av c ow) (.clo f ws) v->Q v H'):JJ (G.nF f) js σ H Q:=by
 obtain⟨cv,hh,rs⟩:=qF R e
 exact⟨cv,hh,fun qa cl H' s hn hc hce=>q _ H' s ⟨qa,cl,cv,rfl,hc,hce,rs.same s⟩⟩
def Il(f:Nat)(js:List Nat):DP:=fun ps=>(jt js ps).bind fun ws=> .ok (.clo f ws)
noncomputable def Bl(i f:Nat)(js:List Nat):DS:=fun ps=>(jt js ps).st fun ws=> .nx (ps.set i (.v (.clo f ws)))
theorem EW{c P:Addr}{name:Str}{params:Arguments}{body:List Stmt}{scope:Scope}{fr:List Str}{js:List Nat}(f:Nat)(hn:G.nF f=⟨params,.stmts body,scope,fr⟩)(mk:E3 X c P)(T:l7 X ⟨params,.stmts body,scope,fr⟩ js)(hN:X.N.Nodup)(hi:X.N[i]? =some name)(hx:nw X.env.scope name)
  (hd0:params.defaults=[]:=by rfl) (hk0:params.kw_defaults=[]:=by rfl) (ha:annTrees params none X.env=[]:=by rfl) (hf:X.fn name=true\/X.env.scope.names.lookup name=some .local:=by first|exact .inl rfl|exact .inr rfl|assumption) :
  JS X G (.FunctionDef name params body [] none [] scope none name pos) (Bl i f js):=eK (AY mk T hN hi hx hd0 hk0 ha hf) fun D σ H ⟨c,ow,ps,R,q⟩=>by
 obtain⟨ws,e1,q⟩:=aY q
 rw[<-hn]
 exact EV R e1 fun v H' s r=>q _ _ _ ((R.grow s).setV r) ((Kp.of_same s).trans (Kp.weak fX))
def qG(d:DS):DS:=fun ps=>match d ps with | .ret w=> .ret w | .exc c=> .exc c|_=> .bad
abbrev zJ(X:Cx)(S:List Str):Cx:={ X with fn:=fun x=>X.fn x && !S.contains x }
theorem yI{ss:List Stmt}(S:List Str)(h:nB (zJ X S) G ss ds):nB X G ss (qG ds):=fun pins s σ H D I ⟨c,ow,ps,R,q⟩=>by
 have I':aA (zJ X S) pins σ H s:=⟨⟨I.ok.mod,I.ok.kind,I.ok.glob,I.ok.blt,I.ok.above,I.ok.inj,I.ok.has,I.ok.cab,I.ok.hd,I.ok.frames,I.ok.stk,I.ok.exf,I.ok.bs,I.ok.bsz,I.ok.noex,I.ok.exfs,I.ok.funs,I.ok.frf,I.ok.tab,fun x z=>I.ok.fc x (by
  have z:(X.fn x && !S.contains x)=true:=z
  rw[Bool.and_eq_true]at z;exact z.1)⟩,I.os,I.bare,I.base,I.loc,I.cell,I.free,fun x c e=>(I.freeC x c e).imp id fun⟨z,r⟩=>⟨by show(X.fn x && !S.contains x)=false;rw[z];rfl,r⟩,I.pin,I.hok,I.len⟩
 have key:=h pins s σ H { nx:=fun _ _=>False,rt:=D.rt,bk:=fun _ _=>False,ct:=fun _ _=>False } I' ⟨c,ow,ps,R,by
  unfold qG at q
  cases e:ds ps with
  |ret w=>rw[e]at q;exact q
  |nx _=>rw[e]at q;exact q.elim
  |retn _=>rw[e]at q;exact q.elim
  |reti _ _=>rw[e]at q;exact q.elim
  |brk _=>rw[e]at q;exact q.elim
  |cnt _=>rw[e]at q;exact q.elim
  |bad=>rw[e]at q;exact q.elim
  |exc _=>rw[e]at q;exact q⟩
 refine wpAny_mono key (fun f s1 hf=> ?_) fun e s1 z=>z
 cases f with
 |next=>obtain⟨_,_,_,z⟩:=hf;exact z.elim
 |brk=>obtain⟨_,_,_,z⟩:=hf;exact z.elim
 |cont=>obtain⟨_,_,_,z⟩:=hf;exact z.elim
 |ret u=>obtain⟨v,H',J,r,z⟩:=hf;exact⟨v,H',⟨J.os,J.bare,J.base,J.hok⟩,r,z⟩
theorem vw{n:jw}{js:List Nat}(hl:n.free.length=js.length)(h:((n.free.zip js).all fun q=>(match X.N[q.2]? with|some y=>y == q.1|none=>false) && (match X.env.kindOf q.1 with|some k=>k == .cell|none=>false) && !X.fn q.1 && X.cw q.1 && n.scope.names.contains (q.1,NameKind.free))=true)
  (ha:(n.scope.names.all fun y=>y.2 != .free || n.free.contains y.1)=true):l7 X n js:=by
 refine⟨hl,fun i x j e1 e2=> ?_,fun y hy hk=> ?_⟩
 ·have hm:(x,j)∈n.free.zip js:=List.mem_of_getElem? (i:=i) (by rw[List.getElem?_zip_eq_some];exact⟨e1,e2⟩)
  have:=List.all_eq_true.mp h _ hm
  simp only[Bool.and_eq_true]at this
  obtain⟨⟨⟨⟨a1,a2⟩,a3⟩,a4⟩,a5⟩:=this
  refine⟨?_,?_,by simpa using a3,a4,by simpa using a5⟩
  ·split at a1
   ·rename_i y hy
    have:y=x:=by simpa using a1
    rw[hy,this]
   ·cases a1
  ·split at a2
   ·rename_i k hk
    have:k= .cell:=by simpa using a2
    rw[hk,this]
   ·cases a2
 ·have:=List.all_eq_true.mp ha y hy
  rw[hk]at this
  simpa using this
end
structure Bm(K:Fg)(fd:FuncData)(c P:Addr)(ts:List Addr):Prop where
 code:fd.code= .ref c
 hd:PySem.W.codeHdIn K c P=true
 tab:P∈ts
noncomputable section
variable{P:Program}{w:World}{K:Fg}{mg:Str->Option Value}{base:Bs}{G:Pg}
theorem Bn{x qual:Str}{st:Stmt}{f:Addr}{fd:FuncData}{N ps:List Str}{k:Nat}{ms:List Bool}{d:DS}{c Pt:Addr}(F:fE K x qual st f fd)(FT:Bm K fd c Pt base.tabs)(S:am N ps (ah st))(hm:ms.length=ps.length)
  (hb:∀(A:Around) (outer:List Env) (s:Shared) (H:Hp) (E:XK),br k (A.deeper (envOfC qual (ah st) s.heap.objs.size f (.ref c)))->E3 (iO fS P w K mg base N qual (ah st) f (.ref c) A outer s H E).nox c Pt->nB (iO fS P w K mg base N qual (ah st) f (.ref c) A outer s H E).nox G (bz st) d) :
  cN P w K mg base fS (k+1) f fd ps (tX K G ms (aH ms N.length d)):=by
 obtain⟨oc,od,kV,doc,pm,an,cdv,ct,osl,rfl,lk,hcd⟩:=F.ex
 obtain rfl:cdv=Value.ref c:=FT.code
 have F':fE K x qual st f (PySem.W.fnOf x qual (dZ st) (bz st) (ah st) .none kV doc pm an (.ref c) ct):=F
 refine zq lk hcd S (fun vs H Q E h=> ?_) (fun A outer s H vs Q E hr h=> ?_)
 ·obtain⟨A,ws,w,u,r,_⟩:=h
  rw[r.len.2,hm]
 ·obtain⟨A',ws,w',u,r,e,q⟩:=h
  refine⟨_,(hb A outer s H E hr ⟨rfl,FT.hd,FT.tab⟩).nox,?_⟩
  have F0:=mw (N:=N) r
  have S0:=F0.toS u fun a z=>z
  refine⟨_,nA,ol ms N.length ws,S0,?_⟩
  unfold aH at e
  rw[if_pos r.len.1]at e
  cases ed:d (ol ms N.length ws) with
  |nx ps'=>rw[ed]at e;cases e;exact fun σ' H' ow' R' _=>q .non H' (R'.same.same rfl) rfl
  |ret w2=>rw[ed]at e;cases e;exact fun v H' s r=>q v H' (s.same rfl) r
  |reti w x=>rw[ed]at e;cases e
  |retn xs=>rw[ed]at e;cases e;exact fun p vs H' s hp hv r=>q (.ref p) H' (s.same rfl) ⟨p,vs,rfl,.inl ⟨hv,fun z=>u p z hp⟩,(Kp.weak fun a z=>Or.inl z).reps r⟩
  |brk _=>rw[ed]at e;cases e
  |cnt _=>rw[ed]at e;cases e
  |bad=>rw[ed]at e;cases e
  |exc _=>rw[ed]at e;cases e
end
noncomputable section
variable(ps:aT)(a:DP)(d:DA)(tab l:List (Nat×Nat))(g:Nat->List PV->Rx PV)
@[simp]theorem Gs:Bk tab g a d ps=(a ps).bind fun y=>mM tab g y (d ps):=rfl
@[simp]theorem Gu:gd tab g l a d ps=(a ps).bind fun x=>(aW l x).bind fun y=>mM tab g y (d ps):=rfl
@[simp]theorem Kl(f:Nat)(js:List Nat):Il f js ps=(jt js ps).bind fun ws=> .ok (.clo f ws):=rfl
@[simp]theorem Km(i f:Nat)(js:List Nat):Bl i f js ps=(jt js ps).st fun ws=> .nx (ps.set i (.v (.clo f ws))):=rfl
@[simp]theorem Im(s:DS):qG s ps=match s ps with | .ret w=> .ret w | .exc c=> .exc c|_=> .bad:=rfl
@[simp]theorem EX:jt [] ps= .ok []:=rfl
@[simp]theorem CO(j:Nat)(js:List Nat):jt (j::js) ps=match ps[j]? with|some (.v w)=>(jt js ps).bind fun ws=> .ok (w::ws)|_=> .bad:=rfl
end
instance:Inhabited jw:=⟨⟨{ posonlyargs:=[],args:=[],vararg:=none,kwonlyargs:=[],kw_defaults:=[],kwarg:=none,defaults:=[] },.stmts [],{ kind:= .function,names:=[],isGenerator:=false,isCoroutine:=false },[]⟩⟩
noncomputable def EY(fr:List Str)(s:Stmt):jw:=match s with
 |.FunctionDef _ a b _ _ _ sc _ _ _=>⟨a,.stmts b,sc,fr⟩
 |_=>default
def KS:Stmt:= .Pass ⟨0,0,0,0⟩
def Bo(j:Nat)(s:Stmt):Stmt:=(bz s).getD j KS
def Io(n:jw):List Stmt:=match n.body with | .stmts b=>b|_=>[]
def Kn(K:Fg)(f:Addr)(x qual:Str)(st:Stmt)(ts:List Addr):Prop:=∃fd c P,fE K x qual st f fd/\Bm K fd c P ts
theorem Ip{K:Fg}{x qual:Str}{st:Stmt}{f c P:Addr}{oc o1:Value}{od an d1:Option Addr}{osl s1:Array (Option Value)}{kV doc pm ct:Value}{vs:Array Value}{ts:List Addr}
  (l:K.lookup f=some ⟨oc,od,.func (PySem.W.fnOf x qual (dZ st) (bz st) (ah st) .none kV doc pm an (.ref c) ct),osl⟩) (i:PySem.W.codeIn K (.ref c) qual=true) (k:PySem.W.keepIn K (.ref f)=true)
  (cl:K.lookup c=some ⟨o1,d1,.fields vs,s1⟩) (cp:vs[11]? =some (.ref P)) (ch:PySem.W.codeHdIn K c P=true) (ct:P∈ts):Kn K f x qual st ts:=⟨_,c,P,uw l i k,rfl,ch,ct⟩
def Bp(K:Fg)(ts:List Addr):Bool:=ts.all fun P=>(K.lookup P).isNone && K.any fun q=>PySem.W.codeHdIn K q.1 P
theorem Ko{K:Params->Fg}{as:List Addr}{e:∀P,as=(K P).map (·.1)}{ts:List Addr}{w:World}{h:Heap}(Y:(PySem.W.kmHook K as e ts).says w h)(hc:Bp (K w.params) ts=true) :
  ∀P∈ts,h.get? P=some (PySem.W.tabObj #[])/\isCodeTable h P/\(K w.params).lookup P=none:=fun P hP=>by
 have h1:=PySem.W.km_tabs_of Y P hP
 have h2:=List.all_eq_true.mp hc P hP
 rw[Bool.and_eq_true]at h2
 obtain⟨h3,h4⟩:=h2
 obtain⟨q,_,h5⟩:=List.any_eq_true.mp h4
 exact⟨h1,((PySem.W.codeHd_of_K (PySem.W.km_in_of Y) h5).tab h1).isCodeTable,by simpa using h3⟩
end DN
end
noncomputable section
namespace L2
open PySem PySem.Spec PyProof.Rows
end L2
namespace DN
open PySem PySem.Spec PyProof.Rows L2
noncomputable section
variable{X:Cx}{G:Pg}{e a b o tg:Expr}{es:List Expr}{body:List Stmt}{da db:DP}{d:DA}{ds:DS}{pos p apos cpos:Pos}{x m:Str}{k i:Nat}{ms:List Bool}
noncomputable def gf:List PV->Option (List Str)
 |[]=>some []
 |.str x::r=>(gf r).map (x :: ·)
 |_=>none
theorem lw{K:Fg}{H:Hp}{A:Av}:∀{ws:List PV} {vs:List V} {ts:List Str},gf ws=some ts->aD K G H A ws vs->vs=ts.map V.str
 |[],vs,ts,h,r=>by cases h;exact r
 |.str x::ws,vs,ts,h,r=>by
  obtain⟨v,vr,rfl,r1,r2⟩:=r
  cases e:gf ws with
  |none=>simp[gf,e]at h
  |some us =>
   simp[gf,e]at h
   subst h
   obtain rfl:v=V.str x:=r1
   rw[lw e r2];rfl
 |.non::_,_,_,h,_=>by cases h
 |.bl _::_,_,_,h,_=>by cases h
 |.int _::_,_,_,h,_=>by cases h
 |.tup _::_,_,_,h,_=>by cases h
 |.lst _::_,_,_,h,_=>by cases h
 |.obj _ _::_,_,_,h,_=>by cases h
 |.dic _ _::_,_,_,h,_=>by cases h
 |.clo _ _::_,_,_,h,_=>by cases h
theorem lz:∀{ts:List Str} {its:List Value},aR (ts.map V.str) its->∃l:List (Str×Tok),its=strValues l/\l.map (·.1)=ts
 |[],its,h=>by cases h;exact⟨[],rfl,rfl⟩
 |t::ts,its,h=>by
  cases h with
  |cons r rest =>
   obtain⟨tk,rfl⟩:=r
   obtain⟨l,rfl,e⟩:=lz rest
   exact⟨(t,tk)::l,rfl,by simp[e]⟩
theorem yJ:G6 X "str.join" (fun x xs H Q=>∃z a ts,x= .str z/\xs=[.ref a]/\eE X.K H a (ts.map V.str)/\JoinOk z ts=true/\Q (.str (Txt.join z ts)) H):=by
 intro pins s σ H x xs v us Q I rx rs h
 obtain⟨z,a,ts,rfl,rfl,hq,hj,q⟩:=h
 obtain⟨t,rfl⟩:=rx
 obtain⟨u',rfl,ru⟩:=nJ rs
 obtain rfl:u'=Value.ref a:=ru
 obtain⟨its,r,p,hz⟩:=I.list hq
 obtain⟨l,rfl,e⟩:=lz r
 exact SC.join p.isList e hj fun t' k=>⟨.str _,H,I.tok k,⟨t',rfl⟩,q⟩
noncomputable def oz:PV->PV->Rx PV
 |.str z,.lst ws=>(match gf ws with|some ts=>if JoinOk z ts=true then .ok (.str (Txt.join z ts)) else .bad|none=> .bad)
 |_,_=> .bad
theorem Bq(ho:JP X G o da)(he:JB X G e db)
  (hbase:attributeBase o "join" X.env (eval o X.env)=eval o X.env:=by rfl)
  (hfew:.(K)=true:=by rfl)
  (hline:(apos.endLine == cpos.line)=true:=by rfl) (hst:starEach [e] X.env=.(U)::starEach [] X.env:=by rfl) (hpl:(backTo cpos (starEach ([]:List Expr) X.env)).any (·.1)=false:=by rfl) :
  JP X G (.Call (.Attribute o "join" apos) [e] [] cpos) (d2 oz da db) :=
 imp (qf PySem.F.plainAttrs_str PySem.F.slot_str_join PySem.F.type_str_join yJ ho (dg he fU hst) hbase hfew hline hst hpl) fun σ H Q ⟨c,ow,ps,w,R,e,q⟩=>by
  obtain⟨w1,e1,e⟩:=ai e
  obtain⟨w2,e2,e⟩:=ai e
  unfold oz at e
  split at e
  ·rename_i x y _
   split at e
   ·rename_i ts hts
    split at e
    ·rename_i hj
     cases e
     refine⟨c,ow,ps,_,R,e1,fun v H1 s1 r1=> ?_⟩
     obtain rfl:v=V.str x:=r1
     refine⟨rfl,c,ow,ps,_,R.grow s1,e2,fun u H2 s2 r2=> ?_⟩
     obtain⟨a,vs,rfl,sq,rs⟩:=r2.lst
     obtain rfl:=lw hts rs
     exact⟨x,a,ts,rfl,rfl,sq,hj,q _ H2 (s1.trans s2) rfl⟩
    ·cases e
   ·cases e
  ·cases e
end
noncomputable section
variable(ps:aT)(a:DP)(d:DA)(dma:pf)(dm:DM)(t u:pD)(dt:DT)(s r:DS)
@[simp]theorem Iq(c n:Nat):Ii c n dma ps=(dma ps).bind fun r=>if r.1.length=n then .ok (.obj c r.1,r.2) else .bad:=rfl
@[simp]theorem Kq:KQ dm ps=(dm ps).bind fun r=>match r.1 with | .bl b=> .ok (b,r.2)|_=> .bad:=rfl
@[simp]theorem Ir:dS dt ps=(dt ps).bind fun b=> .ok (b,ps):=rfl
@[simp]theorem Is:Ie t ps=(t ps).bind fun r=> .ok (!r.1,r.2):=rfl
@[simp]theorem Kr:KR t u ps=(t ps).bind fun r=>if r.1=true then .ok (true,r.2) else u r.2:=rfl
@[simp]theorem Iu:Ig t u ps=(t ps).bind fun r=>if r.1=true then u r.2 else .ok (false,r.2):=rfl
@[simp]theorem Ks:Ih t s r ps=(t ps).st fun x=>if x.1=true then s x.2 else r x.2:=rfl
@[simp]theorem gg:en t s ps=(bP t s 100000 ps).getD .bad:=rfl
end
end DN
end
noncomputable section
namespace L2
open PySem PySem.Spec PyProof.Rows PySem.Builtin PySem.Builtin.Str
theorem Br{X:Cx}:Ha X (fun x lo hi H Q=>∃z,x= .str z/\(PySem.StrLaws.sliceText z lo hi).length<=sizeLine/\Q (.str (PySem.StrLaws.sliceText z lo hi)) H):=by
 intro pins s σ H x v vl vu lo hi sl Q I rx hs pl pu h
 obtain⟨z,rfl,hz,q⟩:=h
 obtain⟨t,rfl⟩:=rx
 refine⟨"str",_,F.slot_str_getitem.lookup,typeIs_str _ _ _,?_⟩
 have key:∀l u:Option (Int×Tok),vl=partValue l->vu=partValue u->lo=l.map (·.1)->hi=u.map (·.1)->wpAny .(E) X.A (getItem (.str z t) (.ref sl)) (EP X pins σ Q) X.xe s:=fun l u e1 e2 e3 e4=>by
  subst e1 e2 e3 e4
  obtain⟨o,a1,a2,a3⟩:=hs
  refine wpAny_getItem_str_slice (l:=l) (u:=u) (st:=none) ⟨o,a1,a2,a3⟩ rfl ?_
  unfold sliceMade
  unfold PySem.StrLaws.sliceText at q hz
  have ep:slicePicked z l u none=strSliceIndices (l.map (·.1)) (u.map (·.1)) 1 z.length:=rfl
  rw[ep]
  have e1:(((none:Option (Int×Tok)).map (·.1)).getD 1 == 1)=true:=rfl
  rw[e1]
  split
  ·rename_i hc
   rw[if_pos (by simpa using hc)]at q
   exact⟨.str z,H,I,⟨t,rfl⟩,q⟩
  ·rename_i hc
   rw[if_neg (by simpa using hc)]at q hz
   exact⟨hz,⟨.str _,H,I.tok _,⟨_,rfl⟩,q⟩⟩
 cases pl with
 |none =>
  cases pu with
  |none=>exact key none none rfl rfl rfl rfl
  |int j t2=>exact key none (some (j,t2)) rfl rfl rfl rfl
 |int i t1 =>
  cases pu with
  |none=>exact key (some (i,t1)) none rfl rfl rfl rfl
  |int j t2=>exact key (some (i,t1)) (some (j,t2)) rfl rfl rfl rfl
end L2
namespace DN
open PySem PySem.Spec PyProof.Rows L2
noncomputable section
variable{X:Cx}{G:Pg}{e:Expr}{da:DP}{pos:Pos}
noncomputable def qH(d:DP)(dl dh:aT->Rx (Option Int)):DP:=fun ps=>(d ps).bind fun x=>(dl ps).bind fun lo=>(dh ps).bind fun hi=>match x with
 |.str z=>if (PySem.StrLaws.sliceText z lo hi).length<=sizeLine then .ok (.str (PySem.StrLaws.sliceText z lo hi)) else .bad
 |_=> .bad
theorem vy{lo hi:Option Expr}{dl dh:aT->Rx (Option Int)}{p2:Pos}(he:JP X G e da)(hl:JO X G lo dl)(hh:JO X G hi dh):JP X G (.Subscript e (.Slice lo hi none p2) pos) (qH da dl dh):=imp (nN Br he hl hh) fun σ H Q ⟨c,ow,ps,ws,R,e,q⟩=>by
 obtain⟨x,e1,e⟩:=ai e
 obtain⟨l,e2,e⟩:=ai e
 obtain⟨h,e3,e⟩:=ai e
 refine⟨c,ow,ps,x,R,e1,fun v H1 s1 r1=>⟨c,ow,ps,l,R.grow s1,e2,fun H2 s2=>⟨c,ow,ps,h,(R.grow s1).grow s2,e3,fun H3 s3=> ?_⟩⟩⟩
 split at e
 ·rename_i z _ _
  split at e
  ·rename_i hz
   cases e
   obtain rfl:v=V.str z:=r1
   exact⟨z,rfl,hz,q _ _ ((s1.trans s2).trans s3) rfl⟩
  ·cases e
 ·cases e
@[simp]theorem Iv(ps:aT)(dl dh:aT->Rx (Option Int)):qH da dl dh ps=(da ps).bind fun x=>(dl ps).bind fun lo=>(dh ps).bind fun hi=>match x with
 |.str z=>if (PySem.StrLaws.sliceText z lo hi).length<=sizeLine then .ok (.str (PySem.StrLaws.sliceText z lo hi)) else .bad
 |_=> .bad:=rfl
end
end DN
end
noncomputable section
namespace L2
open PySem PySem.Spec PyProof.Rows PySem.Builtin PySem.Builtin.Str
noncomputable section
variable{X:Cx}
theorem Bt:Dl X .BitAnd (G4 fun i j=>Builtin.bitAnd i j):=by
 intro pins s σ H x y v u Q I r1 r2 h
 obtain⟨i,j,e1,e2,q⟩:=h
 subst e1;subst e2
 obtain⟨t,rfl⟩:=r1
 obtain⟨t',rfl⟩:=r2
 exact iand_int ⟨.int _,H,I.tok _,⟨_,rfl⟩,q⟩
end
end L2
namespace DN
open PySem PySem.Spec PyProof.Rows L2
noncomputable section
variable{X:Cx}{G:Pg}{o e a b c:Expr}{da db dc:DP}{pos apos cpos:Pos}
def yK(d:DP):DP:=fun ps=>(d ps).bind fun x=>match x with | .int i=> .ok (.int (Builtin.bitNot i))|_=> .bad
theorem EZ(ha:JP X G a da):JP X G (.UnaryOp .Invert a pos) (yK da):=imp (zn Ay ha) fun σ H Q ⟨c,ow,ps,w,R,e,q⟩=>by
 obtain⟨x,e1,e2⟩:=ai e
 refine .(Au)
 split at e2
 ·cases e2;exact⟨_,r,q _ H' s rfl⟩
 ·cases e2
def bMax2:List PV->Rx PV
 |[.int i,.int j]=> .ok (.int (if j>i then j else i))
 |_=> .bad
theorem yL{K:Fg}:CK K G [false,false] bMax2 (fun xs H Q=>∃i j,xs=[.int i,.int j]/\Q (.int (if j>i then j else i)) H):=by
 intro H A ws vs w Q hu e r q
 unfold bMax2 at e
 split at e
 ·cases e
  obtain⟨w0,ws0,v0,r0,ew,ev,h1,h2⟩:=r
  obtain⟨w1,ws1,v1,r1,ew1,ev1,h3,h4⟩:=h2
  cases ew;cases ew1
  obtain⟨-,h4⟩:=h4
  have h1:v0= .int _:=h1
  have h3:v1= .int _:=h3
  subst h1;subst h3;subst ev1;subst ev
  have h4:r1=[]:=h4
  subst h4
  exact⟨_,_,rfl,q _ _ (Same.refl H) rfl⟩
 ·cases e
noncomputable def iX(f g:PV->PV->Rx PV)(a b c:DP):DP:=fun ps=>(a ps).bind fun x=>(b ps).bind fun y=>(f x y).bind fun z=>match z with | .bl true=>(c ps).bind fun w=>g y w | .bl false=> .ok (.bl false)|_=> .bad
theorem vz{K:Fg}{f g:PV->PV->Rx PV}{r r':R2}(hf:nz K G f r)(hg:nz K G g r'){σ :L2.St}{H:Hp}{Q:VK}(h:xv K G (iX f g da db dc) σ H Q):uh r r' (CI K G da) (CI K G db) (CI K G dc) σ H Q:=by
 obtain⟨c,ow,ps,w,R,e,q⟩:=h
 obtain⟨x,e1,e⟩:=ai e
 obtain⟨y,e2,e⟩:=ai e
 obtain⟨z,e3,e⟩:=ai e
 refine⟨c,ow,ps,x,R,e1,fun v H1 s1 r1=>⟨c,ow,ps,y,R.grow s1,e2,fun u H2 s2 r2=>hf H2 _ x y z v u _ ((R.grow s1).grow s2).used e3 (r1.same s2) r2 fun t H3 s3 r3=> ?_⟩⟩
 split at e
 ·obtain⟨w3,e4,e⟩:=ai e
  refine⟨true,r3,iteT ⟨c,ow,ps,w3,((R.grow s1).grow s2).grow s3,e4,fun u4 H4 s4 r4=>hg H4 _ y w3 w u u4 Q ((((R.grow s1).grow s2).grow s3).grow s4).used e (r2.same (s3.trans s4)) r4 fun t5 H5 s5 r5=>q t5 H5 ((((s1.trans s2).trans s3).trans s4).trans s5) r5⟩⟩
 ·cases e
  exact⟨false,r3,ma (q _ H3 ((s1.trans s2).trans s3) rfl)⟩
 ·cases e
theorem p_chain{op op':CmpOp}{r r':R2}{f g:PV->PV->Rx PV}(ho:fQ X (compareOp op) r)(ho':fQ X (compareOp op') r')(hf:nz X.K G f r)(hg:nz X.K G g r')(ha:JB X G a da)(hb:JB X G b db)(hc:JB X G c dc)
  (hm:lastMarks [op,op'] [b,c]=false:=by with_unfolding_all rfl):JP X G (.Compare a [op,op'] [b,c] pos) (iX f g da db dc):=imp (ui ho ho' ha hb hc hm) fun _ _ _=>vz hf hg
abbrev oi_lt:=fun(K:Fg) (G:Pg)=>(kF (K:=K) (G:=G) (g:=fun i j=> .bl (decide (i<j))) (g':=fun i j=> .bl (decide (i<j))) fun _ _ _ _=>rfl:nz K G sf _)
abbrev oi_le:=fun(K:Fg) (G:Pg)=>(kF (K:=K) (G:=G) (g:=fun i j=> .bl (decide (i<=j))) (g':=fun i j=> .bl (decide (i<=j))) fun _ _ _ _=>rfl:nz K G Gb _)
end
noncomputable section
variable(ps:aT)(a b c:DP)(f g:PV->PV->Rx PV)
@[simp]theorem Gv:iX f g a b c ps=(a ps).bind fun x=>(b ps).bind fun y=>(f x y).bind fun z=>match z with | .bl true=>(c ps).bind fun w=>g y w | .bl false=> .ok (.bl false)|_=> .bad:=rfl
@[simp]theorem F2:yK a ps=(a ps).bind fun x=>match x with | .int i=> .ok (.int (Builtin.bitNot i))|_=> .bad:=rfl
end
end DN
end
noncomputable section
namespace L2
open PySem PySem.Spec PyProof.Rows
noncomputable section
variable{X:Cx}
end
end L2
namespace DN
open PySem PySem.Spec PyProof.Rows L2
noncomputable section
variable{X:Cx}{G:Pg}{o e a b c:Expr}{da db dc:DP}{pos apos cpos:Pos}
noncomputable def Iw:PV->PV->Rx PV
 |.bl b,.bl c=> .ok (.bl (b == c))
 |_,_=> .bad
noncomputable def F3:PV->PV->Rx PV
 |.bl b,.bl c=> .ok (.bl (!(b == c)))
 |_,_=> .bad
noncomputable def F4(i:Nat)(d:DS):DS:=fun ps=>match ps[i]? with|some (.own y)=>d (ps.set i (.v y.pv))|_=>d ps
end
noncomputable section
variable(ps:aT)(i:Nat)(d:DS)
@[simp]theorem Gw:F4 i d ps=match ps[i]? with|some (.own y)=>d (ps.set i (.v y.pv))|_=>d ps:=rfl
@[simp]theorem Kt(b c:Bool):Iw (.bl b) (.bl c)= .ok (.bl (b == c)):=rfl
@[simp]theorem Ix(b c:Bool):F3 (.bl b) (.bl c)= .ok (.bl (!(b == c))):=rfl
end
end DN
end
noncomputable section
namespace DN
open PySem PySem.Spec PyProof.Rows L2
noncomputable section
variable{K:Fg}{G:Pg}{H H':Hp}{A A':Av}{c:Fr}{ow:gJ}{ps:aT}{σ :L2.St}
def qI:Sl->Bool
 |.als _ _=>true
 |_=>false
def zK:Sl->Sl
 |.als _ _=> .no
 |s=>s
end
noncomputable section
variable{X:Cx}{G:Pg}{e ke value:Expr}{da db dk dv:DP}{d:DA}{ds:DS}{pos pos' p tpos:Pos}{x y:Str}{i j:Nat}
noncomputable def Bu(i:Nat)(dk:DP)(d:DA):DS:=fun ps=>(d ps).st fun ws=>(dk ps).st fun y=>match ps[i]?,gB y with
 |some (.own (.dic [] [])),some k=>if ps.any qI=false then .nx (ps.set i (.dol [k] [ws])) else .bad
 |some (.dol ks xss),some k=>if ps.any qI=false/\ks.length=xss.length/\ks.length<999/\inK ks k=false then .nx (ps.set i (.dol (ks++[k]) (xss++[ws]))) else .bad
 |_,_=> .bad
noncomputable def Iy:List Key->Key->Nat->Option Nat
 |[],_,_=>none
 |k'::ks,k,n=>if k'=k then some n else Iy ks k (n+1)
noncomputable def Iz(i j:Nat)(dk:DP):DS:=fun ps=>(dk ps).st fun y=>match ps[j]?,gB y with
 |some (.dol ks xss),some k=>(match Iy ks k 0 with|some m=> .nx (ps.set i (.als j m))|none=> .bad)
 |_,_=> .bad
noncomputable def IA(i:Nat):DP:=fun ps=>match ps[i]? with
 |some (.als d j)=>(match ps[d]? with
  |some (.dol _ xss)=>(match xss[j]? with|some xs=> .ok (.lst xs)|none=> .bad)
  |_=> .bad)
 |_=> .bad
noncomputable def F6(i:Nat)(dk dv:DP):DS:=fun ps=>(dv ps).st fun w=>(dk ps).st fun y=>match ps[i]?,y with
 |some (.als d j),.int n=>(match ps[d]? with
  |some (.dol ks xss)=>(match xss[j]? with
   |some xs=>(match xu xs.length n with|some m=> .nx (ps.set d (.dol ks (xss.set j (xs.set m w))))|none=> .bad)
   |none=> .bad)
  |_=> .bad)
 |_,_=> .bad
noncomputable def F7(i:Nat)(d:DS):DS:=fun ps=>match ps[i]? with
 |some (.dol ks xss)=>d ((ps.map zK).set i (.v (.dic ks (xss.map PV.lst))))
 |_=>d ps
end
noncomputable section
variable(ps:aT)(i j:Nat)(dk dv:DP)(d:DA)(ds:DS)
@[simp]theorem F8:yp i ps=match ps[i]? with|some (.bor (.lst xs))=> .ok xs|_=> .bad:=rfl
@[simp]theorem Gx:Bu i dk d ps=(d ps).st fun ws=>(dk ps).st fun y=>match ps[i]?,gB y with
 |some (.own (.dic [] [])),some k=>if ps.any qI=false then .nx (ps.set i (.dol [k] [ws])) else .bad
 |some (.dol ks xss),some k=>if ps.any qI=false/\ks.length=xss.length/\ks.length<999/\inK ks k=false then .nx (ps.set i (.dol (ks++[k]) (xss++[ws]))) else .bad
 |_,_=> .bad:=rfl
@[simp]theorem IC:Iz i j dk ps=(dk ps).st fun y=>match ps[j]?,gB y with
 |some (.dol ks xss),some k=>(match Iy ks k 0 with|some m=> .nx (ps.set i (.als j m))|none=> .bad)
 |_,_=> .bad:=rfl
@[simp]theorem ID:IA i ps=match ps[i]? with
 |some (.als d j)=>(match ps[d]? with
  |some (.dol _ xss)=>(match xss[j]? with|some xs=> .ok (.lst xs)|none=> .bad)
  |_=> .bad)
 |_=> .bad:=rfl
@[simp]theorem IE:F6 i dk dv ps=(dv ps).st fun w=>(dk ps).st fun y=>match ps[i]?,y with
 |some (.als d j),.int n=>(match ps[d]? with
  |some (.dol ks xss)=>(match xss[j]? with
   |some xs=>(match xu xs.length n with|some m=> .nx (ps.set d (.dol ks (xss.set j (xs.set m w))))|none=> .bad)
   |none=> .bad)
  |_=> .bad)
 |_,_=> .bad:=rfl
@[simp]theorem IF:F7 i ds ps=match ps[i]? with
 |some (.dol ks xss)=>ds ((ps.map zK).set i (.v (.dic ks (xss.map PV.lst))))
 |_=>ds ps:=rfl
end
end DN
end
noncomputable section
namespace DN
open PySem PySem.Spec PyProof.Rows L2
noncomputable def oA:List PV->Option (List Key)
 |[]=>some []
 |y::ys=>match gB y,oA ys with|some k,some ks=>some (k::ks)|_,_=>none
noncomputable def ju{α :Type}:List (List Key)->List α ->List Key->Option α
 |k'::ks,x::xs,k=>if k'=k then some x else ju ks xs k
 |_,_,_=>none
def inT(ks:List (List Key))(k:List Key):Bool:=ks.any fun k'=>decide (k'=k)
noncomputable section
variable{K:Fg}{G:Pg}{H:Hp}{A:Av}
theorem lA:∀{ws:List PV} {vs:List V} {ks:List Key},aD K G H A ws vs->oA ws=some ks->vs=ks.map kV
 |[],vs,ks,h,e=>by cases e;exact h
 |w::ws,vs,ks,h,e=>by
  obtain⟨v,r,rfl,h1,h2⟩:=h
  unfold oA at e
  split at e
  ·rename_i k ks' e1 e2
   cases e
   rw[mF h1 e1,lA h2 e2];rfl
  ·cases e
theorem F9:∀{ks:List (List Key)} {vs:List V} {k:List Key},eS (ks.zip vs) k=ju ks vs k
 |[],vs,k=>by simp[eS,ju]
 |a::ks,[],k=>by simp[eS,ju]
 |a::ks,v::vs,k=>by
  have ih:=F9 (ks:=ks) (vs:=vs) (k:=k)
  unfold eS at ih ⊢
  rw[List.zip_cons_cons,List.find?_cons]
  by_cases e:a=k
  ·simp[e,ju]
  ·simp[e,ju]
   simpa using ih
end
noncomputable section
variable{X:Cx}{G:Pg}{o value:Expr}{es:List Expr}{da dv:DP}{dk:DA}{ds:DS}{pos pos' p tp tpos:Pos}{x:Str}{i:Nat}{ms:List Bool}
noncomputable def k7(i:Nat):DS:=fun ps=>if i<ps.length then .nx (ps.set i (.own (.dit [] []))) else .bad
theorem yM(hN:X.N.Nodup)(hi:X.N[i]? =some x)(hx:nw X.env.scope x)(hs:swapsWith (.Dict [] [] pos') (some (.Name x p)) pos.line X.env=pure false:=by rfl)(hf:X.fn x=true\/X.env.scope.names.lookup x=some .local:=by first|exact .inl rfl|exact .inr rfl|assumption) :
  JS X G (.Assign [.Name x p] (.Dict [] [] pos') pos) (k7 i):=eK (iJ hN hi hx uz hs hf) fun D σ H ⟨c,ow,ps,R,q⟩=>by
 unfold k7 at q
 split at q
 ·rename_i hl
  intro p hp
  have s:=bt hp (HO.dT [])
  exact q _ _ _ (R.setO hl s hp ⟨[],au,rfl,rfl⟩) (Kp.take hp s oi)
 ·exact q.elim
noncomputable def Bv(i:Nat)(dk:DA)(dv:DP):DS:=fun ps=>(dv ps).st fun w=>(dk ps).st fun ys=>match ps[i]?,oA ys with
 |some (.own (.dit ks xs)),some k=>if ks.length<10000/\inT ks k=false then .nx (ps.set i (.own (.dit (ks++[k]) (xs++[w])))) else .bad
 |_,_=> .bad
noncomputable def Bw(da:DP)(dk:DA):DP:=fun ps=>(da ps).bind fun z=>(dk ps).bind fun ys=>match z,oA ys with
 |.dit ks xs,some k=>(match ju ks xs k with|some w=> .ok w|none=> .bad)
 |_,_=> .bad
end
noncomputable section
variable(ps:aT)(i:Nat)(da dv:DP)(dk:DA)
@[simp]theorem Gy:k7 i ps=if i<ps.length then .nx (ps.set i (.own (.dit [] []))) else .bad:=rfl
@[simp]theorem Gz:Bv i dk dv ps=(dv ps).st fun w=>(dk ps).st fun ys=>match ps[i]?,oA ys with
 |some (.own (.dit ks xs)),some k=>if ks.length<10000/\inT ks k=false then .nx (ps.set i (.own (.dit (ks++[k]) (xs++[w])))) else .bad
 |_,_=> .bad:=rfl
@[simp]theorem GA:Bw da dk ps=(da ps).bind fun z=>(dk ps).bind fun ys=>match z,oA ys with
 |.dit ks xs,some k=>(match ju ks xs k with|some w=> .ok w|none=> .bad)
 |_,_=> .bad:=rfl
end
end DN
end
noncomputable section
namespace L2
open PySem PySem.Spec PyProof.Rows
noncomputable section
variable{P:Program}{w:World}{K:Fg}{mg:Str->Option Value}{base:Bs}{N:List Str}{qual:Str}{scope:Scope}{f:Addr}{cd:Value}{A:Around}{outer:List Env}{s0:Shared}{H0:Hp}{E E':XK}
end
noncomputable section
variable{X:Cx}
end
noncomputable section
variable{X:Cx}{pins:List (Addr×Obj)}{σ :St}{H:Hp}{s:Shared}{e:Value}
end
end L2
end
noncomputable section
namespace DN
open PySem PySem.Spec PyProof.Rows L2
def Rx.at{α :Type}(r:Rx α)(Q: α ->Prop)(E:Nat->Prop):Prop:=match r with | .ok a=>Q a | .exc k=>E k | .bad=>False
def eA(G:Pg)(k:Nat):Value:= .ref (G.cA (1000+k))
def pE:Rs->Rs
 |.exc _=> .bad
 |r=>r
@[simp]theorem GB(ps:aT):pE (.nx ps)= .nx ps:=rfl
@[simp]theorem Fa(w:PV):pE (.ret w)= .ret w:=rfl
@[simp]theorem CP(w:List PV):pE (.retn w)= .retn w:=rfl
@[simp]theorem CQ(w:PV)(x:Ow):pE (.reti w x)= .reti w x:=rfl
@[simp]theorem Fb(ps:aT):pE (.brk ps)= .brk ps:=rfl
@[simp]theorem Fc(ps:aT):pE (.cnt ps)= .cnt ps:=rfl
@[simp]theorem Fd:pE .bad= .bad:=rfl
def Fe{α :Type}:Rx α ->Rx α
 |.exc _=> .bad
 |r=>r
@[simp]theorem GC{α :Type}(a: α):Fe (.ok a)= .ok a:=rfl
@[simp]theorem Ff{α :Type}:Fe (.bad:Rx α)= .bad:=rfl
noncomputable section
variable{X:Cx}{G:Pg}{E:XK}{e a b o tg:Expr}{es:List Expr}{d:DA}{ds du:DS}{dt:DT}{st:Stmt}{rest:List Stmt}{pos p:Pos}{x m:Str}{k i:Nat}{ms:List Bool}
end
end DN
end
noncomputable section
namespace DN
open PySem PySem.Spec PyProof.Rows L2
theorem jx{ks:List (List Key)}{k:List Key}:inT ks k=true ↔ k∈ks:=by unfold inT;simp
def fM(ks:List (List Key))(k:List Key):List (List Key):=if inT ks k=true then ks else ks++[k]
noncomputable def dD{α :Type}(ks:List (List Key))(xs:List α)(k:List Key)(w: α):List α :=if inT ks k=true then List.zipWith (fun k' x=>if k'=k then w else x) ks xs else xs++[w]
theorem k8{k:List Key}:∀{ks:List (List Key)} {vs:List V},ks.length=vs.length->(((ks.zip vs).any fun kv=>decide (kv.1=k))=true ↔ k∈ks)
 |[],vs,h=>by simp
 |a::ks,[],h=>by simp at h
 |a::ks,v::vs,h=>by
  have:=k8 (k:=k) (ks:=ks) (vs:=vs) (by simpa using h)
  rw[List.zip_cons_cons,List.any_cons,Bool.or_eq_true,this,List.mem_cons]
  simp[eq_comm]
theorem oB{k:List Key}{w:V}:∀{ks:List (List Key)} {vs:List V},ks.length=vs.length->(ks.zip vs).map (fun kv=>if kv.1=k then(kv.1,w) else kv)=ks.zip (List.zipWith (fun k' x=>if k'=k then w else x) ks vs)
 |[],vs,h=>by simp
 |a::ks,[],h=>by simp at h
 |a::ks,v::vs,h=>by
  have:=oB (k:=k) (w:=w) (ks:=ks) (vs:=vs) (by simpa using h)
  rw[List.zip_cons_cons,List.map_cons,this,List.zipWith_cons_cons,List.zip_cons_cons]
  congr 1
  by_cases e:a=k <;> simp[e]
theorem vA{ks:List (List Key)}{vs:List V}{k:List Key}{v:V}(h:ks.length=vs.length):dj (ks.zip vs) k v=(fM ks k).zip (dD ks vs k v):=by
 unfold dj fM dD
 by_cases e:inT ks k=true
 ·rw[if_pos ((k8 h).mpr (jx.mp e)),if_pos e,if_pos e,oB h]
 ·rw[if_neg (fun z=>e (jx.mpr ((k8 h).mp z))),if_neg e,if_neg e,List.zip_append h];rfl
theorem vB{α :Type}{ks:List (List Key)}{vs:List α}{k:List Key}{v: α}(h:ks.length=vs.length):(fM ks k).length=(dD ks vs k v).length:=by
 unfold fM dD
 split <;> simp[h]
theorem oC{K:Fg}{G:Pg}{H:Hp}{A:Av}{k:List Key}{w:PV}{v:V}(r:cU K G H A w v):∀{ks:List (List Key)} {ws:List PV} {vs:List V},aD K G H A ws vs->aD K G H A (List.zipWith (fun k' x=>if k'=k then w else x) ks ws) (List.zipWith (fun k' x=>if k'=k then v else x) ks vs)
 |[],ws,vs,h=>rfl
 |a::ks,[],vs,h=>by have h:vs=[]:=h;subst h;rfl
 |a::ks,x::ws,vs,h=>by
  obtain⟨u,rr,rfl,h1,h2⟩:=h
  refine⟨_,_,rfl,?_,oC r h2⟩
  by_cases e:a=k
  ·simp only[if_pos e];exact r
  ·simp only[if_neg e];exact h1
theorem aD.putT{K:Fg}{G:Pg}{H:Hp}{A:Av}{ks:List (List Key)}{k:List Key}{w:PV}{v:V}{ws:List PV}{vs:List V}(h:aD K G H A ws vs)(r:cU K G H A w v):aD K G H A (dD ks ws k w) (dD ks vs k v):=by
 unfold dD
 split
 ·exact oC r h
 ·exact h.snoc r
def je:PV->Option (List Key)
 |.tup ys=>oA ys
 |_=>none
theorem lB{K:Fg}{G:Pg}{H:Hp}{A:Av}{y:PV}{v:V}{k:List Key}(r:cU K G H A y v)(e:je y=some k):∃b,v= .ref b/\H b=some (.tup (k.map kV)):=by
 cases y <;> try cases e
 obtain⟨b,vs,rfl,hb,rs⟩:=r
 refine⟨b,rfl,?_⟩
 rw[hb,lA rs e]
theorem pF{K:Fg}{G:Pg}{H:Hp}{A:Av}{y:PV}{v:V}{k:List Key}(r:bK K G H A y v)(e:je y=some k):∃b,v= .ref b/\H b=some (.tup (k.map kV)):=by
 rcases r with r|⟨x,p,e1,e2,r⟩
 ·exact lB r e
 ·subst e1
  cases x <;> cases e
noncomputable section
variable{X:Cx}{G:Pg}{a b e f o ke value:Expr}{es:List Expr}{da db dk dv dd:DP}{ds:DS}{pos pos' p tp tpos apos cpos:Pos}{x:Str}{i:Nat}{ms:List Bool}
noncomputable def k9(i:Nat)(dk dv:DP):DS:=fun ps=>(dv ps).st fun w=>(dk ps).st fun y=>match ps[i]?,je y with
 |some (.own (.dit ks xs)),some k=>if ks.length<10000 then .nx (ps.set i (.own (.dit (fM ks k) (dD ks xs k w)))) else .bad
 |_,_=> .bad
theorem qJ(i:Nat)(hu:X.A.units+1<cLine)(hk:JP X G ke dk)(he:JP X G value dv)(hs:swapsWith value (some (.Subscript (.Name x p) ke tpos)) pos.line X.env=pure false)(hN:X.N[i]? =some x:=by rfl)(hv:lX X.env.scope x:=by first|exact Or.inl rfl|exact Or.inr (Or.inl rfl)|exact Or.inr (Or.inr rfl))(hd:(x == .(L))=false:=by decide)
  (hcd:(x == .(Ad))=false:=by decide):JS X G (.Assign [.Subscript (.Name x p) ke tpos] value pos) (k9 i dk dv) :=
 eK (qh hu (aV hN hv hd hcd) hk he hs) fun D σ H ⟨c,ow,ps,R,q⟩=>by
  obtain⟨w,e1,q⟩:=aY q
  obtain⟨y,e2,q⟩:=aY q
  split at q
  ·rename_i ks xs k hx hkk
   split at q
   ·rename_i hl
    refine⟨c,ow,ps,w,R,e1,fun v H1 s1 r1=> ?_⟩
    obtain⟨p0,e3,e4,vs0,hH0,l0,rs0⟩:=R.getO hx
    refine⟨_,e4,c,ow,ps,y,R.grow s1,e2,fun u H2 s2 r2=> ?_⟩
    have s12:=s1.trans s2
    have R2:=R.grow s12
    have hH:H2 p0=some (.dT (ks.zip vs0)):=s12 _ _ hH0
    have rs:=rs0.same s12
    have mD:Mt (HO.dT (ks.zip vs0)):=And.intro (fun _ z=>by cases z) (fun _ _ z=>by cases z)
    have hz:dj (ks.zip vs0) k v=(fM ks k).zip (dD ks vs0 k v):=vA l0
    have k0:Kp X.K G H2 (av c ow) (upd H2 p0 (.dT (dj (ks.zip vs0) k v))) (av c ow):=Kp.own (.inr ⟨i,e3⟩) hH mD
    have:=R2.chg (y:= .dit (fM ks k) (dD ks xs k w)) (u:= .dT (dj (ks.zip vs0) k v)) hx e3 ⟨dD ks vs0 k v,by rw[hz];exact au,vB l0,k0.reps (rs.putT (r1.same s2))⟩
    refine⟨p0,_,rfl,?_,q _ _ _ this.1 ((Kp.of_same s12).trans this.2)⟩
    obtain⟨b,rfl,hb⟩:=lB r2 hkk
    exact nS.t hH hb (by rw[List.length_zip,<-l0];exact Nat.lt_of_le_of_lt (Nat.min_le_left _ _) (Nat.lt_of_lt_of_le hl (by decide)))
   ·exact q.elim
  ·exact q.elim
def sB(neg:Bool):PV->PV->Rx PV
 |y,.dit ks xs=>match je y with
  |some k=>if ks.length=xs.length then .ok (.bl (inT ks k != neg)) else .bad
  |none=> .bad
 |_,_=> .bad
theorem lC{α :Type}{k:List Key}:∀{ks:List (List Key)} {vs:List α},ks.length=vs.length->(ju ks vs k).isSome=inT ks k
 |[],vs,h=>by cases vs <;> rfl
 |a::ks,[],h=>by simp at h
 |a::ks,v::vs,h=>by
  have ih:=lC (k:=k) (ks:=ks) (vs:=vs) (by simpa using h)
  unfold ju inT
  rw[List.any_cons]
  by_cases e:a=k
  ·rw[if_pos e,decide_eq_true e];rfl
  ·rw[if_neg e,decide_eq_false e,Bool.false_or];exact ih
theorem Bx{K:Fg}{neg:Bool}{H:Hp}{A:Av}{y z w:PV}{u v:V}(r1:bK K G H A y u)(r2:bK K G H A z v)(e:sB neg y z= .ok w):∃a o,v= .ref a/\gO H a u o/\w= .bl (o.isSome != neg):=by
 cases z <;> try (cases y <;> cases e)
 rename_i ks xs
 have e:(match je y with|some k=>if ks.length=xs.length then Rx.ok (PV.bl (inT ks k != neg)) else .bad|none=> .bad)= .ok w:=e
 split at e
 ·rename_i k hk
  split at e
  ·cases e
   obtain⟨a,vs,rfl,hH,l,rs⟩:=r2.dit
   obtain⟨b,rfl,hb⟩:=pF r1 hk
   refine⟨a,eS (ks.zip vs) k,rfl,gO.t hH hb,?_⟩
   rw[F9,lC l]
  ·cases e
 ·cases e
theorem vC(hu:X.A.units+1<cLine)(ha:JB X G a da)(hb:JB X G b db)(hm:behindInMarks .NotIn b=false):JT X G (.Compare a [.NotIn] [b] pos) (aS (d2 (sB true) da db)):=ph (u5 (rV hu ha hb) hm) fun σ H Q ⟨c,ow,ps,bb,R,e,q⟩=>by
 obtain⟨z,e0,ez⟩:=ai e
 obtain⟨x,e1,e⟩:=ai e0
 obtain⟨y,e2,e⟩:=ai e
 refine⟨c,ow,ps,x,R,e1,fun v H1 s1 r1=>⟨c,ow,ps,y,R.grow s1,e2,fun u H2 s2 r2=> ?_⟩⟩
 obtain⟨a,o,rfl,g,rfl⟩:=Bx (r1.same s2) r2 e
 cases ez
 exact⟨a,o,rfl,g,_,rfl,by have:=q H2 (s1.trans s2);simpa using this⟩
noncomputable def By(da db dd:DP):DP:=fun ps=>(da ps).bind fun x=>(db ps).bind fun y=>(dd ps).bind fun z=>match x,je y with
 |.dit ks xs,some k=>if ks.length=xs.length then .ok ((ju ks xs k).getD z) else .bad
 |_,_=> .bad
theorem yN{K:Fg}{H H':Hp}{A A':Av}{w:PV}{v:V}(h:sj w=true)(r:cU K G H A w v):cU K G H' A' w v:=by
 cases w <;> first|exact r|cases h
noncomputable def mO(i:Nat)(dk dv:DP):DS:=fun ps=>(dk ps).st fun y=>(dv ps).st fun w=>match gB y with
 |some k=>if i<ps.length/\sj w=true then .nx (ps.set i (.own (.dic [k] [w]))) else .bad
 |none=> .bad
theorem yO(hN:X.N.Nodup)(hi:X.N[i]? =some x)(hx:nw X.env.scope x)(hk:JP X G ke dk)(hv:JP X G value dv)(hs:swapsWith (.Dict [some ke] [value] pos') (some (.Name x p)) pos.line X.env=pure false:=by rfl)(hf:X.fn x=true\/X.env.scope.names.lookup x=some .local:=by first|exact .inl rfl|exact .inr rfl|assumption) :
  JS X G (.Assign [.Name x p] (.Dict [some ke] [value] pos') pos) (mO i dk dv):=eK (iJ hN hi hx (y9 (uA hk hv y8) rfl rfl (by simp) (by show 1<=15;decide)) hs hf) fun D σ H ⟨c,ow,ps,R,q⟩=>by
 obtain⟨y,e1,q⟩:=aY q
 obtain⟨w,e2,q⟩:=aY q
 split at q
 ·rename_i k hk
  split at q
  ·rename_i hl
   intro p hp
   have s0:=bt hp (HO.dK [])
   refine⟨c,ow,ps,y,R.grow s0,e1,fun u H1 s1 r1=>⟨c,ow,ps,w,(R.grow s0).grow s1,e2,fun v H2 s2 r2=> ?_⟩⟩
   have s12:=s1.trans s2
   have hH:H2 p=some (.dK []):=s12 _ _ au
   refine⟨hH,[(k,v)],by rw[mF r1 hk];rfl,(by show 1<=15;decide),?_⟩
   have sx:Same H (upd H2 p (.dK [(k,v)])):=fun b o h=>by
    rw[aq (aO h hp)]
    exact(s0.trans s12) _ _ h
   exact q _ _ _ (R.setO hl.1 sx hp ⟨[v],au,rfl,v,[],rfl,yN hl.2 r2,rfl⟩) (Kp.take hp sx oi)
  ·exact q.elim
 ·exact q.elim
end
noncomputable section
variable(ps:aT)(i:Nat)(da db dk dv dd:DP)
@[simp]theorem GD:k9 i dk dv ps=(dv ps).st fun w=>(dk ps).st fun y=>match ps[i]?,je y with
 |some (.own (.dit ks xs)),some k=>if ks.length<10000 then .nx (ps.set i (.own (.dit (fM ks k) (dD ks xs k w)))) else .bad
 |_,_=> .bad:=rfl
@[simp]theorem GE:By da db dd ps=(da ps).bind fun x=>(db ps).bind fun y=>(dd ps).bind fun z=>match x,je y with
 |.dit ks xs,some k=>if ks.length=xs.length then .ok ((ju ks xs k).getD z) else .bad
 |_,_=> .bad:=rfl
@[simp]theorem GF:mO i dk dv ps=(dk ps).st fun y=>(dv ps).st fun w=>match gB y with
 |some k=>if i<ps.length/\sj w=true then .nx (ps.set i (.own (.dic [k] [w]))) else .bad
 |none=> .bad:=rfl
end
end DN
end
noncomputable section
namespace L2
open PySem PySem.Spec PyProof.Rows
def Fh(x:Str):It:=⟨fun i _=>i<x.cps.size,fun i H v H'=>∃p c,H p=none/\v= .ref p/\x.cps[i]? =some c/\H'=upd H p (.tup [.int i,.str ⟨#[c]⟩]),fun i _=>i=x.cps.size⟩
theorem lD{prog:Program}{w:World}{A:Around}{ty:String}(hty:ty="str_ascii_iterator"\/ty="str_iterator")(hh:A.handled=none)(it:Addr)(x:Str)(t:Tok) :
  Draws prog w A it [it] x.cps.size (fun i v=>∃c u,x.cps[i]? =some c/\v= .str ⟨#[c]⟩ u) (fun i h=>h.IsStrIter it ty x t i):=by
 rcases hty with rfl|rfl
 ·exact Draws.strAscii hh it x t
 ·exact Draws.strWide hh it x t
theorem pG{P:Program}{w:World}{K:Fg}{elts:List Expr}{x1}{tpos:Pos}{ty:String}{x:Str}{t:Tok}(hty:ty="str_ascii_iterator"\/ty="str_iterator")(e it:Addr)(hne:e≠it) :
  ua P w K (.Tuple elts x1 tpos) (Fh x) [it,e] e (fun i h=>(∃old,IsEnum h e it i old)/\h.IsStrIter it ty x t i) where
 mem:=by simp
 obj:=fun i h st b hb=>by
  obtain⟨⟨old,he⟩,o,e1,c,d⟩:=st
  have q:b=it\/b=e:=by simpa using hb
  rcases q with rfl|rfl
  ·exact⟨o,e1,fun v z=>by rw[d]at z;cases z⟩
  ·exact⟨_,he,fun v z=>by
    have z':Data.fields _=Data.cell v:=z
    cases z'⟩
 keep:=fun i h h' ⟨⟨old,he⟩,o,ho,r⟩ k=>⟨⟨old,k e (by simp) _ he⟩,o,k it (by simp) o ho,r⟩
 item:=by
  intro X hP hw hK hc i pins s σ H E I hf st hg
  subst hP hw hK
  obtain⟨⟨old,he⟩,st⟩:=st
  have fi:=hf it (by simp)
  have fe:=hf e (by simp)
  have hef:e∉[it]:=by simpa using hne
  refine wpAny_pyNext_enum_itemD (St:=fun i h=>h.IsStrIter it ty x t i) (lD (A:=X.A.in1) hty (I.ok.hd hc) it x t) he st hg hne hef fun u h' tk hPx he' st' ht hsz kk=> ?_
  obtain⟨ch,tu,hch,rfl⟩:=hPx
  refine⟨_,rfl,wpAny_letOwnedTupleGo_enum (s:={ s with heap:=h',toks:=tk+1 }) he' fun h2 he2 hs2=> ?_⟩
  have hel:e<s.heap.objs.size:=Heap.lt_size he
  have hil:it<s.heap.objs.size:=let ⟨o,e1,_⟩:=st;Heap.lt_size e1
  have hfr:H s.heap.objs.size=none:=I.hok.fresh .(Ac)
  have k2:∀b o,b≠it->b≠e->s.heap.get? b=some o->h2.get? b=some o:=fun b o hbi hbe q=>(hs2.2 b hbe).trans (kk b o hbe hbi q)
  have hT:h2.get? s.heap.objs.size=some { cls:= .type "tuple",data:= .seq #[.int i tk,.str ⟨#[ch]⟩ tu] }:=(hs2.2 _ (Nat.ne_of_gt hel)).trans ht
  have st2:h2.IsStrIter it ty x t (i+1):=let ⟨o,ho,r⟩:=st';⟨o,(hs2.2 it (Ne.symm hne)).trans ho,r⟩
  have I2:aA X pins σ (upd H s.heap.objs.size (.tup [.int i,.str ⟨#[ch]⟩])) { s with heap:=h2,toks:=tk+1 } :=
   I.turned2 (t':=tk+1) k2 fi fe .(Ac) ⟨by show 2<=sizeLine;decide,[.int i tk,.str ⟨#[ch]⟩ tu],.cons ⟨_,rfl⟩ (.cons ⟨_,rfl⟩ .nil),⟨_,hT,rfl,_,rfl⟩⟩
  refine⟨.ref s.heap.objs.size,upd H s.heap.objs.size (.tup [.int i,.str ⟨#[ch]⟩]),I2,rfl,⟨_,ch,hfr,rfl,hch,rfl⟩,⟨⟨_,he2⟩,st2⟩,fun b hb=> ?_⟩
  have q:b=it\/b=e:=by simpa using hb
  rcases q with rfl|rfl
  ·rw[aq (Nat.ne_of_lt hil)];exact fi.1
  ·rw[aq (Nat.ne_of_lt hel)];exact fe.1
 done:=by
  intro X hP hw hK hc i pins s σ H E I hf st hg
  subst hP hw hK
  obtain⟨⟨old,he⟩,st⟩:=st
  have hg:i=x.cps.size:=hg
  subst hg
  obtain⟨f0,f1,f2,f3,f4,f5⟩:=hf it (by simp)
  exact wpAny_pyNext_enum_endD (St:=fun i h=>h.IsStrIter it ty x t i) (lD (A:=X.A.in1) hty (I.ok.hd hc) it x t) he st fun h' eb=>⟨rfl,I.turned (t':=s.toks) (fun b o hb e=>eb b o hb e) f0 f1 f3 f4 f5⟩
 self:=fun _ _ _ _ _ ⟨⟨_,he⟩,_⟩ h=>wpAny_pyIter_enum he h
def Bz(ta:TA):TI:=fun σ H R=>ta σ H fun vs H1=>∃x,vs=[.str x]/\R (Fh x) H1
theorem vD{X:Cx}{elts:List Expr}{x1}{tpos:Pos}{a:Expr}{ta:TA}{p pos:Pos}(hg:Gl X "enumerate")(hm:X.mg "enumerate"=none)(ha:PA X [a] ta)(hs:starEach [a] X.env=[(false,eval a X.env)]:=by rfl) :
  PI X (.Tuple elts x1 tpos) (.Call (.Name "enumerate" p) [a] [] pos) (Bz ta):=by
 intro pins s σ H R I h
 refine Call_ (jC I hg hm boot_enumerate (PyProof.Rows.callWith_type1 (bx (ha pos pins s σ H _ I h) fun us s1 ⟨vs,H1,I1,r1,q1⟩=> ?_) hs rfl))
 obtain⟨x,e,q⟩:=q1
 subst e
 obtain⟨u,rfl,ru⟩:=r1.one
 obtain⟨t,rfl⟩:=ru
 refine call_enumerate_str fun h' he st hsz kk=> ?_
 refine wpAny_pyIter_enum (s:={ s1 with heap:=h' }) he ?_
 have hty:strIterType x="str_ascii_iterator"\/strIterType x="str_iterator":=by
  unfold strIterType
  split
  ·exact .inl rfl
  ·exact .inr rfl
 refine⟨s1.heap.objs.size+1,[s1.heap.objs.size,s1.heap.objs.size+1],_,_,H1,rfl,I1.kept (t':=s1.toks) kk,pG hty _ _ (Nat.succ_ne_self _),⟨⟨_,he⟩,st⟩,fun b hb=> ?_,q⟩
 have e:b=s1.heap.objs.size\/b=s1.heap.objs.size+1:=by simpa using hb
 rcases e with rfl|rfl
 ·exact I1.fpOk .(Ac) (I1.hok.fresh .(Ac))
 ·exact I1.fpOk (Nat.le_succ _) (I1.hok.fresh (Nat.le_succ _))
end L2
namespace DN
open PySem PySem.Spec PyProof.Rows L2
noncomputable section
variable{X:Cx}{G:Pg}{da:DP}{ds:DS}{pos p cpos:Pos}
noncomputable def pH(d:DP):DA:=fun ps=>(d ps).bind fun x=>match x with | .str y=> .ok (bv 0 (sgP y))|_=> .bad
def sForES(d:DP)(g:DG)(body:DS):DS:=sFor (pH d) g body
theorem yP{elts:List Expr}{x1}{tpos:Pos}{ea:Expr}{body:List Stmt}{g:DG}(hp:PassesOwn .(E) X.A X.env X.xe)(hc:X.calm=true)(hgl:Gl X "enumerate")(hm:X.mg "enumerate"=none)(ha:JP X G ea da)(hg:JG X G (.Tuple elts x1 tpos) g)(hb:nB X G body ds)
  (hs1:starEach [ea] X.env=[(false,eval ea X.env)]:=by rfl) (hs:∀x,foldedSetIterable (.Call (.Name "enumerate" p) [ea] [] cpos) X.env x=pure x:=by intro _;rfl):JS X G (.For (.Tuple elts x1 tpos) (.Call (.Name "enumerate" p) [ea] [] cpos) body [] pos) (sForES da g ds) :=
 eK (ue hp hc (vD hgl hm (dg ha fU hs1) hs1) hg hb hs) fun D σ H ⟨c,ow,ps,R,q⟩=>by
 obtain⟨es,e1,q⟩:=aY q
 obtain⟨w,e2,e1⟩:=ai e1
 refine⟨c,ow,ps,w,R,e2,fun v H1 s1 r1=> ?_⟩
 split at e1
 ·rename_i y
  cases e1
  obtain rfl:v=V.str y:=r1
  have hws:(sgP y).length=y.cps.size:=by simp[sgP]
  refine⟨y,rfl,?_⟩
  generalize hw:sgP y=ws at *
  refine⟨fun i m σ' H'=>∃ow' ps',m=ws.length-i/\i<=ws.length/\aU X.K G c H' ow' ps' σ'/\Kp X.K G H1 (av c ow) H' (av c ow')/\cR X.K G c H' (av c ow') D (forD g ds ((bv 0 ws).drop i) ps'),
   ⟨_,ow,ps,rfl,Nat.zero_le _,R.grow s1,Kp.of_same (Same.refl _),q.mono (Kp.of_same s1)⟩,?_⟩
  rintro i m σ' H' ⟨ow',ps',rfl,hi',R',k',q'⟩
  rcases Nat.lt_or_ge i ws.length with hlt|hge
  ·right
   have hlt':i<(bv 0 ws).length:=by rw[k5];exact hlt
   have he:=qB 0 ws i
   rw[List.getElem?_eq_getElem hlt',List.getElem?_eq_getElem hlt]at he
   have he:(bv 0 ws)[i]= .tup [.int ((i:Nat):Int),ws[i]]:=by
    have:=Option.some.inj he
    rw[this];simp
   rw[List.drop_eq_getElem_cons hlt',he]at q'
   refine⟨by show i<y.cps.size;omega,_,fun _ _ h=>h,fun yy H2 hyl=> ?_⟩
   obtain⟨pp,ch,hpp,rfl,hch,rfl⟩:=hyl
   have hwi:ws[i]= .str ⟨#[ch]⟩:=by
    have h1:ws[i]? =some (.str ⟨#[ch]⟩):=by
     rw[<-hw]
     unfold sgP
     rw[List.getElem?_map,Array.getElem?_toList,hch]
     rfl
    rw[List.getElem?_eq_getElem hlt]at h1
    exact Option.some.inj h1
   rw[hwi]at q'
   have sp:=bt hpp (.tup [V.int (i:Int),.str ⟨#[ch]⟩])
   obtain⟨ps1,c1,q'⟩:=aY q'
   have rT:cU X.K G (upd H' pp (.tup [V.int (i:Int),.str ⟨#[ch]⟩])) (av c ow') (.tup [.int ((i:Nat):Int),.str ⟨#[ch]⟩]) (.ref pp) :=
    ⟨pp,_,rfl,au,⟨_,_,rfl,rfl,_,_,rfl,rfl,rfl⟩⟩
   refine⟨c,ow',ps',_,ps1,R'.grow sp,rT,c1,fun σ3 ow3 R3 wk3=> ?_⟩
   have k3:Kp X.K G H1 (av c ow) (upd H' pp (.tup [V.int (i:Int),.str ⟨#[ch]⟩])) (av c ow3):=(k'.trans (Kp.of_same sp)).trans (Kp.weak wk3)
   have q3:=(q'.mono (Kp.of_same (K:=X.K) (G:=G) sp)).mono (Kp.weak (K:=X.K) (G:=G) wk3)
   refine⟨c,ow3,ps1,R3,?_⟩
   cases er:ds ps1 with
   |nx ps2 =>
    rw[er]at q3
    exact fun σ4 H4 ow4 R4 k4=>⟨ws.length-(i+1),by omega,ow4,ps2,rfl,hlt,R4,k3.trans k4,cR.mono q3 k4⟩
   |cnt ps2 =>
    rw[er]at q3
    exact fun σ4 H4 ow4 R4 k4=>⟨ws.length-(i+1),by omega,ow4,ps2,rfl,hlt,R4,k3.trans k4,cR.mono q3 k4⟩
   |brk ps2=>rw[er]at q3;exact q3
   |ret w=>rw[er]at q3;exact q3
   |retn xs=>rw[er]at q3;exact q3
   |reti w x=>rw[er]at q3;exact q3
   |bad=>rw[er]at q3;exact q3
   |exc c=>rw[er]at q3;exact q3
  ·left
   have hl:i=ws.length:=Nat.le_antisymm hi' hge
   rw[List.drop_eq_nil_of_le (by rw[k5];omega)]at q'
   exact⟨by show i=y.cps.size;omega,q' σ' H' ow' R' (Kp.of_same (Same.refl _))⟩
 ·cases e1
end
@[simp]theorem yQ(da:DP)(ds:DS)(ps:aT)(g:DG):sForES da g ds ps=(pH da ps).st fun ws=>forD g ds ws ps:=rfl
@[simp]theorem GG(da:DP)(ps:aT):pH da ps=(da ps).bind fun x=>match x with | .str y=> .ok (bv 0 (sgP y))|_=> .bad:=rfl
end DN
namespace L2
open PySem PySem.Spec PyProof.Rows
noncomputable section
variable{P:Program}{w:World}{K:Fg}{mg:Str->Option Value}{base:Bs}{C f:Addr}{fd:FuncData}{qual:Str}{st:Stmt}
theorem vE{a b c d:Str}{p1 p2 p3 p4 q1 q2 q3 q4 r1 r2 r3 r4 s1 s2 s3 s4:Pos}(F:fE K "__init__" qual st f fd)(hb:bz st=[.Assign [.Attribute (.Name "self" p1) a p2] (.Name a p3) p4,.Assign [.Attribute (.Name "self" q1) b q2] (.Name b q3) q4,.Assign [.Attribute (.Name "self" r1) c r2] (.Name c r3) r4,.Assign [.Attribute (.Name "self" s1) d s2] (.Name d s3) s4])
  (S:am ["self",a,b,c,d] ["self",a,b,c,d] (ah st)) (cl:kO K C) (na:bj K C a) (nb:bj K C b) (nc:bj K C c) (nd:bj K C d) (hd:(a == .(L))=false) (hcd:(a == .(Ad))=false)
  (hd':(b == .(L))=false) (hcd':(b == .(Ad))=false) (hd'':(c == .(L))=false) (hcd'':(c == .(Ad))=false) (hd3:(d == .(L))=false) (hcd3:(d == .(Ad))=false) (ab:¬a=b) (ac:¬a=c) (ad:¬a=d) (bc:¬b=c) (bd:¬b=d) (cd:¬c=d):cN P w K mg base fS 1 f fd ["self",a,b,c,d] (nV C [a,b,c,d]):=by
 refine F.ok S (fun vs H Q E h=> ?_) (fun cdv A outer s H vs Q E hr h=> ?_)
 ·obtain⟨p,dx,r,rfl,hl,_⟩:=h
  match r,hl with|[_,_,_,_],_=>rfl
 ·obtain⟨p,dx,r,rfl,hl,hp,q⟩:=h
  match r,hl with
  |[v,u,z,y],_ =>
   have vis:∀x∈(["self",a,b,c,d]:List Str),lX (ah st) x:=fun x hx=>(S.par x hx).elim (fun z=> .inl z) fun z=> .inr (.inl z)
   have e:ck b u (ck a v [])=[(a,v),(b,u)]:=by
    show(if a=b then _ else(a,v)::ck b u [])=_
    rw[if_neg ab]
    rfl
   have e':ck c z [(a,v),(b,u)]=[(a,v),(b,u),(c,z)]:=by
    show(if a=c then _ else(a,v)::(if b=c then _ else(b,u)::ck c z []))=_
    rw[if_neg ac,if_neg bc]
    rfl
   rw[hb]
   refine⟨_,dJ (dL .(Av) (aV (i:=1) rfl (vis a (by simp)) hd hcd) rfl) (dJ (dL .(Av) (aV (i:=2) rfl (vis b (by simp)) hd' hcd') rfl) (dJ (dL .(Av) (aV (i:=3) rfl (vis c (by simp)) hd'' hcd'') rfl) (hV (dL .(Av) (aV (i:=4) rfl (vis d (by simp)) hd3 hcd3) rfl)))),?_⟩
   refine⟨v,rfl,_,rfl,p,C,dx,[],rfl,hp,cl,na,(by show 0<1000;decide),u,rfl,_,rfl,p,C,dx,_,rfl,au,cl,nb,(by show 1<1000;decide),z,rfl,_,rfl,p,C,dx,_,rfl,au,cl,nc,?_,y,rfl,_,rfl,p,C,dx,_,rfl,au,cl,nd,?_,?_⟩
   ·rw[e];show 2<1000;decide
   ·rw[e,e'];show 3<1000;decide
   ·have e2:ck d y [(a,v),(b,u),(c,z)]=[(a,v),(b,u),(c,z),(d,y)]:=by
     show(if a=d then _ else(a,v)::(if b=d then _ else(b,u)::(if c=d then _ else(c,z)::ck d y [])))=_
     rw[if_neg ad,if_neg bd,if_neg cd]
     rfl
    rw[fh,fh,fh,e,e',e2]
    exact q
end
end L2
namespace DN
open PySem PySem.Spec PyProof.Rows L2
def mP(K:Fg)(X:Value):List Value->List (Nat×Bool)->Prop
 |v::vs,(_,b)::ps=>PySem.W.kitOne K v X=some b/\mP K X vs ps
 |_,_=>True
theorem eB{K:Fg}{G:Pg}{cv:Value}{N:Nat}(hC:∀c,c<N->og K (G.cA c)):∀{l:List (Nat×Bool)} {vs:List Value},mP K cv vs l->vs=l.map (fun p=>pk G p.1)->(∀p∈l,p.1<9\/(10<=p.1/\p.1<N+10))->dO K G cv l
 |[],_,_,_,_=>B7
 | (q,b)::l,vs,h,e,d=>by
  subst e
  have r:=eB hC (l:=l) h.2 rfl fun p hp=>d p (List.mem_cons_of_mem _ hp)
  rcases d (q,b) List.mem_cons_self with h9|⟨h10,hn⟩
  ·exact yu h.1 h9 r
  ·obtain⟨c,rfl⟩:∃c,q=c+10:=⟨q-10,by simp at h10;omega⟩
   exact uX h.1 (hC c (by simp at hn;omega)) r
end DN
end
noncomputable section
namespace M63
open PySem L2 DN
open PyProof.Rows (boot_isinstance boot_bool boot_int boot_str boot_tuple boot_list boot_dict boot_sum boot_all boot_any boot_abs boot_enumerate boot_min boot_max)
noncomputable def top(i:Nat):Stmt:=PySem.Challenge.pw_anymeaning_k63_words_that_break.main.body.getD i (.Pass ⟨0,0,0,0⟩)
noncomputable def fN:Nat->List Str
 |0=>[]
 |1=>[]
 |2=>[]
 |3=>["name"]
 |4=>["inner"]
 |5=>["left","right"]
 |6=>["left","right"]
 |7=>[]
 |8=>[]
 |9=>[]
 |10=>["name"]
 |11=>["head","tail"]
 |12=>["test","yes","no"]
 |13=>["test","body"]
 |14=>["unbarred","let_by","lasting"]
 |15=>["bonds","begin","starts","door"]
 |16=>["step","doors"]
 |17=>[]
 |18=>["marks"]
 |19=>["settings","deeds"]
 |20=>[]
 |21=>["test"]
 |22=>["before","deed","after"]
 |23=>["test","deed"]
 |_=>[]
abbrev vF:Stmt:=top 5
abbrev vG:Stmt:=top 6
abbrev vH:Stmt:=top 29
abbrev vI:Stmt:=top 30
abbrev vJ:Stmt:=top 31
abbrev vK:Stmt:=top 32
abbrev vL:Stmt:=top 36
abbrev vM:Stmt:=top 37
abbrev vN:Stmt:=top 40
abbrev vO:Stmt:=top 41
abbrev vP:Stmt:=top 42
abbrev vQ:Stmt:=top 43
abbrev vR:Stmt:=top 44
abbrev vS:Stmt:=top 45
abbrev vT:Stmt:=top 46
abbrev vU:Stmt:=top 51
abbrev oE:Stmt:=top 52
abbrev vV:Stmt:=top 59
abbrev vW:Stmt:=top 60
abbrev vX:Stmt:=top 61
abbrev vY:Stmt:=top 62
abbrev vZ:Stmt:=top 63
abbrev w8:Stmt:=top 64
abbrev w9:Stmt:=top 65
abbrev wa:Stmt:=top 66
abbrev wb:Stmt:=top 67
abbrev wc:Stmt:=top 68
abbrev wd:Stmt:=top 69
abbrev we:Stmt:=top 70
abbrev wf:Stmt:=top 71
abbrev wj:Stmt:=top 72
abbrev wm:Stmt:=top 73
abbrev oF:Stmt:=top 74
abbrev wn:Stmt:=aP (top 7) 1
abbrev wo:Stmt:=aP (top 8) 0
abbrev wp:Stmt:=aP (top 9) 0
abbrev wq:Stmt:=aP (top 10) 1
abbrev wt:Stmt:=aP (top 11) 1
abbrev wu:Stmt:=aP (top 12) 1
abbrev wv:Stmt:=aP (top 13) 1
abbrev ww:Stmt:=aP (top 28) 1
abbrev wx:Stmt:=aP (top 28) 2
abbrev wz:Stmt:=aP (top 35) 1
abbrev wA:Stmt:=aP (top 35) 4
abbrev wB:Stmt:=aP (top 48) 0
abbrev wC:Stmt:=aP (top 50) 1
abbrev wD:Stmt:=aP (top 54) 0
abbrev wE:Stmt:=aP (top 54) 2
abbrev wF:Stmt:=aP (top 55) 1
abbrev wG:Stmt:=aP (top 56) 1
abbrev wH:Stmt:=aP (top 57) 1
abbrev wI:Stmt:=aP (top 28) 0
abbrev wJ:Stmt:=aP (top 39) 0
abbrev wK:Stmt:=aP (top 49) 0
abbrev wL:Stmt:=aP (top 50) 0
abbrev sC:jw:=EY ["rooms","fit"] (Bo 1 oE)
noncomputable def nF:Nat->jw
 |55=>sC
 |_=>default
abbrev tC:List (Nat×Nat):=[(55,2)]
noncomputable def pg(cA:Nat->Addr):Pg:=⟨cA,fN,nF⟩
abbrev jy:List (Nat×Nat):=[(22,2)]
abbrev iz:List (Nat×Nat):=[(22,0)]
abbrev eC:List (Nat×Nat):=[(15,1)]
abbrev mQ:List (Nat×Nat):=[(13,1)]
abbrev dF:List (Nat×Nat):=[(15,0)]
abbrev gZ:List (Nat×Nat):=[(22,1),(23,1)]
abbrev gv:List (Nat×Nat):=[(19,1)]
abbrev dU:List (Nat×Nat):=[(15,3)]
abbrev cT:List (Nat×Nat):=[(16,1)]
abbrev mR:List (Nat×Nat):=[(11,0)]
abbrev mS:List (Nat×Nat):=[(4,0)]
abbrev eX:List (Nat×Nat):=[(14,2)]
abbrev ka:List (Nat×Nat):=[(5,0),(6,0)]
abbrev eY:List (Nat×Nat):=[(14,1)]
abbrev kf:List (Nat×Nat):=[(3,0),(10,0)]
abbrev yR:List (Nat×Nat):=[(12,2)]
abbrev iA:List (Nat×Nat):=[(5,1),(6,1)]
abbrev fw:List (Nat×Nat):=[(19,0)]
abbrev cj:List (Nat×Nat):=[(15,2)]
abbrev mT:List (Nat×Nat):=[(11,1)]
abbrev cC:List (Nat×Nat):=[(12,0),(13,0),(21,0),(23,0)]
abbrev fA:List (Nat×Nat):=[(14,0)]
abbrev qK:List (Nat×Nat):=[(12,1)]
abbrev iY:List (Nat×Nat):=[(20,46),(21,48),(22,46),(23,46)]
abbrev gh:List (Nat×Nat):=[(14,40)]
abbrev aL:List (Nat×Nat):=[(1,34),(2,35),(3,36),(4,37),(5,38),(6,39)]
abbrev eZ:List (Nat×Nat):=[(15,43)]
abbrev bU:List (Nat×Nat):=[(20,47),(21,47),(22,49),(23,50)]
abbrev hE:List (Nat×Nat):=[(0,33),(1,33),(2,33),(3,33),(4,33),(5,33),(6,33)]
abbrev f7:List (Nat×Nat):=[(15,42)]
abbrev dW:List (Nat×Nat):=[(17,44),(19,45)]
abbrev bQ:List (Nat×Nat):=[(14,41)]
abbrev i_z0d:List (Nat×Bool):=[(0,false),(1,false),(2,false),(3,false),(4,false),(5,false),(6,false),(0+10,false),(1+10,false),(2+10,false),(3+10,false),(4+10,false),(5+10,false),(6+10,false),(7+10,false),(8+10,false),(9+10,false),(10+10,false),(11+10,false),(12+10,false),(13+10,false),(14+10,false),(15+10,false),(16+10,false),(17+10,false),(18+10,false),(19+10,true),(20+10,false),(21+10,false),(22+10,false),(23+10,false)]
abbrev i_z06:List (Nat×Bool):=[(0,false),(1,false),(2,false),(3,false),(4,false),(5,false),(6,false),(0+10,false),(1+10,false),(2+10,false),(3+10,false),(4+10,false),(5+10,false),(6+10,false),(7+10,false),(8+10,false),(9+10,false),(10+10,false),(11+10,false),(12+10,true),(13+10,false),(14+10,false),(15+10,false),(16+10,false),(17+10,false),(18+10,false),(19+10,false),(20+10,false),(21+10,false),(22+10,false),(23+10,false)]
abbrev i_z04:List (Nat×Bool):=[(0,false),(1,false),(2,false),(3,false),(4,false),(5,false),(6,false),(0+10,false),(1+10,false),(2+10,false),(3+10,false),(4+10,false),(5+10,false),(6+10,false),(7+10,false),(8+10,false),(9+10,false),(10+10,true),(11+10,false),(12+10,false),(13+10,false),(14+10,false),(15+10,false),(16+10,false),(17+10,false),(18+10,false),(19+10,false),(20+10,false),(21+10,false),(22+10,false),(23+10,false)]
abbrev i_z05:List (Nat×Bool):=[(0,false),(1,false),(2,false),(3,false),(4,false),(5,false),(6,false),(0+10,false),(1+10,false),(2+10,false),(3+10,false),(4+10,false),(5+10,false),(6+10,false),(7+10,false),(8+10,false),(9+10,false),(10+10,false),(11+10,true),(12+10,false),(13+10,false),(14+10,false),(15+10,false),(16+10,false),(17+10,false),(18+10,false),(19+10,false),(20+10,false),(21+10,false),(22+10,false),(23+10,false)]
abbrev i_z02:List (Nat×Bool):=[(0,false),(1,false),(2,false),(3,false),(4,false),(5,false),(6,false),(0+10,false),(1+10,false),(2+10,false),(3+10,false),(4+10,false),(5+10,false),(6+10,false),(7+10,false),(8+10,true),(9+10,false),(10+10,false),(11+10,false),(12+10,false),(13+10,false),(14+10,false),(15+10,false),(16+10,false),(17+10,false),(18+10,false),(19+10,false),(20+10,false),(21+10,false),(22+10,false),(23+10,false)]
abbrev i_z03:List (Nat×Bool):=[(0,false),(1,false),(2,false),(3,false),(4,false),(5,false),(6,false),(0+10,false),(1+10,false),(2+10,false),(3+10,false),(4+10,false),(5+10,false),(6+10,false),(7+10,false),(8+10,false),(9+10,true),(10+10,false),(11+10,false),(12+10,false),(13+10,false),(14+10,false),(15+10,false),(16+10,false),(17+10,false),(18+10,false),(19+10,false),(20+10,false),(21+10,false),(22+10,false),(23+10,false)]
abbrev i_bool:List (Nat×Bool):=[(0,false),(1,true),(2,false),(3,false),(4,false),(5,false),(6,false),(0+10,false),(1+10,false),(2+10,false),(3+10,false),(4+10,false),(5+10,false),(6+10,false),(7+10,false),(8+10,false),(9+10,false),(10+10,false),(11+10,false),(12+10,false),(13+10,false),(14+10,false),(15+10,false),(16+10,false),(17+10,false),(18+10,false),(19+10,false),(20+10,false),(21+10,false),(22+10,false),(23+10,false)]
@[simp]theorem zL(x0 x1 x2:PV):aW jy (.obj 22 [x0,x1,x2])= .ok x2:=rfl
@[simp]theorem yS(x0 x1 x2:PV):aW iz (.obj 22 [x0,x1,x2])= .ok x0:=rfl
@[simp]theorem zM(x0 x1 x2 x3:PV):aW eC (.obj 15 [x0,x1,x2,x3])= .ok x1:=rfl
@[simp]theorem BA(x0 x1:PV):aW mQ (.obj 13 [x0,x1])= .ok x1:=rfl
@[simp]theorem zN(x0 x1 x2 x3:PV):aW dF (.obj 15 [x0,x1,x2,x3])= .ok x0:=rfl
@[simp]theorem BC(x0 x1 x2:PV):aW gZ (.obj 22 [x0,x1,x2])= .ok x1:=rfl
@[simp]theorem BD(x0 x1:PV):aW gZ (.obj 23 [x0,x1])= .ok x1:=rfl
@[simp]theorem zO(x0 x1:PV):aW gv (.obj 19 [x0,x1])= .ok x1:=rfl
@[simp]theorem BE(x0 x1 x2 x3:PV):aW dU (.obj 15 [x0,x1,x2,x3])= .ok x3:=rfl
@[simp]theorem zP(x0 x1:PV):aW cT (.obj 16 [x0,x1])= .ok x1:=rfl
@[simp]theorem BF(x0 x1:PV):aW mR (.obj 11 [x0,x1])= .ok x0:=rfl
@[simp]theorem BG(x0:PV):aW mS (.obj 4 [x0])= .ok x0:=rfl
@[simp]theorem xy(x0 x1 x2:PV):aW eX (.obj 14 [x0,x1,x2])= .ok x2:=rfl
@[simp]theorem CS(x0 x1:PV):aW ka (.obj 5 [x0,x1])= .ok x0:=rfl
@[simp]theorem CT(x0 x1:PV):aW ka (.obj 6 [x0,x1])= .ok x0:=rfl
@[simp]theorem yT(x0 x1 x2:PV):aW eY (.obj 14 [x0,x1,x2])= .ok x1:=rfl
@[simp]theorem CU(x0:PV):aW kf (.obj 3 [x0])= .ok x0:=rfl
@[simp]theorem BH(x0:PV):aW kf (.obj 10 [x0])= .ok x0:=rfl
@[simp]theorem Fi(x0 x1 x2:PV):aW yR (.obj 12 [x0,x1,x2])= .ok x2:=rfl
@[simp]theorem BI(x0 x1:PV):aW iA (.obj 5 [x0,x1])= .ok x1:=rfl
@[simp]theorem BJ(x0 x1:PV):aW iA (.obj 6 [x0,x1])= .ok x1:=rfl
@[simp]theorem wM(x0 x1:PV):aW fw (.obj 19 [x0,x1])= .ok x0:=rfl
@[simp]theorem yU(x0 x1 x2 x3:PV):aW cj (.obj 15 [x0,x1,x2,x3])= .ok x2:=rfl
@[simp]theorem BK(x0 x1:PV):aW mT (.obj 11 [x0,x1])= .ok x1:=rfl
@[simp]theorem BL(x0 x1 x2:PV):aW cC (.obj 12 [x0,x1,x2])= .ok x0:=rfl
@[simp]theorem BM(x0 x1:PV):aW cC (.obj 13 [x0,x1])= .ok x0:=rfl
@[simp]theorem BN(x0:PV):aW cC (.obj 21 [x0])= .ok x0:=rfl
@[simp]theorem BO(x0 x1:PV):aW cC (.obj 23 [x0,x1])= .ok x0:=rfl
@[simp]theorem wN(x0 x1 x2:PV):aW fA (.obj 14 [x0,x1,x2])= .ok x0:=rfl
@[simp]theorem CV(x0 x1 x2:PV):aW qK (.obj 12 [x0,x1,x2])= .ok x1:=rfl
#synth .(is i_z0d 7 24 [] [19])
#synth .(is i_z06 7 24 [] [12])
#synth .(is i_z04 7 24 [] [10])
#synth .(is i_z05 7 24 [] [11])
#synth .(is i_z02 7 24 [] [8])
#synth .(is i_z03 7 24 [] [9])
#synth .(is i_bool 7 24 [1] [])
abbrev fB:List PV:=[PV.str "P",PV.str "Q",PV.str "R",PV.str "S",PV.str "T"]
abbrev iZ:List PV:=[PV.str "done",PV.str "stopped",PV.str "hung"]
abbrev lE:List PV:=[PV.str "a",PV.str "b",PV.str "c",PV.str "d"]
structure Ct(P:Program)(w:World)(K:Fg)(mg:Str->Option Value)(base:Bs)(cA:Nat->Addr)(ts:List Addr):Prop where
 tb:base.tabs=ts
 c_zU:mg "Test"=some (.ref ((pg cA).cA 0))
 l_zU:bu K ((pg cA).cA 0)
 c_zV:mg "Yes"=some (.ref ((pg cA).cA 1))
 l_zV:bu K ((pg cA).cA 1)
 c_zW:mg "No"=some (.ref ((pg cA).cA 2))
 l_zW:bu K ((pg cA).cA 2)
 c_zX:mg "Named"=some (.ref ((pg cA).cA 3))
 l_zX:bu K ((pg cA).cA 3)
 c_zY:mg "Not"=some (.ref ((pg cA).cA 4))
 l_zY:bu K ((pg cA).cA 4)
 c_zZ:mg "Both"=some (.ref ((pg cA).cA 5))
 l_zZ:bu K ((pg cA).cA 5)
 c_z00:mg "Either"=some (.ref ((pg cA).cA 6))
 l_z00:bu K ((pg cA).cA 6)
 c_z01:mg "Step"=some (.ref ((pg cA).cA 7))
 l_z01:bu K ((pg cA).cA 7)
 c_z02:mg "Skip"=some (.ref ((pg cA).cA 8))
 l_z02:bu K ((pg cA).cA 8)
 c_z03:mg "Stop"=some (.ref ((pg cA).cA 9))
 l_z03:bu K ((pg cA).cA 9)
 c_z04:mg "Deed"=some (.ref ((pg cA).cA 10))
 l_z04:bu K ((pg cA).cA 10)
 c_z05:mg "Row"=some (.ref ((pg cA).cA 11))
 l_z05:bu K ((pg cA).cA 11)
 c_z06:mg "Choice"=some (.ref ((pg cA).cA 12))
 l_z06:bu K ((pg cA).cA 12)
 c_z07:mg "Loop"=some (.ref ((pg cA).cA 13))
 l_z07:bu K ((pg cA).cA 13)
 c_z08:mg "Bonds"=some (.ref ((pg cA).cA 14))
 l_z08:bu K ((pg cA).cA 14)
 c_z09:mg "Maze"=some (.ref ((pg cA).cA 15))
 l_z09:bu K ((pg cA).cA 15)
 c_z0a:mg "Rooms"=some (.ref ((pg cA).cA 16))
 l_z0a:bu K ((pg cA).cA 16)
 c_z0b:mg "Finding"=some (.ref ((pg cA).cA 17))
 l_z0b:bu K ((pg cA).cA 17)
 c_z0c:mg "Kept"=some (.ref ((pg cA).cA 18))
 l_z0c:bu K ((pg cA).cA 18)
 c_z0d:mg "Broken"=some (.ref ((pg cA).cA 19))
 l_z0d:bu K ((pg cA).cA 19)
 c_z0e:mg "Saying"=some (.ref ((pg cA).cA 20))
 l_z0e:bu K ((pg cA).cA 20)
 c_z0f:mg "Nowhere"=some (.ref ((pg cA).cA 21))
 l_z0f:bu K ((pg cA).cA 21)
 c_z0g:mg "Behind"=some (.ref ((pg cA).cA 22))
 l_z0g:bu K ((pg cA).cA 22)
 c_z0h:mg "Through"=some (.ref ((pg cA).cA 23))
 l_z0h:bu K ((pg cA).cA 23)
 n_z0g:ee P w K mg base "Behind" ((pg cA).cA 22) ((pg cA).fN 22)
 n_zZ:ee P w K mg base "Both" ((pg cA).cA 5) ((pg cA).fN 5)
 n_z06:ee P w K mg base "Choice" ((pg cA).cA 12) ((pg cA).fN 12)
 n_z04:ee P w K mg base "Deed" ((pg cA).cA 10) ((pg cA).fN 10)
 n_z00:ee P w K mg base "Either" ((pg cA).cA 6) ((pg cA).fN 6)
 n_z07:ee P w K mg base "Loop" ((pg cA).cA 13) ((pg cA).fN 13)
 n_z09:ee P w K mg base "Maze" ((pg cA).cA 15) ((pg cA).fN 15)
 n_zX:ee P w K mg base "Named" ((pg cA).cA 3) ((pg cA).fN 3)
 k_zW:AS K ((pg cA).cA 2)
 n_zY:ee P w K mg base "Not" ((pg cA).cA 4) ((pg cA).fN 4)
 n_z0f:ee P w K mg base "Nowhere" ((pg cA).cA 21) ((pg cA).fN 21)
 n_z05:ee P w K mg base "Row" ((pg cA).cA 11) ((pg cA).fN 11)
 k_z02:AS K ((pg cA).cA 8)
 k_z03:AS K ((pg cA).cA 9)
 n_z0h:ee P w K mg base "Through" ((pg cA).cA 23) ((pg cA).fN 23)
 k_zV:AS K ((pg cA).cA 1)
 x_Bonds_unbarred:bj K ((pg cA).cA 14) "unbarred"
 x_Bonds_let_by:bj K ((pg cA).cA 14) "let_by"
 x_Bonds_lasting:bj K ((pg cA).cA 14) "lasting"
 x_Broken_settings:bj K ((pg cA).cA 19) "settings"
 x_Broken_deeds:bj K ((pg cA).cA 19) "deeds"
 x_Kept_marks:bj K ((pg cA).cA 18) "marks"
 x_Rooms_step:bj K ((pg cA).cA 16) "step"
 x_Rooms_doors:bj K ((pg cA).cA 16) "doors"
 f_after:bH K (pg cA) "after" jy
 f_before:bH K (pg cA) "before" iz
 f_begin:bH K (pg cA) "begin" eC
 f_body:bH K (pg cA) "body" mQ
 f_bonds:bH K (pg cA) "bonds" dF
 f_deed:bH K (pg cA) "deed" gZ
 f_deeds:bH K (pg cA) "deeds" gv
 f_door:bH K (pg cA) "door" dU
 f_doors:bH K (pg cA) "doors" cT
 f_head:bH K (pg cA) "head" mR
 f_inner:bH K (pg cA) "inner" mS
 f_lasting:bH K (pg cA) "lasting" eX
 f_left:bH K (pg cA) "left" ka
 f_let_by:bH K (pg cA) "let_by" eY
 f_name:bH K (pg cA) "name" kf
 f_no:bH K (pg cA) "no" yR
 f_right:bH K (pg cA) "right" iA
 f_settings:bH K (pg cA) "settings" fw
 f_starts:bH K (pg cA) "starts" cj
 f_tail:bH K (pg cA) "tail" mT
 f_test:bH K (pg cA) "test" cC
 f_unbarred:bH K (pg cA) "unbarred" fA
 f_yes:bH K (pg cA) "yes" qK
 i_z0d:dO K (pg cA) (.ref ((pg cA).cA 19)) i_z0d
 i_z06:dO K (pg cA) (.ref ((pg cA).cA 12)) i_z06
 i_z04:dO K (pg cA) (.ref ((pg cA).cA 10)) i_z04
 i_z05:dO K (pg cA) (.ref ((pg cA).cA 11)) i_z05
 i_z02:dO K (pg cA) (.ref ((pg cA).cA 8)) i_z02
 i_z03:dO K (pg cA) (.ref ((pg cA).cA 9)) i_z03
 i_bool:dO K (pg cA) (.type "bool") i_bool
 e_DEEDS:∃a,mg "DEEDS"=some (.ref a)/\jm K a [V.str "P",V.str "Q",V.str "R",V.str "S",V.str "T"]
 e_DONE:∃t,mg "DONE"=some (.str "done" t)
 e_ENDS:∃a,mg "ENDS"=some (.ref a)/\jm K a [V.str "done",V.str "stopped",V.str "hung"]
 e_EVERY:∃t,mg "EVERY"=some (.int (65535) t)
 e_FOUND:∃t,mg "FOUND"=some (.str "found" t)
 e_HUNG:∃t,mg "HUNG"=some (.str "hung" t)
 e_LETTERS:∃a,mg "LETTERS"=some (.ref a)/\jm K a [V.str "a",V.str "b",V.str "c",V.str "d"]
 e_SETTINGS:∃t,mg "SETTINGS"=some (.int (16) t)
 e_STOPPED:∃t,mg "STOPPED"=some (.str "stopped" t)
 z_all:mg "all"=none
 z_any:mg "any"=none
 z_bool:mg "bool"=none
 z_enumerate:mg "enumerate"=none
 z_isinstance:mg "isinstance"=none
 z_len:mg "len"=none
 z_list:mg "list"=none
 z_max:mg "max"=none
 z_range:mg "range"=none
theorem Fj:am ["setting","mask"] ["setting","mask"] (ah vF):= .q
noncomputable def sE(g:Nat->List PV->Rx PV):DS :=
 (aG (d2 cB (d2 gP (d2 si (dSee 1) (dSee 0)) (dC (.int 1))) (dC (.int 1))))
theorem Fk:am ["mask"] ["mask"] (ah vG):= .q
noncomputable def sF(g:Nat->List PV->Rx PV):DS :=
 (aG (dOfN (dComp ["setting"] [("mask",0)] .(Aa) (ar 0) (aS (dCall (g 0) (dCons (ae 0) .(O)))) (ae 0))))
theorem qL:am ["sayings","mask","setting"] ["sayings"] (ah vH):= .q
noncomputable def mU(g:Nat->List PV->Rx PV):DS :=
 (cG (aS (dCall yC (dCons (dOfN (dComp ["saying"] [("setting",2)] (aI (dSee 0)) (ar 0) bM (aM iY g (ae 0) .(O)))) dNil)))
 (jq 1 (fun i j=>i-j) (d2 jo (dC (.int 1)) (dSee 2)))
 aJ)
noncomputable def sG(g:Nat->List PV->Rx PV):DS :=
 (al (aF 1 (dC (.int (65535))))
 (al (sFor .(Aa) (ar 2)
 (mU g))
 (aG (ae 1))))
theorem wO:am ["sayings","masks","deed"] ["sayings"] (ah vI):= .q
noncomputable def mV(g:Nat->List PV->Rx PV):DS :=
 (jZ 1 (ae 2) (dOfN (dComp ["setting"] [("sayings",0),("deed",2)] .(Aa) (ar 0) bM (dCall (g 4) (dCons (ae 1) (dCons (ae 2) .(Ao)))))))
noncomputable def sH(g:Nat->List PV->Rx PV):DS :=
 (al (vh 1)
 (al (sFor (ft (dC (.tup fB))) (ar 2)
 (mV g))
 (g7 (gU 1))))
theorem qM:am ["sayings","deed","setting","mask","saying"] ["sayings","deed","setting"] (ah vJ):= .q
noncomputable def kg(g:Nat->List PV->Rx PV):DS :=
 (jq 3 (fun i j=>Builtin.bitAnd i j) (aM bU g (ae 4) (dCons (ae 1) (dCons (ae 2) dNil))))
noncomputable def sI(g:Nat->List PV->Rx PV):DS :=
 (al (aF 3 (dC (.int (65535))))
 (al (sFor (aI (ae 0)) (ar 4)
 (kg g))
 (aG (ae 3))))
theorem oG:am ["mask","let_by","left","setting"] ["mask","let_by"] (ah vK):= .q
noncomputable def mW(g:Nat->List PV->Rx PV):DS :=
 (cG (aS (dCall sv (dCons (dOfN (dComp ["deed"] [("mask",0),("setting",3),("let_by",1)] (ft (dC (.tup fB))) (ar 0) bM (d2 fJ (d2 gP (d2 fIx (d2 lr (dSee 3) (dSee 0)) (dSee 2)) (dSee 1)) (dC (.int 0))))) dNil)))
 (jq 2 (fun i j=>i+j) (d2 jo (dC (.int 1)) (dSee 3)))
 aJ)
noncomputable def kh(g:Nat->List PV->Rx PV):DS :=
 (al (aF 2 (dC (.int 0)))
 (al (sFor (aI (dCall (g 1) .(Ao))) (ar 3)
 (mW g))
 (al (cG (aS (d2 cB (dSee 2) (dSee 0)))
 (aG (ae 0))
 aJ)
 (aF 0 (ae 2)))))
noncomputable def sJ(g:Nat->List PV->Rx PV):DS :=
 (en (dS (aS (dC (.bl true))))
 (kh g))
theorem qN:am ["visit","settings","deeds"] ["visit"] (ah vL):= .q
noncomputable def j4(g:Nat->List PV->Rx PV):DS :=
 (al (cx (iq 1 (bS (d2 fIx (dSee 0) (dC (.int 1))))))
 (al (cx (iq 2 (bS (d2 fIx (dSee 0) (dC (.int 2))))))
 (aF 0 (d2 fIx (dSee 0) (dC (.int 3))))))
noncomputable def sK(g:Nat->List PV->Rx PV):DS :=
 (al (gW 1 dNil)
 (al (gW 2 dNil)
 (al (en (dS (aS (gK (dSee 0))))
 (j4 g))
 (al (cx (pz 1))
 (al (cx (pz 2))
 (g7 (iU (bI (gU 1) (bI (bS (d2 oz (dC (.str "")) (dSee 2))) iT)))))))))
theorem Fl:am ["mask","larger"] ["mask","larger"] (ah vM):= .q
noncomputable def BP(g:Nat->List PV->Rx PV):DS :=
 (aG (d2 cB (d2 gP (dSee 0) (dSee 1)) (dSee 0)))
theorem Fm:am ["step","ahead"] ["step","ahead"] (ah vN):= .q
noncomputable def kJ(g:Nat->List PV->Rx PV):DS :=
 (al (cG (aS (gQ i_z02 (dSee 0)))
 (aG (dOfN (dCons (dCall (g 9) (dCons (dC (.str "done")) dNil)) dNil)))
 aJ)
 (al (cG (aS (gQ i_z03 (dSee 0)))
 (aG (dOfN (dCons (dCall (g 9) (dCons (dC (.str "stopped")) dNil)) dNil)))
 aJ)
 (al (cG (aS (gQ i_z04 (dSee 0)))
 (aG (dOfN (dCons (dOfN (yE (dCons (bW (dCons (ba kf (ae 0)) (dCons (d2 fAdd (dSee 1) (dC (.int 1))) dNil))) dNil) (dC (.int (16))))) (dCons (dCall (g 9) (dCons (dC (.str "done")) dNil)) dNil))))
 aJ)
 (al (cG (aS (gQ i_z05 (dSee 0)))
 (aG (dCall (g 10) (dCons (ae 0) .(O))))
 aJ)
 (al (cG (aS (gQ i_z06 (dSee 0)))
 (aG (dCall (g 11) (dCons (ae 0) .(O))))
 aJ)
 (aG (dCall (g 12) (dCons (ae 0) .(O)))))))))
theorem Fn:am ["end"] ["end"] (ah vO):= .q
noncomputable def BQ(g:Nat->List PV->Rx PV):DS :=
 (aG (dOfN (yE (dCons (bW (dCons (ae 0) (dCons (dC (.int 0)) dNil))) dNil) (dC (.int (16))))))
theorem wP:am ["step","ahead","head","tail"] ["step","ahead"] (ah vP):= .q
noncomputable def sL(g:Nat->List PV->Rx PV):DS :=
 (al (aF 2 (dCall (g 8) (dCons (ba mR (ae 0)) .(O))))
 (al (aF 3 (dCall (g 8) (dCons (ba mT (ae 0)) (dCons (d2 uM (d2 fAdd (dSee 1) (dCall bLen (dCons (dSee 2) dNil))) (dC (.int 1))) dNil))))
 (aG (dOfN (dCatL (dOfN (dComp ["doors"] [("tail",3)] (aI (dSee 2)) (ar 0) bM (dCall (g 14) (dCons (ae 0) (dCons .(Ap) dNil))))) (dOfN (cJ (dSee 3) (gp (dC (.int 1))) hG)))))))
theorem qO:am ["step","ahead","yes","no","begin"] ["step","ahead"] (ah vQ):= .q
noncomputable def sM(g:Nat->List PV->Rx PV):DS :=
 (al (aF 2 (dCall (g 8) (dCons (ba qK (ae 0)) .(O))))
 (al (aF 3 (dCall (g 8) (dCons (ba yR (ae 0)) (dCons (d2 uM (d2 fAdd (dSee 1) (dCall bLen (dCons (dSee 2) dNil))) (dC (.int 1))) dNil))))
 (al (aF 4 (dOfN (dComp ["setting"] [("yes",2),("no",3),("step",0)] .(Aa) (ar 0) bM (pj (aS (aM aL g (ba cC (ae 3)) .(Ao))) (d2 fIx .(Ap) (dSee 0)) (d2 fIx (d2 fIx (dSee 2) (dC (.int 0))) (dSee 0))))))
 (aG (dOfN (dCatL (dOfN (dCatL (dOfN (dCons (ae 4) dNil)) .(Aw))) (dOfN (cJ (dSee 3) (gp (dC (.int 1))) hG))))))))
theorem wQ:am ["step","ahead","body","begin"] ["step","ahead"] (ah vR):= .q
noncomputable def sN(g:Nat->List PV->Rx PV):DS :=
 (al (aF 2 (dCall (g 8) (dCons (ba mQ (ae 0)) .(O))))
 (al (aF 3 (dOfN (dComp ["setting"] [("body",2),("step",0)] .(Aa) (ar 0) bM (dCall (g 13) (dCons (aM aL g (ba cC (ae 2)) .(Ao)) (dCons (d2 fIx .(Ap) (dSee 0)) dNil))))))
 (aG (dOfN (dCatL (dOfN (dCons (ae 3) dNil)) (dOfN (dComp ["doors"] [("begin",3)] (aI .(Aw)) (ar 0) bM (dCall (g 14) (dCons (ae 0) .(O))))))))))
theorem Fo:am ["holds","door"] ["holds","door"] (ah vS):= .q
noncomputable def sO(g:Nat->List PV->Rx PV):DS :=
 (al (cG (fG (aS (ae 0)))
 (aG (bW (dCons (dC (.str "done")) (dCons (dC (.int 0)) dNil))))
 aJ)
 (al (cG (aS (d2 cB .(Ap) (dC (.str "done"))))
 (aG (bW (dCons (dC (.str "hung")) (dCons (dC (.int 0)) dNil))))
 aJ)
 (aG (ae 1))))
theorem Fp:am ["doors","later"] ["doors","later"] (ah vT):= .q
noncomputable def sP(g:Nat->List PV->Rx PV):DS :=
 (aG (dOfN (dComp ["setting"] [("later",1),("doors",0)] .(Aa) (ar 0) bM (pj (aS (d2 cB (d2 fIx (d2 fIx (dSee 2) (dSee 0)) (dC (.int 0))) (dC (.str "done")))) (d2 fIx (dSee 1) (dSee 0)) (d2 fIx (dSee 2) (dSee 0))))))
theorem wR:am ["before","step","after","sayings","rooms","told"] ["before","step","after","sayings"] (ah vU):= .q
noncomputable def sQ(g:Nat->List PV->Rx PV):DS :=
 (al (aF 4 (dCall (g 52) .(O)))
 (al (aF 5 (aM f7 g (dCall (g 16) (dCons (ae 0) (dCons (ae 4) (dCons (ae 2) (dCons (dCall (g 51) (dCons (ae 3) dNil)) dNil))))) dNil))
 (al (cG (aS (gK .(Aj)))
 (aG (dCall (g 54) (dCons (d2 fIx .(Aj) (dC (.int 0))) (dCons (d2 fIx .(Aj) (dC (.int 1))) dNil))))
 aJ)
 (aG (dCall (g 53) (dCons (dOfN (dComp ["room"] [("told",5)] (bA (dCons (dCall bLen (dCons (ba cT (ae 4)) dNil)) dNil)) (ar 0) bM (eM .(Ap) (dSee 0) (dC (.int 0))))) dNil))))))
theorem wS:am ["before","rooms","after","bonds","door","fit"] ["before","rooms","after","bonds"] (ah oE):= .q
noncomputable def sR(g:Nat->List PV->Rx PV):DS :=
 (al (aF 5 (aM hE g (ae 2) dNil))
 (qG (al (Bl 4 55 [1,5])
 (aG (dP 15 (dCons (ae 3) (dCons (dC (.int 0)) (dCons (d2 gP (aM gh g (ae 3) dNil) (aM hE g (ae 0) dNil)) (dCons (ae 4) dNil)))))))))
theorem Fq:am ["_law_script","_law_k"] ["_law_script","_law_k"] (ah vV):= .q
noncomputable def sS(g:Nat->List PV->Rx PV):DS :=
 (al (cG (aS (d2 sf (dSee 1) (dCall bLen (dCons (dSee 0) dNil))))
 (aG (d2 fIx (dSee 0) (dSee 1)))
 aJ)
 (aG (dC (.int 0))))
theorem qP:am ["_law_cell","_law_k","_law_number"] ["_law_cell","_law_k"] (ah vW):= .q
noncomputable def wT(g:Nat->List PV->Rx PV):DS :=
 (al (aF 2 (d2 fMod (d2 sh (d2 fAdd (d2 fAdd (d2 gP (dSee 0) (dC (.int 2147483647))) (d2 sh (dC (.int 7919)) (dSee 1))) (dC (.int 1))) (dC (.int 48271))) (dC (.int 2147483647))))
 (al (aF 2 (d2 fMod (d2 sh (dSee 2) (d2 fAdd (d2 cP (dSee 2) (dC (.int 1009))) (dC (.int 69621)))) (dC (.int 2147483647))))
 (al (aF 2 (d2 fMod (d2 sh (dSee 2) (d2 fAdd (d2 cP (dSee 2) (dC (.int 1013))) (dC (.int 40692)))) (dC (.int 2147483647))))
 (aG (d2 E9 (dSee 2) (d2 gP (d2 si (dSee 0) (d2 fAdd (d2 sh (dC (.int 31)) (dSee 1)) (dC (.int 31)))) (dC (.int 2147483647))))))))
theorem Ft:am ["_law_cell"] ["_law_cell"] (ah vX):= .q
noncomputable def sT(g:Nat->List PV->Rx PV):DS :=
 (aG (bW (dCons (d2 fMod (dSee 0) (dC (.int 6))) (dCons (d2 fIx (dC (.str "abcd")) (d2 fMod (d2 cP (dSee 0) (dC (.int 6))) (dC (.int 4)))) (dCons (d2 fIx (dC (.str "abcd")) (d2 fMod (d2 cP (dSee 0) (dC (.int 24))) (dC (.int 4)))) dNil)))))
theorem wU:am ["_law_guard_here","_law_one","_law_other"] ["_law_guard_here"] (ah vY):= .q
noncomputable def sU(g:Nat->List PV->Rx PV):DS :=
 (al (aF 1 (dP 3 (dCons (d2 fIx (dSee 0) (dC (.int 1))) dNil)))
 (al (aF 2 (dP 3 (dCons (d2 fIx (dSee 0) (dC (.int 2))) dNil)))
 (al (cG (aS (d2 cB .(AC) (dC (.int 0))))
 (aG (ae 1))
 aJ)
 (al (cG (aS (d2 cB .(AC) (dC (.int 1))))
 (aG (dP 4 .(O)))
 aJ)
 (al (cG (aS (d2 cB .(AC) (dC (.int 2))))
 (aG (dP 5 (dCons (ae 1) (dCons (dP 4 (dCons (ae 2) dNil)) dNil))))
 aJ)
 (al (cG (aS (d2 cB .(AC) (dC (.int 3))))
 (aG (dP 6 (dCons (ae 1) (dCons (ae 2) dNil))))
 aJ)
 (al (cG (aS (d2 cB .(AC) (dC (.int 4))))
 (aG (dP 4 (dCons (dP 6 (dCons (ae 1) (dCons (ae 2) dNil))) dNil)))
 aJ)
 (al (cG (aS (d2 B2 (d2 fIx (dSee 0) (dC (.int 1))) (dC (.str "c"))))
 (aG (dC (.obj 1 [])))
 aJ)
 (aG (dC (.obj 2 [])))))))))))
theorem Fu:am ["_law_cell"] ["_law_cell"] (ah vZ):= .q
noncomputable def sV(g:Nat->List PV->Rx PV):DS :=
 (al (cG (aS (d2 cB (d2 fMod (dSee 0) (dC (.int 5))) (dC (.int 4))))
 (aG (d2 fIx (dOfN (dCons (bW (dCons (dC (.str "skip")) dNil)) (dCons (bW (dCons (dC (.str "stop")) dNil)) (dCons (bW (dCons (dC (.str "skip")) dNil)) dNil)))) (d2 fMod (d2 cP (dSee 0) (dC (.int 5))) (dC (.int 3)))))
 aJ)
 (aG (bW (dCons (dC (.str "deed")) (dCons (d2 fIx (dC (.str "PQRST")) (d2 fMod (d2 cP (dSee 0) (dC (.int 5))) (dC (.int 5)))) dNil)))))
theorem ki:am ["_law_cells","_law_held","_law_cell","_law_way","_law_right"] ["_law_cells"] (ah w8):= .q
noncomputable def mX(g:Nat->List PV->Rx PV):DS :=
 (al (jc 4 (kH 1))
 (cx (iq 1 (iU (bI (bS (dC (.str "row"))) (bI (kH 1) (bI (bS (ae 4)) iT)))))))
noncomputable def kj(g:Nat->List PV->Rx PV):DS :=
 (al (aF 3 (d2 fMod (dSee 2) (dC (.int 8))))
 (cG (jp (aS (d2 cB (dSee 1) (dOfN dNil))) (jp (aS (d2 sf (dSee 3) (dC (.int 3)))) (fY (aS (d2 CJ (dSee 3) (dC (.int 3)))) (aS (d2 cB .(Ag) (dC (.int 1)))))))
 (cx (iq 1 (bS (dCall (g 21) (dCons (d2 cP (dSee 2) (dC (.int 8))) dNil)))))
 (cG (aS (d2 cB (dSee 3) (dC (.int 3))))
 (cx (iq 1 (iU (bI (bS (dC (.str "while"))) (bI (bS (dCall (g 19) (dCons (d2 cP (dSee 2) (dC (.int 8))) dNil))) (bI (kH 1) iT))))))
 (cG (aS (d2 sf (dSee 3) (dC (.int 6))))
 (al (jc 4 (kH 1))
 (cx (iq 1 (iU (bI (bS (dC (.str "row"))) (bI (kH 1) (bI (bS (ae 4)) iT)))))))
 (al (jc 4 (kH 1))
 (cx (iq 1 (iU (bI (bS (dC (.str "if"))) (bI (bS (dCall (g 19) (dCons (d2 cP (dSee 2) (dC (.int 8))) dNil))) (bI (kH 1) (bI (bS (ae 4)) iT))))))))))))
noncomputable def sW(g:Nat->List PV->Rx PV):DS :=
 (al (gW 1 dNil)
 (al (sFor (aI (ae 0)) (ar 2)
 (kj g))
 (al (en (dS (aS (d2 CJ .(Ag) (dC (.int 1)))))
 (mX g))
 (aG (d2 fIx (dOfN (dCatL (dSee 1) (dOfN (dCons (bW (dCons (dC (.str "deed")) (dCons (dC (.str "P")) dNil))) dNil)))) (dC (.int 0)))))))
theorem Fv:am ["_law_tree_here"] ["_law_tree_here"] (ah w9):= .q
noncomputable def kK(g:Nat->List PV->Rx PV):DS :=
 (al (cG (aS (d2 cB .(AC) (dC (.str "skip"))))
 (aG (dC (.obj 8 [])))
 aJ)
 (al (cG (aS (d2 cB .(AC) (dC (.str "stop"))))
 (aG (dC (.obj 9 [])))
 aJ)
 (al (cG (aS (d2 cB .(AC) (dC (.str "deed"))))
 (aG (dP 10 (dCons (d2 fIx (dSee 0) (dC (.int 1))) dNil)))
 aJ)
 (al (cG (aS (d2 cB .(AC) (dC (.str "row"))))
 (aG (dP 11 (dCons (dCall (g 23) (dCons (d2 fIx (dSee 0) (dC (.int 1))) dNil)) (dCons (dCall (g 23) (dCons (d2 fIx (dSee 0) (dC (.int 2))) dNil)) dNil))))
 aJ)
 (al (cG (aS (d2 cB .(AC) (dC (.str "if"))))
 (aG (dP 12 (dCons (dCall (g 20) (dCons (d2 fIx (dSee 0) (dC (.int 1))) dNil)) (dCons (dCall (g 23) (dCons (d2 fIx (dSee 0) (dC (.int 2))) dNil)) (dCons (dCall (g 23) (dCons (d2 fIx (dSee 0) (dC (.int 3))) dNil)) dNil)))))
 aJ)
 (aG (dP 13 (dCons (dCall (g 20) (dCons (d2 fIx (dSee 0) (dC (.int 1))) dNil)) (dCons (dCall (g 23) (dCons (d2 fIx (dSee 0) (dC (.int 2))) dNil)) dNil)))))))))
theorem qQ:am ["_law_cell","_law_one","_law_other","_law_deed"] ["_law_cell"] (ah wa):= .q
noncomputable def sX(g:Nat->List PV->Rx PV):DS :=
 (al (aF 1 (dCall (g 20) (dCons (dCall (g 19) (dCons (d2 cP (dSee 0) (dC (.int 4))) dNil)) dNil)))
 (al (aF 2 (dCall (g 20) (dCons (dCall (g 19) (dCons (d2 cP (dSee 0) (dC (.int 384))) dNil)) dNil)))
 (al (aF 3 (d2 fIx (dC (.str "PQRST")) (d2 fMod (d2 cP (dSee 0) (dC (.int 36864))) (dC (.int 5)))))
 (al (cG (aS (d2 cB (d2 fMod (dSee 0) (dC (.int 4))) (dC (.int 0))))
 (aG (dP 21 .(O)))
 aJ)
 (al (cG (aS (d2 cB (d2 fMod (dSee 0) (dC (.int 4))) (dC (.int 1))))
 (aG (dP 23 (dCons (ae 1) (dCons (ae 3) dNil))))
 aJ)
 (aG (dP 22 (dCons (ae 1) (dCons (ae 3) (dCons (ae 2) dNil))))))))))
theorem Fw:am ["_law_cells","_law_many"] ["_law_cells","_law_many"] (ah wb):= .q
noncomputable def sY(g:Nat->List PV->Rx PV):DS :=
 (aG (dOfN (dComp ["_law_cell"] [] (aI (dOfN (cJ (dSee 0) hG (gp (ae 1))))) (ar 0) bM (dCall (g 24) .(Ao)))))
theorem iB:am ["_law_script","_law_step","_law_cell","_law_before","_law_after","_law_sayings_here","_law_idle"] ["_law_script"] (ah wc):= .q
noncomputable def sZ(g:Nat->List PV->Rx PV):DS :=
 (al (aF 1 (dCall (g 23) (dCons (dCall (g 22) (dCons (dOfN (cJ (dSee 0) (gp (dC (.int 2))) (gp (dC (.int 7))))) dNil)) dNil)))
 (al (aF 2 (dCall (g 18) (dCons (dCall (g 17) (dCons (ae 0) (dCons (dC (.int 0)) dNil))) (dCons (dC (.int 9)) dNil))))
 (al (aF 3 (dCall (g 20) (dCons (dCall (g 19) (dCons (d2 cP (dSee 2) (dC (.int 4))) dNil)) dNil)))
 (al (aF 4 (dCall (g 20) (dCons (dCall (g 19) (dCons (d2 cP (dSee 2) (dC (.int 384))) dNil)) dNil)))
 (al (cG (aS (d2 cB (d2 fMod (d2 cP (dSee 2) (dC (.int 36864))) (dC (.int 3))) (dC (.int 0))))
 (aF 3 (dC (.obj 1 [])))
 aJ)
 (al (aF 5 (dCall (g 25) (dCons (dOfN (dComp ["_law_k"] [("_law_script",0)] (bA (dCons (dC (.int 3)) dNil)) (ar 0) bM (dCall (g 18) (dCons (dCall (g 17) (dCons (ae 1) (dCons (dC (.int 1)) dNil))) .(Ao))))) (dCons (d2 fMod (dSee 2) (dC (.int 4))) dNil))))
 (al (cG (aS (d2 cB (d2 fMod (d2 cP (dSee 2) (dC (.int 110592))) (dC (.int 4))) (dC (.int 1))))
 (al (aF 6 (dOfN (dCons (dP 21 (dCons (dC (.obj 2 [])) dNil)) (dCons (dP 23 (dCons (dC (.obj 1 [])) (dCons (dC (.str "P")) dNil))) (dCons (dP 22 (dCons (dC (.obj 2 [])) (dCons (dC (.str "Q")) (dCons (ae 3) dNil)))) (dCons (dP 22 (dCons (ae 4) (dCons (dC (.str "R")) (dCons (dC (.obj 1 [])) dNil)))) dNil))))))
 (aF 5 (dOfN (dCatL (dOfN (dCatL (dSee 6) (dOfN (dCons (dP 23 (dCons (dC (.obj 2 [])) (dCons (dC (.str "T")) dNil))) dNil)))) (dSee 5)))))
 aJ)
 (aG (bW (dCons (ae 3) (dCons (ae 1) (dCons (ae 4) (dCons (ae 5) dNil)))))))))))))
theorem Fx:am ["_law_mask"] ["_law_mask"] (ah wd):= .q
noncomputable def t6(g:Nat->List PV->Rx PV):DS :=
 (aG (dOfN (dComp ["_law_setting"] [("_law_mask",0)] (bA (dCons (dC (.int 16)) dNil)) (ar 0) (aS (d2 cB (d2 gP (d2 si (dSee 1) (dSee 0)) (dC (.int 1))) (dC (.int 1)))) (ae 0))))
theorem f8:am ["_law_doors","_law_bonds","_law_begin","_law_after","_law_spots","_law_met","_law_spot","_law_many","_law_coming","_law_room","_law_setting","_law_what","_law_there","_law_later"] ["_law_doors","_law_bonds","_law_begin","_law_after"] (ah we):= .q
noncomputable def j5(g:Nat->List PV->Rx PV):DS :=
 (cG (aS (d2 (sB true) (bW .(Aq)) (dSee 5)))
 (al (k9 5 (bW .(Aq)) (dC (.bl true)))
 (cx (iq 8 (bS (bW .(Aq))))))
 aJ)
noncomputable def fC(g:Nat->List PV->Rx PV):DS :=
 (al (gX (bY 2 (aE (ar 11) (aE (ar 12) bX))) (d2 fIx (d2 fIx (dSee 0) (dSee 9)) (dSee 10)))
 (al (cG (fY (aS (d2 cB (dSee 11) (dC (.str "done")))) (fG (aS (aM aL g (ae 3) (dCons (ae 10) dNil)))))
 (aG (ae 7))
 aJ)
 (cG (aS (d2 (cK true) (dSee 11) (bW (dCons (dC (.str "done")) (dCons (dC (.str "stopped")) (dCons (dC (.str "hung")) dNil))))))
 (sFor (aI (dCall (g 27) (dCons (aM bQ g (ae 1) (dCons (ae 11) (dCons (ae 10) dNil))) dNil))) (ar 13)
 (j5 g))
 aJ)))
noncomputable def mY(g:Nat->List PV->Rx PV):DS :=
 (al (gW 8 dNil)
 (al (sFor (aI (ae 4)) (bY 2 (aE (ar 9) (aE (ar 10) bX)))
 (fC g))
 (al (aF 7 (d2 fAdd (dSee 7) (dC (.int 1))))
 (jc 4 (gU 8)))))
noncomputable def kl(g:Nat->List PV->Rx PV):DS :=
 (k9 5 (ae 6) (dC (.bl true)))
noncomputable def t8(g:Nat->List PV->Rx PV):DS :=
 (al (aF 4 (dOfN (dComp ["_law_setting"] [] (aI (dSee 2)) (ar 0) bM (bW (dCons (dC (.int 0)) .(Ao))))))
 (al (k7 5)
 (al (sFor (aI (ae 4)) (ar 6)
 (kl g))
 (al (aF 7 (dC (.int 0)))
 (al (en (dS (aS (d2 fJ (dSee 4) (dOfN dNil))))
 (mY g))
 (aG (gz (dC (.int 1)))))))))
theorem lF:am ["_law_settings","_law_deeds","_law_doors","_law_bonds","_law_begin","_law_after","_law_room","_law_k","_law_what","_law_there"] ["_law_settings","_law_deeds","_law_doors","_law_bonds","_law_begin","_law_after"] (ah wf):= .q
noncomputable def pI(g:Nat->List PV->Rx PV):DS :=
 (al (gX (bY 2 (aE (ar 8) (aE (ar 9) bX))) (d2 fIx (d2 fIx (dSee 2) (dSee 6)) (d2 fIx (dSee 0) (dSee 7))))
 (al (cG (jp (aS (d2 fJ (dSee 8) (d2 fIx (dSee 1) (dSee 7)))) (aS (d2 (cK true) (d2 fIx (dSee 0) (d2 fAdd (dSee 7) (dC (.int 1)))) (dCall (g 27) (dCons (aM bQ g (ae 3) (dCons (ae 8) (dCons (d2 fIx (dSee 0) (dSee 7)) dNil))) dNil)))))
 (aG (dC (.bl false)))
 aJ)
 (aF 6 (ae 9))))
noncomputable def tf(g:Nat->List PV->Rx PV):DS :=
 (al (cG (jp (aS (d2 fJ (dCall bLen (dCons (dSee 0) dNil)) (d2 fAdd .(Ag) (dC (.int 1))))) (aS (d2 (cK true) .(AC) (dSee 4))))
 (aG (dC (.bl false)))
 aJ)
 (al (aF 6 (dC (.int 0)))
 (al (sFor (bA (dCons .(Ag) dNil)) (ar 7)
 (pI g))
 (aG (io (d2 cB (d2 fIx (d2 fIx (d2 fIx (dSee 2) (dSee 6)) (d2 fIx (dSee 0) (gz (dC (.int 1))))) (dC (.int 0))) (dC (.str "done"))) (jP (aM aL g (ae 5) (dCons (d2 fIx (dSee 0) (gz (dC (.int 1)))) dNil))))))))
theorem gi:am ["_law_script","_law_doors","_law_bonds","_law_begin","_law_cell","_law_settings","_law_deeds","_law_room","_law_k","_law_some","_law_what","_law_there"] ["_law_script","_law_doors","_law_bonds","_law_begin"] (ah wj):= .q
noncomputable def pJ(g:Nat->List PV->Rx PV):DS :=
 (al (gX (bY 2 (aE (ar 10) (aE (ar 11) bX))) (d2 fIx (d2 fIx (dSee 1) (dSee 7)) (d2 fIx (dSee 5) (gz (dC (.int 1))))))
 (al (cG (aS (d2 (cK false) (dSee 10) (bW (dCons (dC (.str "done")) (dCons (dC (.str "stopped")) (dCons (dC (.str "hung")) dNil))))))
 (g7 (iU (bI (gU 5) (bI (bS (ae 6)) iT))))
 aJ)
 (al (aF 9 (dCall (g 27) (dCons (aM bQ g (ae 2) (dCons (ae 10) (dCons (d2 fIx (dSee 5) (gz (dC (.int 1)))) dNil))) dNil)))
 (al (cG (aS (d2 cB (dSee 9) (dOfN dNil)))
 (g7 (iU (bI (gU 5) (bI (bS (ae 6)) iT))))
 aJ)
 (al (cx (iq 5 (bS (d2 fIx (dSee 9) (d2 fMod (dCall (g 18) (dCons (ae 4) (dCons (ae 8) dNil))) (dCall bLen (dCons (dSee 9) dNil)))))))
 (al (aF 6 (d2 im (dSee 6) (dSee 10)))
 (aF 7 (ae 11))))))))
noncomputable def tj(g:Nat->List PV->Rx PV):DS :=
 (al (aF 4 (dCall (g 17) (dCons (ae 0) (dCons (dC (.int 9)) dNil))))
 (al (gW 5 (dCons (d2 fIx (dOfN (dCatL (dSee 3) (dOfN (dCons (dC (.int 3)) dNil)))) (d2 fMod (d2 fMod (dSee 4) (d2 fAdd (dCall bLen (dCons (dSee 3) dNil)) (dC (.int 1)))) (dCall bMax2 (dCons (dC (.int 1)) (dCons (dCall bLen (dCons (dSee 3) dNil)) dNil))))) dNil))
 (al (aF 6 (dC (.str "")))
 (al (aF 7 (dC (.int 0)))
 (al (sFor (bA (dCons (dC (.int 8)) dNil)) (ar 8)
 (pJ g))
 (g7 (iU (bI (gU 5) (bI (bS (ae 6)) iT)))))))))
theorem qR:am ["_law_settings","_law_deeds","_law_cell","_law_at","_law_way"] ["_law_settings","_law_deeds","_law_cell"] (ah wm):= .q
noncomputable def tm(g:Nat->List PV->Rx PV):DS :=
 (al (aF 3 (d2 fMod (d2 cP (dSee 2) (dC (.int 8))) (dCall bLen (dCons (dSee 0) dNil))))
 (al (aF 4 (d2 fMod (dSee 2) (dC (.int 8))))
 (al (cG (aS (d2 cB (dSee 4) (dC (.int 1))))
 (aG (bW (dCons (dOfN (dCatL (dOfN (dCatL (dOfN (cJ (dSee 0) hG (gp (ae 3)))) (dOfN (dCons (d2 uM (d2 fMod (d2 cP (dSee 2) (dC (.int 104))) (dC (.int 18))) (dC (.int 1))) dNil)))) (dOfN (cJ (dSee 0) (gp (d2 fAdd (dSee 3) (dC (.int 1)))) hG)))) .(O))))
 aJ)
 (al (cG (fY (aS (d2 cB (dSee 4) (dC (.int 2)))) (aS (d2 fJ (dSee 1) (dC (.str "")))))
 (al (aF 3 (d2 fMod (dSee 3) .(Ag)))
 (aG (bW (dCons (ae 0) (dCons (d2 im (d2 im (qH (ae 1) hG (gp (ae 3))) (d2 fIx (dC (.str "PQRSTUp")) (d2 fMod (d2 cP (dSee 2) (dC (.int 104))) (dC (.int 7))))) (qH (ae 1) (gp (d2 fAdd (dSee 3) (dC (.int 1)))) hG)) dNil)))))
 aJ)
 (al (cG (aS (d2 cB (dSee 4) (dC (.int 3))))
 (aG (bW (dCons (dOfN (dCatL (dOfN (cJ (dSee 0) hG (gp (ae 3)))) (dOfN (cJ (dSee 0) (gp (d2 fAdd (dSee 3) (dC (.int 1)))) hG)))) .(O))))
 aJ)
 (al (cG (aS (d2 cB (dSee 4) (dC (.int 4))))
 (aG (bW (dCons (dOfN (dCatL (dSee 0) (dOfN (dCons (d2 fMod (d2 cP (dSee 2) (dC (.int 104))) (dC (.int 16))) dNil)))) .(O))))
 aJ)
 (al (cG (aS (d2 cB (dSee 4) (dC (.int 5))))
 (aG (bW (dCons (ae 0) (dCons (d2 im (dSee 1) (d2 fIx (dC (.str "PQRST")) (d2 fMod (d2 cP (dSee 2) (dC (.int 104))) (dC (.int 5))))) dNil))))
 aJ)
 (al (cG (aS (d2 cB (dSee 4) (dC (.int 6))))
 (aG (bW (dCons (dOfN (cJ (dSee 0) hG (gp (dC (.int 1))))) (dCons (dC (.str "")) dNil))))
 aJ)
 (aG (bW (dCons (ae 0) .(O))))))))))))
theorem cH:am ["_law_script","_law_found","_law_doors","_law_bonds","_law_begin","_law_many","_law_handed","_law_told","_law_stands","_law_due","_law_before","_law_step","_law_after","_law_sayings_here","_law_settings","_law_deeds"] ["_law_script"] (ah oF):= .q
noncomputable def tw(g:Nat->List PV->Rx PV):DS :=
 (al (gX (bY 4 (aE (ar 10) (aE (ar 11) (aE (ar 12) (aE (ar 13) bX))))) (dCall (g 26) .(Ao)))
 (al (aF 1 (dCall (g 15) (dCons (ae 10) (dCons (ae 11) .(Aq)))))
 (al (aF 2 (ba cT (dCall (g 52) (dCons (ae 11) dNil))))
 (al (aF 3 (dCall (g 51) (dCons (ae 13) dNil)))
 (al (aF 4 (dOfN (dComp ["_law_setting"] [("_law_before",10)] (aI (dCall (g 27) (dCons (aM gh g (ae 3) dNil) dNil))) (ar 0) (aS (aM aL g (ae 1) .(Ao))) (ae 0))))
 (al (aF 5 (dCall (g 28) (dCons (ae 2) (dCons (ae 3) (dCons (ae 4) (dCons (ae 12) dNil))))))
 (al (cG (aS (d2 fJ (gQ i_z0d (dSee 1)) (d2 xw (dSee 5) (dC (.int 0)))))
 (aG (dC (.bl false)))
 aJ)
 (al (gX (bY 2 (aE (ar 14) (aE (ar 15) bX))) (dCall (g 30) (dCons (ae 0) (dCons (ae 2) (dCons (ae 3) (dCons (ae 4) dNil))))))
 (al (cG (aS (gQ i_z0d (dSee 1)))
 (al (cG (aS (d2 fJ (dCall bLen (dCons (ba gv (ae 1)) dNil)) (dSee 5)))
 (aG (dC (.bl false)))
 aJ)
 (cG (aS (d2 cB (d2 fMod (dCall (g 17) (dCons (ae 0) (dCons (dC (.int 8)) dNil))) (dC (.int 2))) (dC (.int 0))))
 (al (aF 14 (dOfN (fZ jQ (dCons (ba fw (ae 1)) dNil))))
 (aF 15 (ba gv (ae 1))))
 aJ))
 aJ)
 (al (gX (bY 2 (aE (ar 14) (aE (ar 15) bX))) (dCall (g 31) (dCons (ae 14) (dCons (ae 15) (dCons (d2 cP (dCall (g 17) (dCons (ae 0) (dCons (dC (.int 8)) dNil))) (dC (.int 2))) dNil)))))
 (al (gW 6 (fZ jQ (dCons (dSee 14) dNil)))
 (al (aF 7 (dCall (g 54) (dCons (dSee 6) (dCons (ae 15) dNil))))
 (al (cx (sw 6))
 (al (aF 8 (aM dW g (ae 7) (dCons (ae 10) (dCons (ae 11) .(Aq)))))
 (al (aF 9 (dCall (g 29) (dCons (ae 14) (dCons (ae 15) (dCons (ae 2) (dCons (ae 3) (dCons (ae 4) (dCons (ae 12) dNil))))))))
 (aG (io (gQ i_bool (dSee 8)) (io (d2 cB (dSee 8) (dSee 9)) (uQ (jP (ae 9)) (d2 xw (dSee 5) (dC (.int 0))))))))))))))))))))))
theorem gM:am ["self","total","setting"] ["self"] (ah wn):= .q
noncomputable def BR(g:Nat->List PV->Rx PV):DS :=
 (cG (aS (aM aL g (ae 0) (dCons (ae 2) dNil)))
 (jq 1 (fun i j=>i+j) (d2 jo (dC (.int 1)) (dSee 2)))
 aJ)
noncomputable def wV(g:Nat->List PV->Rx PV):DS :=
 (al (aF 1 (dC (.int 0)))
 (al (sFor .(Aa) (ar 2)
 (BR g))
 (aG (ae 1))))
theorem Fy:am .(S) .(S) (ah wo):= .q
noncomputable def BS(g:Nat->List PV->Rx PV):DS :=
 (aG (dC (.bl true)))
theorem Fz:am .(S) .(S) (ah wp):= .q
noncomputable def BT(g:Nat->List PV->Rx PV):DS :=
 (aG (dC (.bl false)))
theorem FA:am .(S) .(S) (ah wq):= .q
noncomputable def BU(g:Nat->List PV->Rx PV):DS :=
 (aG (d2 cB (d2 gP (d2 si (dSee 1) (uZ lE (ba kf (ae 0)))) (dC (.int 1))) (dC (.int 1))))
theorem FB:am .(S) .(S) (ah wt):= .q
noncomputable def BV(g:Nat->List PV->Rx PV):DS :=
 (aG (jP (aM aL g (ba mS (ae 0)) .(O))))
theorem FC:am .(S) .(S) (ah wu):= .q
noncomputable def BW(g:Nat->List PV->Rx PV):DS :=
 (aG (io (aM aL g (ba ka (ae 0)) .(O)) (aM aL g (ba iA (ae 0)) .(O))))
theorem FD:am .(S) .(S) (ah wv):= .q
noncomputable def BX(g:Nat->List PV->Rx PV):DS :=
 (aG (uQ (aM aL g (ba ka (ae 0)) .(O)) (aM aL g (ba iA (ae 0)) .(O))))
theorem FE:am ["self"] ["self"] (ah ww):= .q
noncomputable def BY(g:Nat->List PV->Rx PV):DS :=
 (aG (ba eX (ae 0)))
theorem FF:am .(AG) .(AG) (ah wx):= .q
noncomputable def tz(g:Nat->List PV->Rx PV):DS :=
 (aG (d2 gP (d2 fIx (d2 lr (ba eY (ae 0)) (dSee 1)) (dSee 2)) (ba eX (ae 0))))
theorem jf:am ["self","reached","visits","number","visit","told","fresh"] ["self"] (ah wz):= .q
noncomputable def fD(g:Nat->List PV->Rx PV):DS :=
 (al (aF 4 (d2 fIx (dSee 2) (dSee 3)))
 (al (jq 3 (fun i j=>i+j) (dC (.int 1)))
 (al (aF 5 (gd tC g dU (ae 0) (dCons (d2 fIx (dSee 4) (dC (.int 0))) (dCons (d2 fIx (dSee 4) (dC (.int 1))) dNil))))
 (al (cG (aS (d2 cB (d2 fIx (dSee 5) (dC (.int 0))) (dC (.str "found"))))
 (g7 (iU (bI (gU 1) (bI (bS (dCall (g 6) (dCons (ae 4) dNil))) iT))))
 aJ)
 (cG (aS (d2 (cK true) (d2 fIx (dSee 5) (dC (.int 0))) (dC (.tup iZ))))
 (al (aF 6 (d2 gP (aM bQ g (ba dF (ae 0)) (dCons (d2 fIx (dSee 5) (dC (.int 0))) (dCons (d2 fIx (dSee 4) (dC (.int 1))) dNil))) (yK (eM (dSee 1) .(Aj) (dC (.int 0))))))
 (al (jZ 1 .(Aj) (d2 Gc (eM (dSee 1) .(Aj) (dC (.int 0))) (dSee 6)))
 (cx (vm 2 (dComp ["setting"] [("visit",4),("told",5)] (aI (dCall (g 1) (dCons (ae 6) dNil))) (ar 0) bM (bW (dCons (d2 fIx (dSee 2) (dC (.int 1))) (dCons (ae 0) (dCons (d2 fIx (dSee 2) (dC (.int 0))) .(O))))))))))
 aJ)))))
noncomputable def tE(g:Nat->List PV->Rx PV):DS :=
 (al (mO 1 (ba eC (ae 0)) (ba cj (ae 0)))
 (al (gW 2 (dComp ["setting"] [("self",0)] (aI (dCall (g 1) (dCons (ba cj (ae 0)) dNil))) (ar 0) bM (bW (dCons (ba eC (ae 1)) (dCons (ae 0) (dCons (dC (.str "")) (dCons (dC .non) dNil)))))))
 (al (aF 3 (dC (.int 0)))
 (al (en (dS (aS (d2 sf (dSee 3) (dCall bLen (dCons (dSee 2) dNil)))))
 (fD g))
 (g7 (iU (bI (gU 1) (bI (bS (dC .non)) iT))))))))
theorem lG:am ["self","settings","deeds","place","number","deed","told"] ["self","settings","deeds"] (ah wA):= .q
noncomputable def pK(g:Nat->List PV->Rx PV):DS :=
 (al (aF 6 (gd tC g dU (ae 0) (dCons (ae 3) (dCons (d2 fIx (dSee 1) (dSee 4)) dNil))))
 (al (cG (aS (d2 fJ (d2 fIx (dSee 6) (dC (.int 0))) (dSee 5)))
 (aG (dC (.bl false)))
 aJ)
 (al (cG (fG (aS (dCall (g 0) (dCons (d2 fIx (dSee 1) (d2 fAdd (dSee 4) (dC (.int 1)))) (dCons (aM bQ g (ba dF (ae 0)) (dCons (ae 5) (dCons (d2 fIx (dSee 1) (dSee 4)) dNil))) dNil)))))
 (aG (dC (.bl false)))
 aJ)
 (aF 3 (d2 fIx (dSee 6) (dC (.int 1)))))))
noncomputable def tF(g:Nat->List PV->Rx PV):DS :=
 (al (cG (aS (d2 fJ .(Ag) (d2 fAdd (dCall bLen (dCons (dSee 2) dNil)) (dC (.int 1)))))
 (aG (dC (.bl false)))
 aJ)
 (al (cG (fG (aS (dCall sv (dCons (dOfN (dComp ["setting"] [] (aI (dSee 1)) (ar 0) bM (iX Gb sf (dC (.int 0)) (dSee 0) (dC (.int (16)))))) dNil))))
 (aG (dC (.bl false)))
 aJ)
 (al (cG (fG (aS (dCall (g 0) (dCons .(Ap) (dCons (ba cj (ae 0)) dNil)))))
 (aG (dC (.bl false)))
 aJ)
 (al (aF 3 (ba eC (ae 0)))
 (al (sForES (ae 2) (bY 2 (aE (ar 4) (aE (ar 5) bX)))
 (pK g))
 (aG (d2 cB (d2 fIx (gd tC g dU (ae 0) (dCons (ae 3) (dCons (d2 fIx (dSee 1) (gz (dC (.int 1)))) dNil))) (dC (.int 0))) (dC (.str "found")))))))))
theorem FG:am ["self","before","step","after","sayings"] ["self","before","step","after","sayings"] (ah wB):= .q
noncomputable def BZ(g:Nat->List PV->Rx PV):DS :=
 (aG (dC (.bl false)))
theorem FH:am ["self","before","step","after","sayings"] ["self","before","step","after","sayings"] (ah wC):= .q
noncomputable def tH(g:Nat->List PV->Rx PV):DS :=
 (aG (aM eZ g (dCall (g 16) (dCons (ae 1) (dCons (dCall (g 52) (dCons (ae 2) dNil)) (dCons (ae 3) (dCons (dCall (g 51) (dCons (ae 4) dNil)) dNil))))) (dCons (ba fw (ae 0)) (dCons (ba gv (ae 0)) dNil))))
theorem wW:am .(S) .(S) (ah wD):= .q
noncomputable def Ca(g:Nat->List PV->Rx PV):DS :=
 (aG (dC (.bl false)))
theorem zQ:am .(AG) .(AG) (ah wE):= .q
noncomputable def Cb(g:Nat->List PV->Rx PV):DS :=
 (aG (dC (.int (65535))))
theorem FI:am .(S) .(S) (ah wF):= .q
noncomputable def tI(g:Nat->List PV->Rx PV):DS :=
 (aG (aM aL g (ba cC (ae 0)) .(O)))
theorem FJ:am .(AG) .(AG) (ah wG):= .q
noncomputable def tJ(g:Nat->List PV->Rx PV):DS :=
 (al (cG (fY (aS (d2 cB (dSee 1) (ba gZ (ae 0)))) (aS (aM aL g (ba iz (ae 0)) (dCons (ae 2) dNil))))
 (aG (aM hE g (ba jy (ae 0)) dNil))
 aJ)
 (aG (dC (.int (65535)))))
theorem zR:am ["self","deed","setting","mask"] .(AG) (ah wH):= .q
noncomputable def tK(g:Nat->List PV->Rx PV):DS :=
 (al (cG (aS (d2 fJ (dSee 1) (ba gZ (ae 0))))
 (aG (dC (.int (65535))))
 aJ)
 (al (aF 3 (aM hE g (ba cC (ae 0)) dNil))
 (aG (pj (aS (dCall (g 0) (dCons (ae 2) (dCons (ae 3) dNil)))) (ae 3) (d2 uM (dC (.int (65535))) (dSee 3))))))
theorem FK:am ["self","sayings"] ["self","sayings"] (ah wI):= .q
noncomputable def oH(g:Nat->List PV->Rx PV):DS :=
 (al (k6 14 0 (dCall (g 2) .(O)))
 (al (k6 14 1 (dCall (g 3) .(O)))
 (k6 14 2 (dCall (g 5) (dCons (ou fA 0) (dCons (ou eY 0) dNil))))))
theorem FL:am ["self","step"] ["self","step"] (ah wJ):= .q
noncomputable def oI(g:Nat->List PV->Rx PV):DS :=
 (al (k6 16 0 (ae 1))
 (k6 16 1 (dCall (g 8) (dCons (ae 1) (dCons (dC (.int 0)) dNil)))))
theorem FM:am ["self","marks"] ["self","marks"] (ah wK):= .q
noncomputable def Cc(g:Nat->List PV->Rx PV):DS :=
 (k6 18 0 (dOfN (fZ jQ (dCons (dSee 1) dNil))))
theorem FN:am ["self","settings","deeds"] ["self","settings","deeds"] (ah wL):= .q
noncomputable def Cd(g:Nat->List PV->Rx PV):DS :=
 (al (k6 19 0 (dOfN (fZ jQ (dCons (dSee 1) dNil))))
 (k6 19 1 (ae 2)))
theorem zS:ml ["room","setting","rooms","fit","told"] ["room","setting"] ["rooms","fit"] sC.scope:=⟨rfl,rfl,rfl,by decide +kernel,rfl,by decide +kernel,by decide +kernel,by decide +kernel,by decide +kernel⟩
noncomputable def tL(g:Nat->List PV->Rx PV):DS :=
 (al (aF 4 (d2 fIx (d2 fIx (ba cT (ae 2)) (dSee 0)) (dSee 1)))
 (al (cG (fY (aS (d2 cB (d2 fIx (dSee 4) (dC (.int 0))) (dC (.str "done")))) (fG (aS (dCall (g 0) (dCons (ae 1) (dCons (ae 3) dNil))))))
 (aG (bW (dCons (dC (.str "found")) .(Ao))))
 aJ)
 (aG (ae 4))))
noncomputable def gF:Nat->Nat->List PV->Rx PV
 |0,_,_=> .bad
 |n+1,0,ws=>aH [false,false] 2 (sE (gF n)) ws
 |n+1,1,ws=>aH [false] 1 (sF (gF n)) ws
 |n+1,2,ws=>aH [false] 3 (sG (gF n)) ws
 |n+1,3,ws=>aH [false] 3 (sH (gF n)) ws
 |n+1,4,ws=>aH [false,false,false] 5 (sI (gF n)) ws
 |n+1,5,ws=>aH [false,false] 4 (sJ (gF n)) ws
 |n+1,6,ws=>aH [false] 3 (sK (gF n)) ws
 |n+1,7,ws=>aH [false,false] 2 (BP (gF n)) ws
 |n+1,8,ws=>aH [false,false] 2 (kJ (gF n)) ws
 |n+1,9,ws=>aH [false] 1 (BQ (gF n)) ws
 |n+1,10,ws=>aH [false,false] 4 (sL (gF n)) ws
 |n+1,11,ws=>aH [false,false] 5 (sM (gF n)) ws
 |n+1,12,ws=>aH [false,false] 4 (sN (gF n)) ws
 |n+1,13,ws=>aH [false,false] 2 (sO (gF n)) ws
 |n+1,14,ws=>aH [false,false] 2 (sP (gF n)) ws
 |n+1,15,ws=>aH [false,false,false,false] 6 (sQ (gF n)) ws
 |n+1,16,ws=>aH [false,false,false,false] 6 (sR (gF n)) ws
 |n+1,17,ws=>aH [false,false] 2 (sS (gF n)) ws
 |n+1,18,ws=>aH [false,false] 3 (wT (gF n)) ws
 |n+1,19,ws=>aH [false] 1 (sT (gF n)) ws
 |n+1,20,ws=>aH [false] 3 (sU (gF n)) ws
 |n+1,21,ws=>aH [false] 1 (sV (gF n)) ws
 |n+1,22,ws=>aH [false] 5 (sW (gF n)) ws
 |n+1,23,ws=>aH [false] 1 (kK (gF n)) ws
 |n+1,24,ws=>aH [false] 4 (sX (gF n)) ws
 |n+1,25,ws=>aH [false,false] 2 (sY (gF n)) ws
 |n+1,26,ws=>aH [false] 7 (sZ (gF n)) ws
 |n+1,27,ws=>aH [false] 1 (t6 (gF n)) ws
 |n+1,28,ws=>aH [false,false,false,false] 14 (t8 (gF n)) ws
 |n+1,29,ws=>aH [false,false,false,false,false,false] 10 (tf (gF n)) ws
 |n+1,30,ws=>aH [false,false,false,false] 12 (tj (gF n)) ws
 |n+1,31,ws=>aH [false,false,false] 5 (tm (gF n)) ws
 |n+1,32,ws=>aH [false] 16 (tw (gF n)) ws
 |n+1,33,ws=>aH [false] 3 (wV (gF n)) ws
 |n+1,34,ws=>aH [false,false] 2 (BS (gF n)) ws
 |n+1,35,ws=>aH [false,false] 2 (BT (gF n)) ws
 |n+1,36,ws=>aH [false,false] 2 (BU (gF n)) ws
 |n+1,37,ws=>aH [false,false] 2 (BV (gF n)) ws
 |n+1,38,ws=>aH [false,false] 2 (BW (gF n)) ws
 |n+1,39,ws=>aH [false,false] 2 (BX (gF n)) ws
 |n+1,40,ws=>aH [false] 1 (BY (gF n)) ws
 |n+1,41,ws=>aH [false,false,false] 3 (tz (gF n)) ws
 |n+1,42,ws=>aH [false] 7 (tE (gF n)) ws
 |n+1,43,ws=>aH [false,false,false] 7 (tF (gF n)) ws
 |n+1,44,ws=>aH [false,false,false,false,false] 5 (BZ (gF n)) ws
 |n+1,45,ws=>aH [false,false,false,false,false] 5 (tH (gF n)) ws
 |n+1,46,ws=>aH [false,false] 2 (Ca (gF n)) ws
 |n+1,47,ws=>aH [false,false,false] 3 (Cb (gF n)) ws
 |n+1,48,ws=>aH [false,false] 2 (tI (gF n)) ws
 |n+1,49,ws=>aH [false,false,false] 3 (tJ (gF n)) ws
 |n+1,50,ws=>aH [false,false,false] 4 (tK (gF n)) ws
 |n+1,51,ws=>jr 14 3 [false] 2 (oH (gF n)) ws
 |n+1,52,ws=>jr 16 2 [false] 2 (oI (gF n)) ws
 |n+1,53,ws=>jr 18 1 [false] 2 (Cc (gF n)) ws
 |n+1,54,ws=>jr 19 2 [true,false] 3 (Cd (gF n)) ws
 |n+1,55,ws=>aH [false,false,false,false] 5 (tL (gF n)) ws
 |_+1,_,_=> .bad
#synth .(gq g_z0 0 (aH [false,false] 2) sE)
#synth .(gq g_z1 1 (aH [false] 1) sF)
#synth .(gq g_z2 2 (aH [false] 3) sG)
#synth .(gq g_z3 3 (aH [false] 3) sH)
#synth .(gq g_z4 4 (aH [false,false,false] 5) sI)
#synth .(gq g_z5 5 (aH [false,false] 4) sJ)
#synth .(gq g_z6 6 (aH [false] 3) sK)
#synth .(gq g_z8 8 (aH [false,false] 2) kJ)
#synth .(gq g_za 10 (aH [false,false] 4) sL)
#synth .(gq g_zb 11 (aH [false,false] 5) sM)
#synth .(gq g_zc 12 (aH [false,false] 4) sN)
#synth .(gq g_zd 13 (aH [false,false] 2) sO)
#synth .(gq g_ze 14 (aH [false,false] 2) sP)
#synth .(gq g_zf 15 (aH [false,false,false,false] 6) sQ)
#synth .(gq g_zg 16 (aH [false,false,false,false] 6) sR)
#synth .(gq g_zh 17 (aH [false,false] 2) sS)
#synth .(gq g_zi 18 (aH [false,false] 3) wT)
#synth .(gq g_zj 19 (aH [false] 1) sT)
#synth .(gq g_zk 20 (aH [false] 3) sU)
#synth .(gq g_zl 21 (aH [false] 1) sV)
#synth .(gq g_zm 22 (aH [false] 5) sW)
#synth .(gq g_zn 23 (aH [false] 1) kK)
#synth .(gq g_zo 24 (aH [false] 4) sX)
#synth .(gq g_zp 25 (aH [false,false] 2) sY)
#synth .(gq g_zq 26 (aH [false] 7) sZ)
#synth .(gq g_zr 27 (aH [false] 1) t6)
#synth .(gq g_zs 28 (aH [false,false,false,false] 14) t8)
#synth .(gq g_zt 29 (aH [false,false,false,false,false,false] 10) tf)
#synth .(gq g_zu 30 (aH [false,false,false,false] 12) tj)
#synth .(gq g_zv 31 (aH [false,false,false] 5) tm)
#synth .(gq g_zw 32 (aH [false] 16) tw)
#synth .(gq g_zG 42 (aH [false] 7) tE)
#synth .(gq g_zH 43 (aH [false,false,false] 7) tF)
#synth .(gq g_zJ 45 (aH [false,false,false,false,false] 5) tH)
#synth .(gq g_zP 51 (jr 14 3 [false] 2) oH)
theorem wX:∀(n:Nat) (ws:List PV) (w:PV),gF n 51 ws= .ok w->∃fs,w= .obj 14 fs
 |0,ws,w,h=>by cases h
 |n+1,ws,w,h=>iy h
#synth .(gq g_zQ 52 (jr 16 2 [false] 2) oI)
theorem wY:∀(n:Nat) (ws:List PV) (w:PV),gF n 52 ws= .ok w->∃fs,w= .obj 16 fs
 |0,ws,w,h=>by cases h
 |n+1,ws,w,h=>iy h
theorem FO:∀(n:Nat) (ws:List PV) (w:PV),gF n 53 ws= .ok w->∃fs,w= .obj 18 fs
 |0,ws,w,h=>by cases h
 |n+1,ws,w,h=>iy h
theorem zT:∀(n:Nat) (ws:List PV) (w:PV),gF n 54 ws= .ok w->∃fs,w= .obj 19 fs
 |0,ws,w,h=>by cases h
 |n+1,ws,w,h=>iy h
#synth .(gq g_zT 55 (aH [false,false,false,false] 5) tL)
structure Ce(P:Program)(w:World)(K:Fg)(mg:Str->Option Value)(base:Bs)(cA:Nat->Addr)(n:Nat):Prop where
 h_z0:.(ta "is_in" [false,false] 0)
 h_z1:.(ta "settings_in" [false] 1)
 h_z2:.(ta "unbarred_by" [false] 2)
 h_z3:.(ta "let_by_all" [false] 3)
 h_z4:.(ta "later_by_all" [false,false,false] 4)
 h_z5:.(ta "lasting_within" [false,false] 5)
 h_z6:.(ta "word_to" [false] 6)
 h_z7:.(ta "is_within" [false,false] 7)
 h_z8:.(ta "doors_of" [false,false] 8)
 h_z9:.(ta "ended" [false] 9)
 h_za:.(ta "row_doors" [false,false] 10)
 h_zb:.(ta "choice_doors" [false,false] 11)
 h_zc:.(ta "loop_doors" [false,false] 12)
 h_zd:.(ta "loop_door" [false,false] 13)
 h_ze:.(ta "gone_on" [false,false] 14)
 h_zf:.(ta "marked" [false,false,false,false] 15)
 h_zg:.(ta "breaks_of" [false,false,false,false] 16)
 h__law_cell_at:.(ta "_law_cell_at" [false,false] 17)
 h__law_mixed:.(ta "_law_mixed" [false,false] 18)
 h__law_guard:.(ta "_law_guard" [false] 19)
 h__law_guard_test:.(ta "_law_guard_test" [false] 20)
 h__law_leaf:.(ta "_law_leaf" [false] 21)
 h__law_tree:.(ta "_law_tree" [false] 22)
 h__law_made:.(ta "_law_made" [false] 23)
 h__law_saying:.(ta "_law_saying" [false] 24)
 h__law_sayings:.(ta "_law_sayings" [false,false] 25)
 h__law_drawn:.(ta "_law_drawn" [false] 26)
 h__law_bits:.(ta "_law_bits" [false] 27)
 h__law_nearest:.(ta "_law_nearest" [false,false,false,false] 28)
 h__law_breaks:.(ta "_law_breaks" [false,false,false,false,false,false] 29)
 h__law_walk:.(ta "_law_walk" [false,false,false,false] 30)
 h__law_changed:.(ta "_law_changed" [false,false,false] 31)
 h_zw:.(ta "law" [false] 32)
 cl:ls P w K mg base (pg cA) (2*n+3) tC (gF n)
 m_bars:gT P w K mg base (pg cA) (2*n+3) "bars" [false] iY (gF n)
 m_good:gT P w K mg base (pg cA) (2*n+3) "good" [] gh (gF n)
 m_holds:gT P w K mg base (pg cA) (2*n+3) "holds" [false] aL (gF n)
 m_is_word:gT P w K mg base (pg cA) (2*n+3) "is_word" [false,false] eZ (gF n)
 m_later_mask:gT P w K mg base (pg cA) (2*n+3) "later_mask" [false,false] bU (gF n)
 m_mask:gT P w K mg base (pg cA) (2*n+3) "mask" [] hE (gF n)
 m_search:gT P w K mg base (pg cA) (2*n+3) "search" [] f7 (gF n)
 m_stands:gT P w K mg base (pg cA) (2*n+3) "stands" [false,false,false,false] dW (gF n)
 m_ways:gT P w K mg base (pg cA) (2*n+3) "ways" [false,false] bQ (gF n)
 n_z08:sy P w K mg base (pg cA) (2*n+3) "Bonds" 14 [false] (gF n 51)
 n_z0d:sy P w K mg base (pg cA) (2*n+3) "Broken" 19 [true,false] (gF n 54)
 n_z0c:sy P w K mg base (pg cA) (2*n+3) "Kept" 18 [false] (gF n 53)
 n_z0a:sy P w K mg base (pg cA) (2*n+3) "Rooms" 16 [false] (gF n 52)
noncomputable section
variable{P:Program}{w:World}{K:Fg}{mg:Str->Option Value}{base:Bs}{cA:Nat->Addr}{ts:List Addr}{n:Nat}(C:Ct P w K mg base cA ts)(I:Ce P w K mg base cA n)
variable{f:Addr}{cdv:Value}{A:Around}{outer:List Env}{s:Shared}{H:Hp}{E:XK}
include C I
theorem IG(hr:.(hr "is_in" vF)):.(bo ["setting","mask"] "is_in" vF sE):=by
 unfold sE
 exact(ag (ax (sr hr (b_of (p_and (b_of (p_shr (b_var 1) (b_var 0))) (b_of p_int))) (b_of p_int))))
theorem IH(hr:.(hr "settings_in" vG)):.(bo ["mask"] "settings_in" vG sF):=by
 obtain⟨_,g_SETTINGS⟩:=C.e_SETTINGS
 unfold sF
 exact(ag (ax (p_of_n (cQ (own:=["setting"]) (caps:=[("mask",0)]) .(J) rfl (s_of_i .(Am)) (.(gn ["setting","mask"])) (fun _ _ _ _=>(ts_one (t_val (p_fn I.h_z0 hr.s rfl (a_cons (p_var 0) .(Q)))))) (fun _ _ _ _=>(p_var 0)) gk_set))))
theorem II(hr:.(hr "unbarred_by" vH)):.(bo ["sayings","mask","setting"] "unbarred_by" vH sG):=by
 obtain⟨_,g_EVERY⟩:=C.e_EVERY
 obtain⟨_,g_SETTINGS⟩:=C.e_SETTINGS
 unfold sG
 exact(af (aK (i:=1) qL.nd rfl (Or.inl rfl) (p_topI rfl g_EVERY))
 (af (g8 PassesOwn.never rfl .(Am) (bf (i:=2) qL.nd rfl (Or.inr rfl))
 (ag (bh (t_val (p_callB (su rfl) Bd rfl C.z_any boot_any (a_consB (b_of (p_of_n (cQ (own:=["saying"]) (caps:=[("setting",2)]) .(J) rfl (s_list (b_var 0)) (.(gn ["saying","setting"])) (fun _ _ _ _=>ts_nil) (fun _ _ _ _=>(p_meth I.m_bars hr.s (p_var 0) .(Q))) gk_set))) a_nil)))
 (ag (oj (i:=1) qL.nd rfl (Or.inl rfl) (uN (b_of p_int) (b_var 2)) Aj))
 aB)))
 (ag (ax (p_var 1)))))
theorem IJ(hr:.(hr "let_by_all" vI)):.(bo ["sayings","masks","deed"] "let_by_all" vI sH):=by
 obtain⟨_,g_DEEDS,t_DEEDS⟩:=C.e_DEEDS
 obtain⟨_,g_SETTINGS⟩:=C.e_SETTINGS
 unfold sH
 exact(af (Be (i:=1) wO.nd rfl (Or.inl rfl))
 (af (g8 PassesOwn.never rfl (i_topT (ws:=fB)  t_DEEDS rfl g_DEEDS (fun _ _=>⟨_,_,rfl,rfl,⟨_,_,rfl,rfl,⟨_,_,rfl,rfl,⟨_,_,rfl,rfl,⟨_,_,rfl,rfl,rfl⟩⟩⟩⟩⟩)) (bf (i:=2) wO.nd rfl (Or.inr rfl))
 (ag (vi 1 (gG hr) (p_var 2) (p_of_n (cQ (own:=["setting"]) (caps:=[("sayings",0),("deed",2)]) ⟨rfl,by decide +kernel,by decide +kernel,⟨⟨rfl,rfl,Or.inl rfl⟩,.(M)⟩,rfl⟩ rfl (s_of_i .(Am)) (.(gn ["setting","sayings","deed"])) (fun _ _ _ _=>ts_nil) (fun _ _ _ _=>(p_fn I.h_z4 hr.s rfl (a_cons (p_var 1) (a_cons (p_var 2) (a_cons (p_var 0) a_nil))))) gk_set)) rfl)))
 (ag (gY (jb 1)))))
theorem IK(hr:.(hr "later_by_all" vJ)):.(bo ["sayings","deed","setting","mask","saying"] "later_by_all" vJ sI):=by
 obtain⟨_,g_EVERY⟩:=C.e_EVERY
 unfold sI
 exact(af (aK (i:=3) qM.nd rfl (Or.inl rfl) (p_topI rfl g_EVERY))
 (af (g8 PassesOwn.never rfl (DN.Hn (p_var 0)) (bf (i:=4) qM.nd rfl (Or.inl rfl))
 (ag (oj (i:=3) qM.nd rfl (Or.inl rfl) (p_meth I.m_later_mask hr.s (p_var 4) (a_cons (p_var 1) (a_cons (p_var 2) a_nil))) Bt)))
 (ag (ax (p_var 3)))))
theorem IL(hr:.(hr "lasting_within" vK)):.(bo ["mask","let_by","left","setting"] "lasting_within" vK sJ):=by
 obtain⟨_,g_DEEDS,t_DEEDS⟩:=C.e_DEEDS
 unfold sJ
 exact(ag (gc PassesOwn.never (ox (t_val gy))
 (af (aK (i:=2) oG.nd rfl (Or.inl rfl) p_int)
 (af (g8 PassesOwn.never rfl (DN.Hn (p_fn I.h_z1 hr.s rfl (a_cons (p_var 0) a_nil))) (bf (i:=3) oG.nd rfl (Or.inr rfl))
 (ag (bh (t_val (p_callB (lq rfl) vg rfl C.z_all boot_all (a_consB (b_of (p_of_n (cQ (own:=["deed"]) (caps:=[("mask",0),("setting",3),("let_by",1)]) ⟨rfl,by decide +kernel,by decide +kernel,⟨⟨rfl,rfl,Or.inl rfl⟩,⟨⟨rfl,rfl,Or.inl rfl⟩,.(M)⟩⟩,rfl⟩ rfl (s_of_i (i_topT (ws:=fB)  t_DEEDS rfl g_DEEDS (fun _ _=>⟨_,_,rfl,rfl,⟨_,_,rfl,rfl,⟨_,_,rfl,rfl,⟨_,_,rfl,rfl,⟨_,_,rfl,rfl,rfl⟩⟩⟩⟩⟩))) (.(gn ["deed","mask","setting","let_by"])) (fun _ _ _ _=>ts_nil) (fun _ _ _ _=>(Ht hr (b_of (p_and (b_of (p_at (b_of (vj (gG hr) (b_var 3) (b_var 0) .(C))) (b_var 2) .(C))) (b_var 1))) (b_of p_int))) gk_set))) a_nil)))
 (ag (oj (i:=2) oG.nd rfl (Or.inl rfl) (uN (b_of p_int) (b_var 3)) oR))
 aB)))
 (af (bh (t_eq hr (b_var 2) (b_var 0))
 (ag (ax (p_var 0)))
 aB)
 (ag (aK (i:=0) oG.nd rfl (Or.inr rfl) (p_var 2))))))))
theorem IM(hr:.(hr "word_to" vL)):.(bo ["visit","settings","deeds"] "word_to" vL sK):=by
 unfold sK
 exact(af (li (i:=1) qN.nd rfl (Or.inl rfl) (cu a_nil))
 (af (li (i:=2) qN.nd rfl (Or.inl rfl) (cu a_nil))
 (af (gc PassesOwn.never (ox (uO (b_var 0)))
 (af (cY (ir 1 (eU (p_at (b_var 0) (b_of p_int) .(C)))))
 (af (cY (ir 2 (eU (p_at (b_var 0) (b_of p_int) .(C)))))
 (ag (aK (i:=0) qN.nd rfl (Or.inl rfl) (p_at (b_var 0) (b_of p_int) .(C)))))))
 (af (cY (zH 1))
 (af (cY (zH 2))
 (ag (gY (gL (aX (jb 1) (aX (eU (Bq aZ (b_var 2))) eJ))))))))))
theorem IN(hr:.(hr "is_within" vM)):.(bo ["mask","larger"] "is_within" vM BP):=by
 unfold BP
 exact(ag (ax (sr hr (b_of (p_and (b_var 0) (b_var 1))) (b_var 0))))
theorem IO(hr:.(hr "doors_of" vN)):.(bo ["step","ahead"] "doors_of" vN kJ):=by
 obtain⟨_,g_DONE⟩:=C.e_DONE
 obtain⟨_,g_SETTINGS⟩:=C.e_SETTINGS
 obtain⟨_,g_STOPPED⟩:=C.e_STOPPED
 unfold kJ
 exact(af (bh (t_val (j9 rfl C.z_isinstance C.i_z02 dR (b_var 0) (cE rfl C.c_z02)))
 (ag (ax (p_of_n (cu (a_cons (p_fn I.h_z9 hr.s rfl (a_cons (dN rfl g_DONE) a_nil)) a_nil)))))
 aB)
 (af (bh (t_val (j9 rfl C.z_isinstance C.i_z03 dR (b_var 0) (cE rfl C.c_z03)))
 (ag (ax (p_of_n (cu (a_cons (p_fn I.h_z9 hr.s rfl (a_cons (dN rfl g_STOPPED) a_nil)) a_nil)))))
 aB)
 (af (bh (t_val (j9 rfl C.z_isinstance C.i_z04 dR (b_var 0) (cE rfl C.c_z04)))
 (ag (ax (p_of_n (cu (a_cons (p_of_n (zI (cu (a_cons (p_tup (a_cons (p_fld C.f_name (p_var 0) rfl) (a_cons (dn (b_var 1) (b_of p_int)) a_nil))) a_nil)) (p_topI rfl g_SETTINGS))) (a_cons (p_fn I.h_z9 hr.s rfl (a_cons (dN rfl g_DONE) a_nil)) a_nil))))))
 aB)
 (af (bh (t_val (j9 rfl C.z_isinstance C.i_z05 dR (b_var 0) (cE rfl C.c_z05)))
 (ag (ax (p_fn I.h_za hr.s rfl (a_cons (p_var 0) .(Q)))))
 aB)
 (af (bh (t_val (j9 rfl C.z_isinstance C.i_z06 dR (b_var 0) (cE rfl C.c_z06)))
 (ag (ax (p_fn I.h_zb hr.s rfl (a_cons (p_var 0) .(Q)))))
 aB)
 (ag (ax (p_fn I.h_zc hr.s rfl (a_cons (p_var 0) .(Q))))))))))
theorem IP(hr:.(hr "ended" vO)):.(bo ["end"] "ended" vO BQ):=by
 obtain⟨_,g_SETTINGS⟩:=C.e_SETTINGS
 unfold BQ
 exact(ag (ax (p_of_n (zI (cu (a_cons (p_tup (a_cons (p_var 0) (a_cons p_int a_nil))) a_nil)) (p_topI rfl g_SETTINGS)))))
theorem IQ(hr:.(hr "row_doors" vP)):.(bo ["step","ahead","head","tail"] "row_doors" vP sL):=by
 unfold sL
 exact(af (aK (i:=2) wP.nd rfl (Or.inl rfl) (p_fn I.h_z8 hr.s rfl (a_cons (p_fld C.f_head (p_var 0) rfl) .(Q))))
 (af (aK (i:=3) wP.nd rfl (Or.inr rfl) (p_fn I.h_z8 hr.s rfl (a_cons (p_fld C.f_tail (p_var 0) rfl) (a_cons (qm (b_of (dn (b_var 1) (b_of (p_callB call_len cb_len rfl C.z_len PySem.boot_len (a_consB (b_var 2) a_nil))))) (b_of p_int)) a_nil))))
 (ag (ax (p_of_n (fH (b_of (p_of_n (cQ (own:=["doors"]) (caps:=[("tail",3)]) .(J) rfl (s_list (b_var 2)) (.(gn ["doors","tail"])) (fun _ _ _ _=>ts_nil) (fun _ _ _ _=>(p_fn I.h_ze hr.s rfl (a_cons (p_var 0) (a_cons (p_at (b_var 1) (b_of p_int) .(C)) a_nil)))) gk_set))) (b_of (p_of_n (n_cut (b_var 3) (o_some p_int) o_none))) cI))))))
theorem IR(hr:.(hr "choice_doors" vQ)):.(bo ["step","ahead","yes","no","begin"] "choice_doors" vQ sM):=by
 obtain⟨_,g_SETTINGS⟩:=C.e_SETTINGS
 unfold sM
 exact(af (aK (i:=2) qO.nd rfl (Or.inr rfl) (p_fn I.h_z8 hr.s rfl (a_cons (p_fld C.f_yes (p_var 0) rfl) .(Q))))
 (af (aK (i:=3) qO.nd rfl (Or.inr rfl) (p_fn I.h_z8 hr.s rfl (a_cons (p_fld C.f_no (p_var 0) rfl) (a_cons (qm (b_of (dn (b_var 1) (b_of (p_callB call_len cb_len rfl C.z_len PySem.boot_len (a_consB (b_var 2) a_nil))))) (b_of p_int)) a_nil))))
 (af (pA (i:=4) qO.nd rfl (Or.inl rfl) (own:=["setting"]) (caps:=[("yes",2),("no",3),("step",0)]) ⟨rfl,by decide +kernel,by decide +kernel,⟨⟨rfl,rfl,Or.inl rfl⟩,⟨⟨rfl,rfl,Or.inl rfl⟩,.(M)⟩⟩,rfl⟩ rfl (s_of_i .(Am)) (.(gn ["setting","yes","no","step"])) (fun _ _ _ _=>ts_nil) (fun _ _ _ _=>(p_ifV (t_val (p_meth I.m_holds hr.s (p_fld C.f_test (p_var 3) rfl) (a_cons (p_var 0) a_nil))) (p_at (b_of (p_at (b_var 1) (b_of p_int) .(C))) (b_var 0) .(C)) (p_at (b_of (p_at (b_var 2) (b_of p_int) .(C))) (b_var 0) .(C)))) gk_set)
 (ag (ax (p_of_n (fH (b_of (p_of_n (fH (b_of (p_of_n (cu (a_cons (p_var 4) a_nil)))) (b_of (p_of_n (n_cut (b_var 2) (o_some p_int) o_none))) cI))) (b_of (p_of_n (n_cut (b_var 3) (o_some p_int) o_none))) cI)))))))
theorem IS(hr:.(hr "loop_doors" vR)):.(bo ["step","ahead","body","begin"] "loop_doors" vR sN):=by
 obtain⟨_,g_SETTINGS⟩:=C.e_SETTINGS
 unfold sN
 exact(af (aK (i:=2) wQ.nd rfl (Or.inr rfl) (p_fn I.h_z8 hr.s rfl (a_cons (p_fld C.f_body (p_var 0) rfl) .(Q))))
 (af (aK (i:=3) wQ.nd rfl (Or.inr rfl) (p_of_n (cQ (own:=["setting"]) (caps:=[("body",2),("step",0)]) ⟨rfl,by decide +kernel,by decide +kernel,⟨⟨rfl,rfl,Or.inl rfl⟩,.(M)⟩,rfl⟩ rfl (s_of_i .(Am)) (.(gn ["setting","body","step"])) (fun _ _ _ _=>ts_nil) (fun _ _ _ _=>(p_fn I.h_zd hr.s rfl (a_cons (p_meth I.m_holds hr.s (p_fld C.f_test (p_var 2) rfl) (a_cons (p_var 0) a_nil)) (a_cons (p_at (b_of (p_at (b_var 1) (b_of p_int) .(C))) (b_var 0) .(C)) a_nil)))) gk_set)))
 (ag (ax (p_of_n (fH (b_of (p_of_n (cu (a_cons (p_var 3) a_nil)))) (b_of (p_of_n (cQ (own:=["doors"]) (caps:=[("begin",3)]) .(J) rfl (s_list (b_of (p_of_n (n_cut (b_var 2) (o_some p_int) o_none)))) (.(gn ["doors","begin"])) (fun _ _ _ _=>ts_nil) (fun _ _ _ _=>(p_fn I.h_ze hr.s rfl (a_cons (p_var 0) .(Q)))) gk_set))) cI))))))
theorem IT(hr:.(hr "loop_door" vS)):.(bo ["holds","door"] "loop_door" vS sO):=by
 obtain⟨_,g_DONE⟩:=C.e_DONE
 obtain⟨_,g_HUNG⟩:=C.e_HUNG
 unfold sO
 exact(af (bh (lf (t_val (p_var 0)))
 (ag (ax (p_tup (a_cons (dN rfl g_DONE) (a_cons p_int a_nil)))))
 aB)
 (af (bh (t_eq hr (b_of (p_at (b_var 1) (b_of p_int) .(C))) (b_of (dN rfl g_DONE)))
 (ag (ax (p_tup (a_cons (dN rfl g_HUNG) (a_cons p_int a_nil)))))
 aB)
 (ag (ax (p_var 1)))))
theorem IU(hr:.(hr "gone_on" vT)):.(bo ["doors","later"] "gone_on" vT sP):=by
 obtain⟨_,g_DONE⟩:=C.e_DONE
 obtain⟨_,g_SETTINGS⟩:=C.e_SETTINGS
 unfold sP
 exact(ag (ax (p_of_n (cQ (own:=["setting"]) (caps:=[("later",1),("doors",0)]) ⟨rfl,by decide +kernel,by decide +kernel,⟨⟨rfl,rfl,Or.inl rfl⟩,.(M)⟩,rfl⟩ rfl (s_of_i .(Am)) (.(gn ["setting","later","doors"])) (fun _ _ _ _=>ts_nil) (fun _ _ _ _=>(p_ifV (t_eq hr (b_of (p_at (b_of (p_at (b_var 2) (b_var 0) .(C))) (b_of p_int) .(C))) (b_of (dN rfl g_DONE))) (p_at (b_var 1) (b_var 0) .(C)) (p_at (b_var 2) (b_var 0) .(C)))) gk_set))))
theorem IV(hr:.(hr "marked" vU)):.(bo ["before","step","after","sayings","rooms","told"] "marked" vU sQ):=by
 unfold sQ
 exact(af (aK (i:=4) wR.nd rfl (Or.inl rfl) (fu I.n_z0a hr rfl .(Q) (wY _)))
 (af (aK (i:=5) wR.nd rfl (Or.inr rfl) (p_meth0 I.m_search hr.s (p_fn I.h_zg hr.s rfl (a_cons (p_var 0) (a_cons (p_var 4) (a_cons (p_var 2) (a_cons (fu I.n_z08 hr rfl (a_cons (p_var 3) a_nil) (wX _)) a_nil)))))))
 (af (bh (uO (b_of (p_at (b_var 5) (b_of p_int) .(C))))
 (ag (ax (fu I.n_z0d hr rfl (a_consB (b_of (p_at (b_of (p_at (b_var 5) (b_of p_int) .(C))) (b_of p_int) .(C))) (a_cons (p_at (b_of (p_at (b_var 5) (b_of p_int) .(C))) (b_of p_int) .(C)) a_nil)) (zT _))))
 aB)
 (ag (ax (fu I.n_z0c hr rfl (a_cons (p_of_n (cQ (own:=["room"]) (caps:=[("told",5)]) .(J) rfl (s_of_i (i_rng1 rfl C.z_range (a_cons (p_callB call_len cb_len rfl C.z_len PySem.boot_len (a_consB (b_of (p_fld C.f_doors (p_var 4) rfl)) a_nil)) a_nil))) (.(gn ["room","told"])) (fun _ _ _ _=>ts_nil) (fun _ _ _ _=>(mK (gG hr) (b_of (p_at (b_var 1) (b_of p_int) .(C))) (b_var 0) p_int ⟨rfl,rfl,rfl,rfl⟩)) gk_set)) a_nil) (FO _)))))))
theorem IW{f c Pt:Addr}{A:Around}{outer:List Env}{s:Shared}{H:Hp}{E:XK}(hr:br (2*n+4) (A.deeper (PyProof.Rows.envOfC "breaks_of" (ah oE) s.heap.objs.size f (.ref c))))(mk:E3 (iO fS P w K mg base ["before","rooms","after","bonds","door","fit"] "breaks_of" (ah oE) f (.ref c) A outer s H E).nox c Pt) :
  nB (iO fS P w K mg base ["before","rooms","after","bonds","door","fit"] "breaks_of" (ah oE) f (.ref c) A outer s H E).nox (pg cA) (bz oE) (sR (gF n)):=by
 unfold sR
 exact(af (aK (i:=5) wS.nd rfl (Or.inr rfl) (p_meth0 I.m_mask hr.s (p_var 2)))
 (yI ["fit","rooms"]
 (af (EW (i:=4) 55 rfl ⟨mk.code,mk.hd,mk.tab⟩ (vw (js:=[1,5]) rfl rfl rfl) wS.nd rfl (Or.inl rfl))
 (ag (ax (cF (k:=2*n+2) C.n_z09 hr rfl (a_cons (p_var 3) (a_cons p_int (a_cons (p_and (b_of (p_meth0 I.m_good hr.s (p_var 3))) (b_of (p_meth0 I.m_mask hr.s (p_var 0)))) (a_cons (p_var 4) a_nil)))) rfl))))))
theorem IX(hr:.(hr "_law_cell_at" vV)):.(bo ["_law_script","_law_k"] "_law_cell_at" vV sS):=by
 unfold sS
 exact(af (bh (ym (b_var 1) (b_of (p_callB call_len cb_len rfl C.z_len PySem.boot_len (a_consB (b_var 0) a_nil))))
 (ag (ax (p_at (b_var 0) (b_var 1) .(C))))
 aB)
 (ag (ax p_int)))
theorem IY(hr:.(hr "_law_mixed" vW)):.(bo ["_law_cell","_law_k","_law_number"] "_law_mixed" vW wT):=by
 unfold wT
 exact(af (aK (i:=2) qP.nd rfl (Or.inl rfl) (bN (b_of (o4 (b_of (dn (b_of (dn (b_of (p_and (b_var 0) (b_of p_int))) (b_of (o4 (b_of p_int) (b_var 1))))) (b_of p_int))) (b_of p_int))) (b_of p_int)))
 (af (aK (i:=2) qP.nd rfl (Or.inl rfl) (bN (b_of (o4 (b_var 2) (b_of (dn (b_of .(AB)) (b_of p_int))))) (b_of p_int)))
 (af (aK (i:=2) qP.nd rfl (Or.inl rfl) (bN (b_of (o4 (b_var 2) (b_of (dn (b_of .(AB)) (b_of p_int))))) (b_of p_int)))
 (ag (ax (Ea (b_var 2) (b_of (p_and (b_of (p_shr (b_var 0) (b_of (dn (b_of (o4 (b_of p_int) (b_var 1))) (b_of p_int))))) (b_of p_int)))))))))
theorem IZ(hr:.(hr "_law_guard" vX)):.(bo ["_law_cell"] "_law_guard" vX sT):=by
 unfold sT
 exact(ag (ax (p_tup (a_cons (bN (b_var 0) (b_of p_int)) (a_cons (p_at (b_of aZ) (b_of (bN (b_of (cr (b_var 0) (b_of p_int))) (b_of p_int))) .(C)) (a_cons (p_at (b_of aZ) (b_of (bN (b_of (cr (b_var 0) (b_of p_int))) (b_of p_int))) .(C)) a_nil))))))
theorem J0(hr:.(hr "_law_guard_test" vY)):.(bo ["_law_guard_here","_law_one","_law_other"] "_law_guard_test" vY sU):=by
 unfold sU
 exact(af (aK (i:=1) wU.nd rfl (Or.inl rfl) (cF (k:=2*n+2) C.n_zX hr rfl (a_cons (p_at (b_var 0) (b_of p_int) .(C)) a_nil) rfl))
 (af (aK (i:=2) wU.nd rfl (Or.inl rfl) (cF (k:=2*n+2) C.n_zX hr rfl (a_cons (p_at (b_var 0) (b_of p_int) .(C)) a_nil) rfl))
 (af (bh (t_eq hr (b_of (p_at (b_var 0) (b_of p_int) .(C))) (b_of p_int))
 (ag (ax (p_var 1)))
 aB)
 (af (bh (t_eq hr (b_of (p_at (b_var 0) (b_of p_int) .(C))) (b_of p_int))
 (ag (ax (cF (k:=2*n+2) C.n_zY hr rfl .(Q) rfl)))
 aB)
 (af (bh (t_eq hr (b_of (p_at (b_var 0) (b_of p_int) .(C))) (b_of p_int))
 (ag (ax (cF (k:=2*n+2) C.n_zZ hr rfl (a_cons (p_var 1) (a_cons (cF (k:=2*n+2) C.n_zY hr rfl (a_cons (p_var 2) a_nil) rfl) a_nil)) rfl)))
 aB)
 (af (bh (t_eq hr (b_of (p_at (b_var 0) (b_of p_int) .(C))) (b_of p_int))
 (ag (ax (cF (k:=2*n+2) C.n_z00 hr rfl (a_cons (p_var 1) (a_cons (p_var 2) a_nil)) rfl)))
 aB)
 (af (bh (t_eq hr (b_of (p_at (b_var 0) (b_of p_int) .(C))) (b_of p_int))
 (ag (ax (cF (k:=2*n+2) C.n_zY hr rfl (a_cons (cF (k:=2*n+2) C.n_z00 hr rfl (a_cons (p_var 1) (a_cons (p_var 2) a_nil)) rfl) a_nil) rfl)))
 aB)
 (af (bh (Ed (b_of (p_at (b_var 0) (b_of p_int) .(C))) (b_of aZ))
 (ag (ax (eI C.k_zV rfl rfl C.c_zV)))
 aB)
 (ag (ax (eI C.k_zW rfl rfl C.c_zW)))))))))))
theorem J1(hr:.(hr "_law_leaf" vZ)):.(bo ["_law_cell"] "_law_leaf" vZ sV):=by
 unfold sV
 exact(af (bh (t_eq hr (b_of (bN (b_var 0) (b_of p_int))) (b_of p_int))
 (ag (ax (p_at (b_of (p_of_n (cu (a_cons (p_tup (a_cons aZ a_nil)) (a_cons (p_tup (a_cons aZ a_nil)) (a_cons (p_tup (a_cons aZ a_nil)) a_nil)))))) (b_of (bN (b_of (cr (b_var 0) (b_of p_int))) (b_of p_int))) .(C))))
 aB)
 (ag (ax (p_tup (a_cons aZ (a_cons (p_at (b_of aZ) (b_of (bN (b_of (cr (b_var 0) (b_of p_int))) (b_of p_int))) .(C)) a_nil))))))
theorem J2(hr:.(hr "_law_tree" w8)):.(bo ["_law_cells","_law_held","_law_cell","_law_way","_law_right"] "_law_tree" w8 sW):=by
 unfold sW
 exact(af (li (i:=1) ki.nd rfl (Or.inl rfl) (cu a_nil))
 (af (g8 PassesOwn.never rfl (DN.Hn (p_var 0)) (bf (i:=2) ki.nd rfl (Or.inl rfl))
 (af (aK (i:=3) ki.nd rfl (Or.inl rfl) (bN (b_var 2) (b_of p_int)))
 (ag (bh (zw (yo (t_eq hr (b_var 1) (b_of (p_of_n (cu a_nil)))) (yo (ym (b_var 3) (b_of p_int)) (uP (zw (o5 (Ec (b_var 3) (b_of p_int)) (jO (t_eq hr (b_of .(Ae)) (b_of p_int)))))))))
 (ag (cY (ir 1 (eU (p_fn I.h__law_leaf hr.s rfl (a_cons .(AB) a_nil))))))
 (ag (bh (t_eq hr (b_var 3) (b_of p_int))
 (ag (cY (ir 1 (gL (aX (eU aZ) (aX (eU (p_fn I.h__law_guard hr.s rfl (a_cons .(AB) a_nil))) (aX (jS 1) eJ)))))))
 (ag (bh (ym (b_var 3) (b_of p_int))
 (af (mv (i:=4) ki.nd rfl (Or.inl rfl) (jS 1))
 (ag (cY (ir 1 (gL (aX (eU aZ) (aX (jS 1) (aX (eU (p_var 4)) eJ))))))))
 (af (mv (i:=4) ki.nd rfl (Or.inl rfl) (jS 1))
 (ag (cY (ir 1 (gL (aX (eU aZ) (aX (eU (p_fn I.h__law_guard hr.s rfl (a_cons .(AB) a_nil))) (aX (jS 1) (aX (eU (p_var 4)) eJ)))))))))))))))))
 (af (gc PassesOwn.never (ox (Ec (b_of .(Ae)) (b_of p_int)))
 (af (mv (i:=4) ki.nd rfl (Or.inl rfl) (jS 1))
 (ag (cY (ir 1 (gL (aX (eU aZ) (aX (jS 1) (aX (eU (p_var 4)) eJ)))))))))
 (ag (ax (p_at (b_of (p_of_n (fH (b_var 1) (b_of (p_of_n (cu (a_cons (p_tup (a_cons aZ (a_cons aZ a_nil))) a_nil)))) cI))) (b_of p_int) .(C)))))))
theorem J3(hr:.(hr "_law_made" w9)):.(bo ["_law_tree_here"] "_law_made" w9 kK):=by
 unfold kK
 exact(af (bh (t_eq hr (b_of (p_at (b_var 0) (b_of p_int) .(C))) (b_of aZ))
 (ag (ax (eI C.k_z02 rfl rfl C.c_z02)))
 aB)
 (af (bh (t_eq hr (b_of (p_at (b_var 0) (b_of p_int) .(C))) (b_of aZ))
 (ag (ax (eI C.k_z03 rfl rfl C.c_z03)))
 aB)
 (af (bh (t_eq hr (b_of (p_at (b_var 0) (b_of p_int) .(C))) (b_of aZ))
 (ag (ax (cF (k:=2*n+2) C.n_z04 hr rfl (a_cons (p_at (b_var 0) (b_of p_int) .(C)) a_nil) rfl)))
 aB)
 (af (bh (t_eq hr (b_of (p_at (b_var 0) (b_of p_int) .(C))) (b_of aZ))
 (ag (ax (cF (k:=2*n+2) C.n_z05 hr rfl (a_cons (p_fn I.h__law_made hr.s rfl (a_cons (p_at (b_var 0) (b_of p_int) .(C)) a_nil)) (a_cons (p_fn I.h__law_made hr.s rfl (a_cons (p_at (b_var 0) (b_of p_int) .(C)) a_nil)) a_nil)) rfl)))
 aB)
 (af (bh (t_eq hr (b_of (p_at (b_var 0) (b_of p_int) .(C))) (b_of aZ))
 (ag (ax (cF (k:=2*n+2) C.n_z06 hr rfl (a_cons (p_fn I.h__law_guard_test hr.s rfl (a_cons (p_at (b_var 0) (b_of p_int) .(C)) a_nil)) (a_cons (p_fn I.h__law_made hr.s rfl (a_cons (p_at (b_var 0) (b_of p_int) .(C)) a_nil)) (a_cons (p_fn I.h__law_made hr.s rfl (a_cons (p_at (b_var 0) (b_of p_int) .(C)) a_nil)) a_nil))) rfl)))
 aB)
 (ag (ax (cF (k:=2*n+2) C.n_z07 hr rfl (a_cons (p_fn I.h__law_guard_test hr.s rfl (a_cons (p_at (b_var 0) (b_of p_int) .(C)) a_nil)) (a_cons (p_fn I.h__law_made hr.s rfl (a_cons (p_at (b_var 0) (b_of p_int) .(C)) a_nil)) a_nil)) rfl))))))))
theorem J4(hr:.(hr "_law_saying" wa)):.(bo ["_law_cell","_law_one","_law_other","_law_deed"] "_law_saying" wa sX):=by
 unfold sX
 exact(af (aK (i:=1) qQ.nd rfl (Or.inl rfl) (p_fn I.h__law_guard_test hr.s rfl (a_cons (p_fn I.h__law_guard hr.s rfl (a_cons (cr (b_var 0) (b_of p_int)) a_nil)) a_nil)))
 (af (aK (i:=2) qQ.nd rfl (Or.inl rfl) (p_fn I.h__law_guard_test hr.s rfl (a_cons (p_fn I.h__law_guard hr.s rfl (a_cons (cr (b_var 0) (b_of p_int)) a_nil)) a_nil)))
 (af (aK (i:=3) qQ.nd rfl (Or.inl rfl) (p_at (b_of aZ) (b_of (bN (b_of (cr (b_var 0) (b_of p_int))) (b_of p_int))) .(C)))
 (af (bh (t_eq hr (b_of (bN (b_var 0) (b_of p_int))) (b_of p_int))
 (ag (ax (cF (k:=2*n+2) C.n_z0f hr rfl .(Q) rfl)))
 aB)
 (af (bh (t_eq hr (b_of (bN (b_var 0) (b_of p_int))) (b_of p_int))
 (ag (ax (cF (k:=2*n+2) C.n_z0h hr rfl (a_cons (p_var 1) (a_cons (p_var 3) a_nil)) rfl)))
 aB)
 (ag (ax (cF (k:=2*n+2) C.n_z0g hr rfl (a_cons (p_var 1) (a_cons (p_var 3) (a_cons (p_var 2) a_nil))) rfl))))))))
theorem J5(hr:.(hr "_law_sayings" wb)):.(bo ["_law_cells","_law_many"] "_law_sayings" wb sY):=by
 unfold sY
 exact(ag (ax (p_of_n (cQ (own:=["_law_cell"]) (caps:=[]) ⟨rfl,by decide +kernel,by decide +kernel,True.intro,rfl⟩ rfl (s_list (b_of (p_of_n (n_cut (b_var 0) o_none (o_some (p_var 1)))))) (.(gn ["_law_cell"])) (fun _ _ _ _=>ts_nil) (fun _ _ _ _=>(p_fn I.h__law_saying hr.s rfl (a_cons (p_var 0) a_nil))) gk_set))))
theorem J6(hr:.(hr "_law_drawn" wc)):.(bo ["_law_script","_law_step","_law_cell","_law_before","_law_after","_law_sayings_here","_law_idle"] "_law_drawn" wc sZ):=by
 unfold sZ
 exact(af (aK (i:=1) iB.nd rfl (Or.inl rfl) (p_fn I.h__law_made hr.s rfl (a_cons (p_fn I.h__law_tree hr.s rfl (a_cons (p_of_n (n_cut (b_var 0) (o_some p_int) (o_some p_int))) a_nil)) a_nil)))
 (af (aK (i:=2) iB.nd rfl (Or.inl rfl) (p_fn I.h__law_mixed hr.s rfl (a_cons (p_fn I.h__law_cell_at hr.s rfl (a_cons (p_var 0) (a_cons p_int a_nil))) (a_cons p_int a_nil))))
 (af (aK (i:=3) iB.nd rfl (Or.inl rfl) (p_fn I.h__law_guard_test hr.s rfl (a_cons (p_fn I.h__law_guard hr.s rfl (a_cons .(AB) a_nil)) a_nil)))
 (af (aK (i:=4) iB.nd rfl (Or.inl rfl) (p_fn I.h__law_guard_test hr.s rfl (a_cons (p_fn I.h__law_guard hr.s rfl (a_cons .(AB) a_nil)) a_nil)))
 (af (bh (t_eq hr (b_of (bN (b_of .(AB)) (b_of p_int))) (b_of p_int))
 (ag (aK (i:=3) iB.nd rfl (Or.inl rfl) (eI C.k_zV rfl rfl C.c_zV)))
 aB)
 (af (aK (i:=5) iB.nd rfl (Or.inl rfl) (p_fn I.h__law_sayings hr.s rfl (a_cons (p_of_n (cQ (own:=["_law_k"]) (caps:=[("_law_script",0)]) .(J) rfl (s_of_i (i_rng1 rfl C.z_range (a_cons p_int a_nil))) (.(gn ["_law_k","_law_script"])) (fun _ _ _ _=>ts_nil) (fun _ _ _ _=>(p_fn I.h__law_mixed hr.s rfl (a_cons (p_fn I.h__law_cell_at hr.s rfl (a_cons (p_var 1) (a_cons p_int a_nil))) (a_cons (p_var 0) a_nil)))) gk_set)) (a_cons (bN (b_var 2) (b_of p_int)) a_nil))))
 (af (bh (t_eq hr (b_of (bN (b_of .(AB)) (b_of p_int))) (b_of p_int))
 (af (aK (i:=6) iB.nd rfl (Or.inl rfl) (p_of_n (cu (a_cons (cF (k:=2*n+2) C.n_z0f hr rfl (a_cons (eI C.k_zW rfl rfl C.c_zW) a_nil) rfl) (a_cons (cF (k:=2*n+2) C.n_z0h hr rfl (a_cons (eI C.k_zV rfl rfl C.c_zV) (a_cons aZ a_nil)) rfl) (a_cons (cF (k:=2*n+2) C.n_z0g hr rfl (a_cons (eI C.k_zW rfl rfl C.c_zW) (a_cons aZ (a_cons (p_var 3) a_nil))) rfl) (a_cons (cF (k:=2*n+2) C.n_z0g hr rfl (a_cons (p_var 4) (a_cons aZ (a_cons (eI C.k_zV rfl rfl C.c_zV) a_nil))) rfl) a_nil)))))))
 (ag (aK (i:=5) iB.nd rfl (Or.inl rfl) (p_of_n (fH (b_of (p_of_n (fH (b_var 6) (b_of (p_of_n (cu (a_cons (cF (k:=2*n+2) C.n_z0h hr rfl (a_cons (eI C.k_zW rfl rfl C.c_zW) (a_cons aZ a_nil)) rfl) a_nil)))) cI))) (b_var 5) cI)))))
 aB)
 (ag (ax (p_tup (a_cons (p_var 3) (a_cons (p_var 1) (a_cons (p_var 4) (a_cons (p_var 5) a_nil))))))))))))))
theorem J7(hr:.(hr "_law_bits" wd)):.(bo ["_law_mask"] "_law_bits" wd t6):=by
 unfold t6
 exact(ag (ax (p_of_n (cQ (own:=["_law_setting"]) (caps:=[("_law_mask",0)]) .(J) rfl (s_of_i (i_rng1 rfl C.z_range (a_cons p_int a_nil))) (.(gn ["_law_setting","_law_mask"])) (fun _ _ _ _=>(ts_one (t_eq hr (b_of (p_and (b_of (p_shr (b_var 1) (b_var 0))) (b_of p_int))) (b_of p_int)))) (fun _ _ _ _=>(p_var 0)) gk_set))))
theorem J8(hr:.(hr "_law_nearest" we)):.(bo ["_law_doors","_law_bonds","_law_begin","_law_after","_law_spots","_law_met","_law_spot","_law_many","_law_coming","_law_room","_law_setting","_law_what","_law_there","_law_later"] "_law_nearest" we t8):=by
 unfold t8
 exact(af (pA (i:=4) f8.nd rfl (Or.inl rfl) (own:=["_law_setting"]) (caps:=[]) ⟨rfl,by decide +kernel,by decide +kernel,True.intro,rfl⟩ rfl (s_list (b_var 2)) (.(gn ["_law_setting"])) (fun _ _ _ _=>ts_nil) (fun _ _ _ _=>(p_tup (a_cons p_int (a_cons (p_var 0) a_nil)))) gk_set)
 (af (yM (i:=5) f8.nd rfl (Or.inl rfl))
 (af (g8 PassesOwn.never rfl (DN.Hn (p_var 4)) (bf (i:=6) f8.nd rfl (Or.inl rfl))
 (ag (qJ 5 (gG hr) (p_var 6) gy rfl)))
 (af (aK (i:=7) f8.nd rfl (Or.inl rfl) p_int)
 (af (gc PassesOwn.never (ox (my hr (b_var 4) (b_of (p_of_n (cu a_nil)))))
 (af (li (i:=8) f8.nd rfl (Or.inl rfl) (cu a_nil))
 (af (g8 PassesOwn.never rfl (DN.Hn (p_var 4)) (ja rfl (bD (bf (i:=9) f8.nd rfl (Or.inl rfl)) (bD (bf (i:=10) f8.nd rfl (Or.inl rfl)) g6)))
 (af (lj (p_at (b_of (p_at (b_var 0) (b_var 9) .(C))) (b_var 10) .(C)) (ja rfl (bD (bf (i:=11) f8.nd rfl (Or.inl rfl)) (bD (bf (i:=12) f8.nd rfl (Or.inl rfl)) g6))))
 (af (bh (zw (o5 (t_eq hr (b_var 11) (b_of aZ)) (jO (lf (t_val (p_meth I.m_holds hr.s (p_var 3) (a_cons (p_var 10) a_nil)))))))
 (ag (ax (p_var 7)))
 aB)
 (ag (bh (mB (b_var 11) (b_of (p_tup (a_cons aZ (a_cons aZ (a_cons aZ a_nil))))) rfl)
 (ag (g8 PassesOwn.never rfl (DN.Hn (p_fn I.h__law_bits hr.s rfl (a_cons (p_meth I.m_ways hr.s (p_var 1) (a_cons (p_var 11) (a_cons (p_var 10) a_nil))) a_nil))) (bf (i:=13) f8.nd rfl (Or.inl rfl))
 (ag (bh (vC (gG hr) (b_of (p_tup (a_cons (p_var 12) (a_cons (p_var 13) a_nil)))) (b_var 5) rfl)
 (af (qJ 5 (gG hr) (p_tup (a_cons (p_var 12) (a_cons (p_var 13) a_nil))) gy rfl)
 (ag (cY (ir 8 (eU (p_tup (a_cons (p_var 12) (a_cons (p_var 13) a_nil))))))))
 aB))))
 aB)))))
 (af (aK (i:=7) f8.nd rfl (Or.inl rfl) (dn (b_var 7) (b_of p_int)))
 (ag (mv (i:=4) f8.nd rfl (Or.inl rfl) (jb 8)))))))
 (ag (ax (lg p_int))))))))
theorem J9(hr:.(hr "_law_breaks" wf)):.(bo ["_law_settings","_law_deeds","_law_doors","_law_bonds","_law_begin","_law_after","_law_room","_law_k","_law_what","_law_there"] "_law_breaks" wf tf):=by
 unfold tf
 exact(af (bh (zw (yo (my hr (b_of (p_callB call_len cb_len rfl C.z_len PySem.boot_len (a_consB (b_var 0) a_nil))) (b_of (dn (b_of .(Ae)) (b_of p_int)))) (uP (mB (b_of (p_at (b_var 0) (b_of p_int) .(C))) (b_var 4) rfl))))
 (ag (ax gy))
 aB)
 (af (aK (i:=6) lF.nd rfl (Or.inl rfl) p_int)
 (af (g8 PassesOwn.never rfl (i_rng1 rfl C.z_range (a_cons .(Ae) a_nil)) (bf (i:=7) lF.nd rfl (Or.inl rfl))
 (af (lj (p_at (b_of (p_at (b_var 2) (b_var 6) .(C))) (b_of (p_at (b_var 0) (b_var 7) .(C))) .(C)) (ja rfl (bD (bf (i:=8) lF.nd rfl (Or.inl rfl)) (bD (bf (i:=9) lF.nd rfl (Or.inl rfl)) g6))))
 (af (bh (zw (yo (my hr (b_var 8) (b_of (p_at (b_var 1) (b_var 7) .(C)))) (uP (mB (b_of (p_at (b_var 0) (b_of (dn (b_var 7) (b_of p_int))) .(C))) (b_of (p_fn I.h__law_bits hr.s rfl (a_cons (p_meth I.m_ways hr.s (p_var 3) (a_cons (p_var 8) (a_cons (p_at (b_var 0) (b_var 7) .(C)) a_nil))) a_nil))) rfl))))
 (ag (ax gy))
 aB)
 (ag (aK (i:=6) lF.nd rfl (Or.inl rfl) (p_var 9))))))
 (ag (ax (mo (sr hr (b_of (p_at (b_of (p_at (b_of (p_at (b_var 2) (b_var 6) .(C))) (b_of (p_at (b_var 0) (b_of (lg p_int)) .(C))) .(C))) (b_of p_int) .(C))) (b_of aZ)) (oe (pi (p_meth I.m_holds hr.s (p_var 5) (a_cons (p_at (b_var 0) (b_of (lg p_int)) .(C)) a_nil))))))))))
theorem Ja(hr:.(hr "_law_walk" wj)):.(bo ["_law_script","_law_doors","_law_bonds","_law_begin","_law_cell","_law_settings","_law_deeds","_law_room","_law_k","_law_some","_law_what","_law_there"] "_law_walk" wj tj):=by
 unfold tj
 exact(af (aK (i:=4) gi.nd rfl (Or.inl rfl) (p_fn I.h__law_cell_at hr.s rfl (a_cons (p_var 0) (a_cons p_int a_nil))))
 (af (li (i:=5) gi.nd rfl (Or.inl rfl) (cu (a_cons (p_at (b_of (p_of_n (fH (b_var 3) (b_of (p_of_n (cu (a_cons p_int a_nil)))) cI))) (b_of (bN (b_of (bN (b_var 4) (b_of (dn (b_of (p_callB call_len cb_len rfl C.z_len PySem.boot_len (a_consB (b_var 3) a_nil))) (b_of p_int))))) (b_of (p_callB (rF rfl) yL rfl C.z_max boot_max (a_cons p_int (a_cons (p_callB call_len cb_len rfl C.z_len PySem.boot_len (a_consB (b_var 3) a_nil)) a_nil)))))) .(C)) a_nil)))
 (af (aK (i:=6) gi.nd rfl (Or.inl rfl) aZ)
 (af (aK (i:=7) gi.nd rfl (Or.inl rfl) p_int)
 (af (g8 PassesOwn.never rfl (i_rng1 rfl C.z_range (a_cons p_int a_nil)) (bf (i:=8) gi.nd rfl (Or.inl rfl))
 (af (lj (p_at (b_of (p_at (b_var 1) (b_var 7) .(C))) (b_of (p_at (b_var 5) (b_of (lg p_int)) .(C))) .(C)) (ja rfl (bD (bf (i:=10) gi.nd rfl (Or.inl rfl)) (bD (bf (i:=11) gi.nd rfl (Or.inl rfl)) g6))))
 (af (bh (Hu (b_var 10) (b_of (p_tup (a_cons aZ (a_cons aZ (a_cons aZ a_nil))))) rfl)
 (ag (gY (gL (aX (jb 5) (aX (eU (p_var 6)) eJ)))))
 aB)
 (af (aK (i:=9) gi.nd rfl (Or.inl rfl) (p_fn I.h__law_bits hr.s rfl (a_cons (p_meth I.m_ways hr.s (p_var 2) (a_cons (p_var 10) (a_cons (p_at (b_var 5) (b_of (lg p_int)) .(C)) a_nil))) a_nil)))
 (af (bh (t_eq hr (b_var 9) (b_of (p_of_n (cu a_nil))))
 (ag (gY (gL (aX (jb 5) (aX (eU (p_var 6)) eJ)))))
 aB)
 (af (cY (ir 5 (eU (p_at (b_var 9) (b_of (bN (b_of (p_fn I.h__law_mixed hr.s rfl (a_cons (p_var 4) (a_cons (p_var 8) a_nil)))) (b_of (p_callB call_len cb_len rfl C.z_len PySem.boot_len (a_consB (b_var 9) a_nil))))) .(C)))))
 (af (aK (i:=6) gi.nd rfl (Or.inl rfl) (mn (b_var 6) (b_var 10)))
 (ag (aK (i:=7) gi.nd rfl (Or.inl rfl) (p_var 11))))))))))
 (ag (gY (gL (aX (jb 5) (aX (eU (p_var 6)) eJ))))))))))
theorem Jb(hr:.(hr "_law_changed" wm)):.(bo ["_law_settings","_law_deeds","_law_cell","_law_at","_law_way"] "_law_changed" wm tm):=by
 unfold tm
 exact(af (aK (i:=3) qR.nd rfl (Or.inl rfl) (bN (b_of .(AB)) (b_of (p_callB call_len cb_len rfl C.z_len PySem.boot_len (a_consB (b_var 0) a_nil)))))
 (af (aK (i:=4) qR.nd rfl (Or.inl rfl) (bN (b_var 2) (b_of p_int)))
 (af (bh (t_eq hr (b_var 4) (b_of p_int))
 (ag (ax (p_tup (a_cons (p_of_n (fH (b_of (p_of_n (fH (b_of (p_of_n (n_cut (b_var 0) o_none (o_some (p_var 3))))) (b_of (p_of_n (cu (a_cons (qm (b_of (bN (b_of .(AB)) (b_of p_int))) (b_of p_int)) a_nil)))) cI))) (b_of (p_of_n (n_cut (b_var 0) (o_some (dn (b_var 3) (b_of p_int))) o_none))) cI)) .(Q)))))
 aB)
 (af (bh (zw (o5 (t_eq hr (b_var 4) (b_of p_int)) (jO (my hr (b_var 1) (b_of aZ)))))
 (af (aK (i:=3) qR.nd rfl (Or.inl rfl) (bN (b_var 3) (b_of .(Ae))))
 (ag (ax (p_tup (a_cons (p_var 0) (a_cons (mn (b_of (mn (b_of (vy (p_var 1) o_none (o_some (p_var 3)))) (b_of (p_at (b_of aZ) (b_of (bN (b_of .(AB)) (b_of p_int))) .(C))))) (b_of (vy (p_var 1) (o_some (dn (b_var 3) (b_of p_int))) o_none))) a_nil))))))
 aB)
 (af (bh (t_eq hr (b_var 4) (b_of p_int))
 (ag (ax (p_tup (a_cons (p_of_n (fH (b_of (p_of_n (n_cut (b_var 0) o_none (o_some (p_var 3))))) (b_of (p_of_n (n_cut (b_var 0) (o_some (dn (b_var 3) (b_of p_int))) o_none))) cI)) .(Q)))))
 aB)
 (af (bh (t_eq hr (b_var 4) (b_of p_int))
 (ag (ax (p_tup (a_cons (p_of_n (fH (b_var 0) (b_of (p_of_n (cu (a_cons (bN (b_of .(AB)) (b_of p_int)) a_nil)))) cI)) .(Q)))))
 aB)
 (af (bh (t_eq hr (b_var 4) (b_of p_int))
 (ag (ax (p_tup (a_cons (p_var 0) (a_cons (mn (b_var 1) (b_of (p_at (b_of aZ) (b_of (bN (b_of .(AB)) (b_of p_int))) .(C)))) a_nil)))))
 aB)
 (af (bh (t_eq hr (b_var 4) (b_of p_int))
 (ag (ax (p_tup (a_cons (p_of_n (n_cut (b_var 0) o_none (o_some p_int))) (a_cons aZ a_nil)))))
 aB)
 (ag (ax (p_tup (a_cons (p_var 0) .(Q)))))))))))))
theorem FP(hr:.(hr "law" oF)):.(bo ["_law_script","_law_found","_law_doors","_law_bonds","_law_begin","_law_many","_law_handed","_law_told","_law_stands","_law_due","_law_before","_law_step","_law_after","_law_sayings_here","_law_settings","_law_deeds"] "law" oF tw):=by
 unfold tw
 exact(af (lj (p_fn I.h__law_drawn hr.s rfl (a_cons (p_var 0) a_nil)) (ja rfl (bD (bf (i:=10) cH.nd rfl (Or.inr rfl)) (bD (bf (i:=11) cH.nd rfl (Or.inl rfl)) (bD (bf (i:=12) cH.nd rfl (Or.inl rfl)) (bD (bf (i:=13) cH.nd rfl (Or.inl rfl)) g6))))))
 (af (aK (i:=1) cH.nd rfl (Or.inl rfl) (p_fn I.h_zf hr.s rfl (a_cons (p_var 10) (a_cons (p_var 11) (a_cons (p_var 12) (a_cons (p_var 13) a_nil))))))
 (af (aK (i:=2) cH.nd rfl (Or.inl rfl) (p_fld C.f_doors (fu I.n_z0a hr rfl (a_cons (p_var 11) a_nil) (wY _)) rfl))
 (af (aK (i:=3) cH.nd rfl (Or.inl rfl) (fu I.n_z08 hr rfl (a_cons (p_var 13) a_nil) (wX _)))
 (af (pA (i:=4) cH.nd rfl (Or.inl rfl) (own:=["_law_setting"]) (caps:=[("_law_before",10)]) .(J) rfl (s_list (b_of (p_fn I.h__law_bits hr.s rfl (a_cons (p_meth0 I.m_good hr.s (p_var 3)) a_nil)))) (.(gn ["_law_setting","_law_before"])) (fun _ _ _ _=>(ts_one (t_val (p_meth I.m_holds hr.s (p_var 1) (a_cons (p_var 0) a_nil))))) (fun _ _ _ _=>(p_var 0)) gk_set)
 (af (aK (i:=5) cH.nd rfl (Or.inl rfl) (p_fn I.h__law_nearest hr.s rfl (a_cons (p_var 2) (a_cons (p_var 3) (a_cons (p_var 4) (a_cons (p_var 12) a_nil))))))
 (af (bh (my hr (b_of (j9 rfl C.z_isinstance C.i_z0d dR (b_var 1) (cE rfl C.c_z0d))) (b_of (Eb (b_var 5) (b_of p_int))))
 (ag (ax gy))
 aB)
 (af (lj (p_fn I.h__law_walk hr.s rfl (a_cons (p_var 0) (a_cons (p_var 2) (a_cons (p_var 3) (a_cons (p_var 4) a_nil))))) (ja rfl (bD (bf (i:=14) cH.nd rfl (Or.inl rfl)) (bD (bf (i:=15) cH.nd rfl (Or.inl rfl)) g6))))
 (af (bh (t_val (j9 rfl C.z_isinstance C.i_z0d dR (b_var 1) (cE rfl C.c_z0d)))
 (af (bh (my hr (b_of (p_callB call_len cb_len rfl C.z_len PySem.boot_len (a_consB (b_of (p_fld C.f_deeds (p_var 1) rfl)) a_nil))) (b_var 5))
 (ag (ax gy))
 aB)
 (ag (bh (t_eq hr (b_of (bN (b_of (p_fn I.h__law_cell_at hr.s rfl (a_cons (p_var 0) (a_cons p_int a_nil)))) (b_of p_int))) (b_of p_int))
 (af (aK (i:=14) cH.nd rfl (Or.inl rfl) (p_of_n (mq (x:="list") rfl C.z_list (a_consB (b_of (p_fld C.f_settings (p_var 1) rfl)) a_nil))))
 (ag (aK (i:=15) cH.nd rfl (Or.inl rfl) (p_fld C.f_deeds (p_var 1) rfl))))
 aB)))
 aB)
 (af (lj (p_fn I.h__law_changed hr.s rfl (a_cons (p_var 14) (a_cons (p_var 15) (a_cons (cr (b_of (p_fn I.h__law_cell_at hr.s rfl (a_cons (p_var 0) (a_cons p_int a_nil)))) (b_of p_int)) a_nil)))) (ja rfl (bD (bf (i:=14) cH.nd rfl (Or.inl rfl)) (bD (bf (i:=15) cH.nd rfl (Or.inl rfl)) g6))))
 (af (li (i:=6) cH.nd rfl (Or.inl rfl) (mq (x:="list") rfl C.z_list (a_consB (b_var 14) a_nil)))
 (af (aK (i:=7) cH.nd rfl (Or.inl rfl) (fu I.n_z0d hr rfl (a_consB (b_var 6) (a_cons (p_var 15) a_nil)) (zT _)))
 (af (cY (EQ 6))
 (af (aK (i:=8) cH.nd rfl (Or.inl rfl) (p_meth I.m_stands hr.s (p_var 7) (a_cons (p_var 10) (a_cons (p_var 11) (a_cons (p_var 12) (a_cons (p_var 13) a_nil))))))
 (af (aK (i:=9) cH.nd rfl (Or.inl rfl) (p_fn I.h__law_breaks hr.s rfl (a_cons (p_var 14) (a_cons (p_var 15) (a_cons (p_var 2) (a_cons (p_var 3) (a_cons (p_var 4) (a_cons (p_var 12) a_nil))))))))
 (ag (ax (mo (j9 rfl C.z_isinstance C.i_bool yx (b_var 8) (ya rfl C.z_bool boot_bool)) (mo (sr hr (b_var 8) (b_var 9)) (oe (zx (pi (p_var 9)) (oe (Eb (b_var 5) (b_of p_int))))))))))))))))))))))))
theorem pL(hr:.(hr "Test.mask" wn)):.(bo ["self","total","setting"] "Test.mask" wn wV):=by
 obtain⟨_,g_SETTINGS⟩:=C.e_SETTINGS
 unfold wV
 exact(af (aK (i:=1) gM.nd rfl (Or.inl rfl) p_int)
 (af (g8 PassesOwn.never rfl .(Am) (bf (i:=2) gM.nd rfl (Or.inl rfl))
 (ag (bh (t_val (p_meth I.m_holds hr.s (p_var 0) (a_cons (p_var 2) a_nil)))
 (ag (oj (i:=1) gM.nd rfl (Or.inl rfl) (uN (b_of p_int) (b_var 2)) oR))
 aB)))
 (ag (ax (p_var 1)))))
theorem Jc(hr:.(hr "Yes.holds" wo)):.(bo .(S) "Yes.holds" wo BS):=by
 unfold BS
 exact(ag (ax gy))
theorem Jd(hr:.(hr "No.holds" wp)):.(bo .(S) "No.holds" wp BT):=by
 unfold BT
 exact(ag (ax gy))
theorem Je(hr:.(hr "Named.holds" wq)):.(bo .(S) "Named.holds" wq BU):=by
 obtain⟨_,g_LETTERS,t_LETTERS⟩:=C.e_LETTERS
 unfold BU
 exact(ag (ax (sr hr (b_of (p_and (b_of (p_shr (b_var 1) (b_of (yz (ws:=lE) t_LETTERS rfl g_LETTERS (fun _ _=>⟨_,_,rfl,rfl,⟨_,_,rfl,rfl,⟨_,_,rfl,rfl,⟨_,_,rfl,rfl,rfl⟩⟩⟩⟩) rfl (p_fld C.f_name (p_var 0) rfl))))) (b_of p_int))) (b_of p_int))))
theorem Jf(hr:.(hr "Not.holds" wt)):.(bo .(S) "Not.holds" wt BV):=by
 unfold BV
 exact(ag (ax (pi (p_meth I.m_holds hr.s (p_fld C.f_inner (p_var 0) rfl) .(Q)))))
theorem Jg(hr:.(hr "Both.holds" wu)):.(bo .(S) "Both.holds" wu BW):=by
 unfold BW
 exact(ag (ax (mo (p_meth I.m_holds hr.s (p_fld C.f_left (p_var 0) rfl) .(Q)) (oe (p_meth I.m_holds hr.s (p_fld C.f_right (p_var 0) rfl) .(Q))))))
theorem Jh(hr:.(hr "Either.holds" wv)):.(bo .(S) "Either.holds" wv BX):=by
 unfold BX
 exact(ag (ax (zx (p_meth I.m_holds hr.s (p_fld C.f_left (p_var 0) rfl) .(Q)) (oe (p_meth I.m_holds hr.s (p_fld C.f_right (p_var 0) rfl) .(Q))))))
theorem Ji(hr:.(hr "Bonds.good" ww)):.(bo ["self"] "Bonds.good" ww BY):=by
 unfold BY
 exact(ag (ax (p_fld C.f_lasting (p_var 0) rfl)))
theorem Jj(hr:.(hr "Bonds.ways" wx)):.(bo .(AG) "Bonds.ways" wx tz):=by
 unfold tz
 exact(ag (ax (p_and (b_of (p_at (b_of (vj (gG hr) (b_of (p_fld C.f_let_by (p_var 0) rfl)) (b_var 1) .(C))) (b_var 2) .(C))) (b_of (p_fld C.f_lasting (p_var 0) rfl)))))
theorem Jk(hr:.(hr "Maze.search" wz)):.(bo ["self","reached","visits","number","visit","told","fresh"] "Maze.search" wz tE):=by
 obtain⟨_,g_ENDS,t_ENDS⟩:=C.e_ENDS
 obtain⟨_,g_FOUND⟩:=C.e_FOUND
 unfold tE
 exact(af (yO (i:=1) jf.nd rfl (Or.inl rfl) (p_fld C.f_begin (p_var 0) rfl) (p_fld C.f_starts (p_var 0) rfl))
 (af (Bi (i:=2) jf.nd rfl (Or.inl rfl) (own:=["setting"]) (caps:=[("self",0)]) .(J) rfl (s_list (b_of (p_fn I.h_z1 hr.s rfl (a_cons (p_fld C.f_starts (p_var 0) rfl) a_nil)))) (.(gn ["setting","self"])) (fun _ _ _ _=>ts_nil) (fun _ _ _ _=>(p_tup (a_cons (p_fld C.f_begin (p_var 1) rfl) (a_cons (p_var 0) (a_cons aZ (a_cons zu a_nil)))))) gk_set)
 (af (aK (i:=3) jf.nd rfl (Or.inl rfl) p_int)
 (af (gc PassesOwn.never (ox (ym (b_var 3) (b_of (p_callB call_len cb_len rfl C.z_len PySem.boot_len (a_consB (b_var 2) a_nil)))))
 (af (aK (i:=4) jf.nd rfl (Or.inr rfl) (p_at (b_var 2) (b_var 3) .(C)))
 (af (oj (i:=3) jf.nd rfl (Or.inl rfl) p_int oR)
 (af (aK (i:=5) jf.nd rfl (Or.inr rfl) (mN C.f_door (p_var 0) I.cl hr.s (a_cons (p_at (b_var 4) (b_of p_int) .(C)) (a_cons (p_at (b_var 4) (b_of p_int) .(C)) a_nil))))
 (af (bh (t_eq hr (b_of (p_at (b_var 5) (b_of p_int) .(C))) (b_of (dN rfl g_FOUND)))
 (ag (gY (gL (aX (jb 1) (aX (eU (p_fn I.h_z6 hr.s rfl (a_cons (p_var 4) a_nil))) eJ)))))
 aB)
 (ag (bh (yr (ws:=iZ) i9 (b_of (p_at (b_var 5) (b_of p_int) .(C))) t_ENDS rfl g_ENDS (fun _ _=>⟨_,_,rfl,rfl,⟨_,_,rfl,rfl,⟨_,_,rfl,rfl,rfl⟩⟩⟩) rfl)
 (af (aK (i:=6) jf.nd rfl (Or.inl rfl) (p_and (b_of (p_meth I.m_ways hr.s (p_fld C.f_bonds (p_var 0) rfl) (a_cons (p_at (b_var 5) (b_of p_int) .(C)) (a_cons (p_at (b_var 4) (b_of p_int) .(C)) a_nil)))) (b_of (EZ (mK (gG hr) (b_var 1) (b_of (p_at (b_var 5) (b_of p_int) .(C))) p_int ⟨rfl,rfl,rfl,rfl⟩)))))
 (af (vi 1 (gG hr) (p_at (b_var 5) (b_of p_int) .(C)) (Hk (b_of (mK (gG hr) (b_var 1) (b_of (p_at (b_var 5) (b_of p_int) .(C))) p_int ⟨rfl,rfl,rfl,rfl⟩)) (b_var 6)) rfl)
 (ag (cY (EO 2 (cQ (own:=["setting"]) (caps:=[("visit",4),("told",5)]) ⟨rfl,by decide +kernel,by decide +kernel,⟨⟨rfl,rfl,Or.inl rfl⟩,.(M)⟩,rfl⟩ rfl (s_list (b_of (p_fn I.h_z1 hr.s rfl (a_cons (p_var 6) a_nil)))) (.(gn ["setting","visit","told"])) (fun _ _ _ _=>ts_nil) (fun _ _ _ _=>(p_tup (a_cons (p_at (b_var 2) (b_of p_int) .(C)) (a_cons (p_var 0) (a_cons (p_at (b_var 2) (b_of p_int) .(C)) .(Q)))))) gk_set))))))
 aB)))))))
 (ag (gY (gL (aX (jb 1) (aX (eU zu) eJ)))))))))
theorem Jl(hr:.(hr "Maze.is_word" wA)):.(bo ["self","settings","deeds","place","number","deed","told"] "Maze.is_word" wA tF):=by
 obtain⟨_,g_FOUND⟩:=C.e_FOUND
 obtain⟨_,g_SETTINGS⟩:=C.e_SETTINGS
 unfold tF
 exact(af (bh (my hr (b_of .(Ae)) (b_of (dn (b_of (p_callB call_len cb_len rfl C.z_len PySem.boot_len (a_consB (b_var 2) a_nil))) (b_of p_int))))
 (ag (ax gy))
 aB)
 (af (bh (lf (t_val (p_callB (lq rfl) vg rfl C.z_all boot_all (a_consB (b_of (p_of_n (cQ (own:=["setting"]) (caps:=[]) ⟨rfl,by decide +kernel,by decide +kernel,True.intro,rfl⟩ rfl (s_list (b_var 1)) (.(gn ["setting"])) (fun _ _ _ _=>ts_nil) (fun _ _ _ _=>(p_chain op_le op_lt (oi_le _ _) (oi_lt _ _) (b_of p_int) (b_var 0) (b_of (p_topI rfl g_SETTINGS)))) gk_set))) a_nil))))
 (ag (ax gy))
 aB)
 (af (bh (lf (t_val (p_fn I.h_z0 hr.s rfl (a_cons (p_at (b_var 1) (b_of p_int) .(C)) (a_cons (p_fld C.f_starts (p_var 0) rfl) a_nil)))))
 (ag (ax gy))
 aB)
 (af (aK (i:=3) lG.nd rfl (Or.inl rfl) (p_fld C.f_begin (p_var 0) rfl))
 (af (yP PassesOwn.never rfl rfl C.z_enumerate (p_var 2) (ja rfl (bD (bf (i:=4) lG.nd rfl (Or.inl rfl)) (bD (bf (i:=5) lG.nd rfl (Or.inl rfl)) g6)))
 (af (aK (i:=6) lG.nd rfl (Or.inl rfl) (mN C.f_door (p_var 0) I.cl hr.s (a_cons (p_var 3) (a_cons (p_at (b_var 1) (b_var 4) .(C)) a_nil))))
 (af (bh (my hr (b_of (p_at (b_var 6) (b_of p_int) .(C))) (b_var 5))
 (ag (ax gy))
 aB)
 (af (bh (lf (t_val (p_fn I.h_z0 hr.s rfl (a_cons (p_at (b_var 1) (b_of (dn (b_var 4) (b_of p_int))) .(C)) (a_cons (p_meth I.m_ways hr.s (p_fld C.f_bonds (p_var 0) rfl) (a_cons (p_var 5) (a_cons (p_at (b_var 1) (b_var 4) .(C)) a_nil))) a_nil)))))
 (ag (ax gy))
 aB)
 (ag (aK (i:=3) lG.nd rfl (Or.inl rfl) (p_at (b_var 6) (b_of p_int) .(C))))))))
 (ag (ax (sr hr (b_of (p_at (b_of (mN C.f_door (p_var 0) I.cl hr.s (a_cons (p_var 3) (a_cons (p_at (b_var 1) (b_of (lg p_int)) .(C)) a_nil)))) (b_of p_int) .(C))) (b_of (dN rfl g_FOUND))))))))))
theorem Jm(hr:.(hr "Finding.stands" wB)):.(bo ["self","before","step","after","sayings"] "Finding.stands" wB BZ):=by
 unfold BZ
 exact(ag (ax gy))
theorem Jn(hr:.(hr "Broken.stands" wC)):.(bo ["self","before","step","after","sayings"] "Broken.stands" wC tH):=by
 unfold tH
 exact(ag (ax (p_meth I.m_is_word hr.s (p_fn I.h_zg hr.s rfl (a_cons (p_var 1) (a_cons (fu I.n_z0a hr rfl (a_cons (p_var 2) a_nil) (wY _)) (a_cons (p_var 3) (a_cons (fu I.n_z08 hr rfl (a_cons (p_var 4) a_nil) (wX _)) a_nil))))) (a_cons (p_fld C.f_settings (p_var 0) rfl) (a_cons (p_fld C.f_deeds (p_var 0) rfl) a_nil)))))
theorem Cf(hr:.(hr "Saying.bars" wD)):.(bo .(S) "Saying.bars" wD Ca):=by
 unfold Ca
 exact(ag (ax gy))
theorem FQ(hr:.(hr "Saying.later_mask" wE)):.(bo .(AG) "Saying.later_mask" wE Cb):=by
 obtain⟨_,g_EVERY⟩:=C.e_EVERY
 unfold Cb
 exact(ag (ax (p_topI rfl g_EVERY)))
theorem Jo(hr:.(hr "Nowhere.bars" wF)):.(bo .(S) "Nowhere.bars" wF tI):=by
 unfold tI
 exact(ag (ax (p_meth I.m_holds hr.s (p_fld C.f_test (p_var 0) rfl) .(Q))))
theorem Jp(hr:.(hr "Behind.later_mask" wG)):.(bo .(AG) "Behind.later_mask" wG tJ):=by
 obtain⟨_,g_EVERY⟩:=C.e_EVERY
 unfold tJ
 exact(af (bh (zw (o5 (t_eq hr (b_var 1) (b_of (p_fld C.f_deed (p_var 0) rfl))) (jO (t_val (p_meth I.m_holds hr.s (p_fld C.f_before (p_var 0) rfl) (a_cons (p_var 2) a_nil))))))
 (ag (ax (p_meth0 I.m_mask hr.s (p_fld C.f_after (p_var 0) rfl))))
 aB)
 (ag (ax (p_topI rfl g_EVERY))))
theorem Jq(hr:.(hr "Through.later_mask" wH)):.(bo ["self","deed","setting","mask"] "Through.later_mask" wH tK):=by
 obtain⟨_,g_EVERY⟩:=C.e_EVERY
 unfold tK
 exact(af (bh (my hr (b_var 1) (b_of (p_fld C.f_deed (p_var 0) rfl)))
 (ag (ax (p_topI rfl g_EVERY)))
 aB)
 (af (aK (i:=3) zR.nd rfl (Or.inl rfl) (p_meth0 I.m_mask hr.s (p_fld C.f_test (p_var 0) rfl)))
 (ag (ax (p_ifV (t_val (p_fn I.h_z0 hr.s rfl (a_cons (p_var 2) (a_cons (p_var 3) a_nil)))) (p_var 3) (qm (b_of (p_topI rfl g_EVERY)) (b_var 3)))))))
theorem Jr(hr:.(hr "Bonds.__init__" wI)):.(bo ["self","sayings"] "Bonds.__init__" wI oH):=by
 unfold oH
 exact(af (jd (j:=0) 14 C.l_z08.cls C.x_Bonds_unbarred (show(fN 14).Nodup by decide +kernel) rfl (show(fN 14).length<1000 by decide) (p_fn I.h_z2 hr.s rfl .(Q)))
 (af (jd (j:=1) 14 C.l_z08.cls C.x_Bonds_let_by (show(fN 14).Nodup by decide +kernel) rfl (show(fN 14).length<1000 by decide) (p_fn I.h_z3 hr.s rfl .(Q)))
 (ag (jd (j:=2) 14 C.l_z08.cls C.x_Bonds_lasting (show(fN 14).Nodup by decide +kernel) rfl (show(fN 14).length<1000 by decide) (p_fn I.h_z5 hr.s rfl (a_cons (vo 0 C.f_unbarred) (a_cons (vo 0 C.f_let_by) a_nil)))))))
theorem Js(hr:.(hr "Rooms.__init__" wJ)):.(bo ["self","step"] "Rooms.__init__" wJ oI):=by
 unfold oI
 exact(af (jd (j:=0) 16 C.l_z0a.cls C.x_Rooms_step (show(fN 16).Nodup by decide +kernel) rfl (show(fN 16).length<1000 by decide) (p_var 1))
 (ag (jd (j:=1) 16 C.l_z0a.cls C.x_Rooms_doors (show(fN 16).Nodup by decide +kernel) rfl (show(fN 16).length<1000 by decide) (p_fn I.h_z8 hr.s rfl (a_cons (p_var 1) (a_cons p_int a_nil))))))
theorem Jt(hr:.(hr "Kept.__init__" wK)):.(bo ["self","marks"] "Kept.__init__" wK Cc):=by
 unfold Cc
 exact(ag (jd (j:=0) 18 C.l_z0c.cls C.x_Kept_marks (show(fN 18).Nodup by decide +kernel) rfl (show(fN 18).length<1000 by decide) (p_of_n (mq (x:="list") rfl C.z_list (a_consB (b_var 1) a_nil)))))
theorem Ju(hr:.(hr "Broken.__init__" wL)):.(bo ["self","settings","deeds"] "Broken.__init__" wL Cd):=by
 unfold Cd
 exact(af (jd (j:=0) 19 C.l_z0d.cls C.x_Broken_settings (show(fN 19).Nodup by decide +kernel) rfl (show(fN 19).length<1000 by decide) (p_of_n (mq (x:="list") rfl C.z_list (a_consB (b_var 1) a_nil))))
 (ag (jd (j:=1) 19 C.l_z0d.cls C.x_Broken_deeds (show(fN 19).Nodup by decide +kernel) rfl (show(fN 19).length<1000 by decide) (p_var 2))))
theorem Jv{qual:Str}{cd:Value}{cl:List (Str×Addr)}{f:Addr}{A:Around}{outer:List Env}{s:Shared}{H:Hp}{E:XK}(hr:br (2*n+4) (A.deeper (PySem.W.envX qual sC.scope s.heap.objs.size f cd cl))) :
  nB (E2 fS P w K mg base ["room","setting","rooms","fit","told"] qual sC.scope f cd cl A outer s H E).nox (pg cA) (Io sC) (tL (gF n)):=by
 obtain⟨_,g_DONE⟩:=C.e_DONE
 obtain⟨_,g_FOUND⟩:=C.e_FOUND
 unfold tL
 exact(af (aK (i:=4) zS.nd rfl (Or.inl rfl) (p_at (b_of (p_at (b_of (p_fld C.f_doors (p_var 2) rfl)) (b_var 0) .(C))) (b_var 1) .(C)))
 (af (bh (zw (o5 (t_eq hr (b_of (p_at (b_var 4) (b_of p_int) .(C))) (b_of (dN rfl g_DONE))) (jO (lf (t_val (p_fn I.h_z0 hr.s rfl (a_cons (p_var 1) (a_cons (p_var 3) a_nil))))))))
 (ag (ax (p_tup (a_cons (dN rfl g_FOUND) (a_cons (p_var 0) a_nil)))))
 aB)
 (ag (ax (p_var 4)))))
end
structure Fs(K:Fg)(mg:Str->Option Value)(cA:Nat->Addr)(ts:List Addr):Prop where
 F_z0:.(df "is_in" vF ["setting","mask"])
 F_z1:.(df "settings_in" vG ["mask"])
 F_z2:.(df "unbarred_by" vH ["sayings"])
 F_z3:.(df "let_by_all" vI ["sayings"])
 F_z4:.(df "later_by_all" vJ ["sayings","deed","setting"])
 F_z5:.(df "lasting_within" vK ["mask","let_by"])
 F_z6:.(df "word_to" vL ["visit"])
 F_z7:.(df "is_within" vM ["mask","larger"])
 F_z8:.(df "doors_of" vN ["step","ahead"])
 F_z9:.(df "ended" vO ["end"])
 F_za:.(df "row_doors" vP ["step","ahead"])
 F_zb:.(df "choice_doors" vQ ["step","ahead"])
 F_zc:.(df "loop_doors" vR ["step","ahead"])
 F_zd:.(df "loop_door" vS ["holds","door"])
 F_ze:.(df "gone_on" vT ["doors","later"])
 F_zf:.(df "marked" vU ["before","step","after","sayings"])
 F_zg:∃f fd c P,yh K mg "breaks_of" oE ["before","rooms","after","bonds"] f fd/\Bm K fd c P ts
 F_zh:.(df "_law_cell_at" vV ["_law_script","_law_k"])
 F_zi:.(df "_law_mixed" vW ["_law_cell","_law_k"])
 F_zj:.(df "_law_guard" vX ["_law_cell"])
 F_zk:.(df "_law_guard_test" vY ["_law_guard_here"])
 F_zl:.(df "_law_leaf" vZ ["_law_cell"])
 F_zm:.(df "_law_tree" w8 ["_law_cells"])
 F_zn:.(df "_law_made" w9 ["_law_tree_here"])
 F_zo:.(df "_law_saying" wa ["_law_cell"])
 F_zp:.(df "_law_sayings" wb ["_law_cells","_law_many"])
 F_zq:.(df "_law_drawn" wc ["_law_script"])
 F_zr:.(df "_law_bits" wd ["_law_mask"])
 F_zs:.(df "_law_nearest" we ["_law_doors","_law_bonds","_law_begin","_law_after"])
 F_zt:.(df "_law_breaks" wf ["_law_settings","_law_deeds","_law_doors","_law_bonds","_law_begin","_law_after"])
 F_zu:.(df "_law_walk" wj ["_law_script","_law_doors","_law_bonds","_law_begin"])
 F_zv:.(df "_law_changed" wm ["_law_settings","_law_deeds","_law_cell"])
 F_zw:.(df "law" oF ["_law_script"])
 F_zx:∃f fd,fE K "mask" "Test.mask" wn f fd/\bw K fd ["self"] []/\cO K ((pg cA).cA 0) "mask" f/\cO K ((pg cA).cA 1) "mask" f/\cO K ((pg cA).cA 2) "mask" f/\cO K ((pg cA).cA 3) "mask" f/\cO K ((pg cA).cA 4) "mask" f/\cO K ((pg cA).cA 5) "mask" f/\cO K ((pg cA).cA 6) "mask" f
 F_zy:∃f fd,fE K "holds" "Yes.holds" wo f fd/\bw K fd .(S) []/\cO K ((pg cA).cA 1) "holds" f
 F_zz:∃f fd,fE K "holds" "No.holds" wp f fd/\bw K fd .(S) []/\cO K ((pg cA).cA 2) "holds" f
 F_zA:∃f fd,fE K "holds" "Named.holds" wq f fd/\bw K fd .(S) []/\cO K ((pg cA).cA 3) "holds" f
 F_zB:∃f fd,fE K "holds" "Not.holds" wt f fd/\bw K fd .(S) []/\cO K ((pg cA).cA 4) "holds" f
 F_zC:∃f fd,fE K "holds" "Both.holds" wu f fd/\bw K fd .(S) []/\cO K ((pg cA).cA 5) "holds" f
 F_zD:∃f fd,fE K "holds" "Either.holds" wv f fd/\bw K fd .(S) []/\cO K ((pg cA).cA 6) "holds" f
 F_zE:∃f fd,fE K "good" "Bonds.good" ww f fd/\bw K fd ["self"] []/\cO K ((pg cA).cA 14) "good" f
 F_zF:∃f fd,fE K "ways" "Bonds.ways" wx f fd/\bw K fd .(AG) []/\cO K ((pg cA).cA 14) "ways" f
 F_zG:∃f fd,fE K "search" "Maze.search" wz f fd/\bw K fd ["self"] []/\cO K ((pg cA).cA 15) "search" f
 F_zH:∃f fd,fE K "is_word" "Maze.is_word" wA f fd/\bw K fd ["self","settings","deeds"] []/\cO K ((pg cA).cA 15) "is_word" f
 F_zI:∃f fd,fE K "stands" "Finding.stands" wB f fd/\bw K fd ["self","before","step","after","sayings"] []/\cO K ((pg cA).cA 17) "stands" f
 F_zJ:∃f fd,fE K "stands" "Broken.stands" wC f fd/\bw K fd ["self","before","step","after","sayings"] []/\cO K ((pg cA).cA 19) "stands" f
 F_zK:∃f fd,fE K "bars" "Saying.bars" wD f fd/\bw K fd .(S) []/\cO K ((pg cA).cA 20) "bars" f/\cO K ((pg cA).cA 22) "bars" f/\cO K ((pg cA).cA 23) "bars" f
 F_zL:∃f fd,fE K "later_mask" "Saying.later_mask" wE f fd/\bw K fd .(AG) []/\cO K ((pg cA).cA 20) "later_mask" f/\cO K ((pg cA).cA 21) "later_mask" f
 F_zM:∃f fd,fE K "bars" "Nowhere.bars" wF f fd/\bw K fd .(S) []/\cO K ((pg cA).cA 21) "bars" f
 F_zN:∃f fd,fE K "later_mask" "Behind.later_mask" wG f fd/\bw K fd .(AG) []/\cO K ((pg cA).cA 22) "later_mask" f
 F_zO:∃f fd,fE K "later_mask" "Through.later_mask" wH f fd/\bw K fd .(AG) []/\cO K ((pg cA).cA 23) "later_mask" f
 F_zP:∃f fd,fE K "__init__" "Bonds.__init__" wI f fd/\bw K fd ["self","sayings"] []/\Mk K ((pg cA).cA 14) f
 F_zQ:∃f fd,fE K "__init__" "Rooms.__init__" wJ f fd/\bw K fd ["self","step"] []/\Mk K ((pg cA).cA 16) f
 F_zR:∃f fd,fE K "__init__" "Kept.__init__" wK f fd/\bw K fd ["self","marks"] []/\Mk K ((pg cA).cA 18) f
 F_zS:∃f fd,fE K "__init__" "Broken.__init__" wL f fd/\bw K fd ["self","settings","deeds"] []/\Mk K ((pg cA).cA 19) f
theorem pM{P:Program}{w:World}{K:Fg}{mg:Str->Option Value}{base:Bs}{cA:Nat->Addr}{ts:List Addr}(C:Ct P w K mg base cA ts)(F:Fs K mg cA ts):∀n,Ce P w K mg base cA n
 |0=>by
  obtain⟨f_z0,fd_z0,E_z0⟩:=F.F_z0
  obtain⟨f_z1,fd_z1,E_z1⟩:=F.F_z1
  obtain⟨f_z2,fd_z2,E_z2⟩:=F.F_z2
  obtain⟨f_z3,fd_z3,E_z3⟩:=F.F_z3
  obtain⟨f_z4,fd_z4,E_z4⟩:=F.F_z4
  obtain⟨f_z5,fd_z5,E_z5⟩:=F.F_z5
  obtain⟨f_z6,fd_z6,E_z6⟩:=F.F_z6
  obtain⟨f_z7,fd_z7,E_z7⟩:=F.F_z7
  obtain⟨f_z8,fd_z8,E_z8⟩:=F.F_z8
  obtain⟨f_z9,fd_z9,E_z9⟩:=F.F_z9
  obtain⟨f_za,fd_za,E_za⟩:=F.F_za
  obtain⟨f_zb,fd_zb,E_zb⟩:=F.F_zb
  obtain⟨f_zc,fd_zc,E_zc⟩:=F.F_zc
  obtain⟨f_zd,fd_zd,E_zd⟩:=F.F_zd
  obtain⟨f_ze,fd_ze,E_ze⟩:=F.F_ze
  obtain⟨f_zf,fd_zf,E_zf⟩:=F.F_zf
  obtain⟨f_zg,fd_zg,c_zg,p_zg,E_zg,T_zg⟩:=F.F_zg
  obtain⟨f_zh,fd_zh,E_zh⟩:=F.F_zh
  obtain⟨f_zi,fd_zi,E_zi⟩:=F.F_zi
  obtain⟨f_zj,fd_zj,E_zj⟩:=F.F_zj
  obtain⟨f_zk,fd_zk,E_zk⟩:=F.F_zk
  obtain⟨f_zl,fd_zl,E_zl⟩:=F.F_zl
  obtain⟨f_zm,fd_zm,E_zm⟩:=F.F_zm
  obtain⟨f_zn,fd_zn,E_zn⟩:=F.F_zn
  obtain⟨f_zo,fd_zo,E_zo⟩:=F.F_zo
  obtain⟨f_zp,fd_zp,E_zp⟩:=F.F_zp
  obtain⟨f_zq,fd_zq,E_zq⟩:=F.F_zq
  obtain⟨f_zr,fd_zr,E_zr⟩:=F.F_zr
  obtain⟨f_zs,fd_zs,E_zs⟩:=F.F_zs
  obtain⟨f_zt,fd_zt,E_zt⟩:=F.F_zt
  obtain⟨f_zu,fd_zu,E_zu⟩:=F.F_zu
  obtain⟨f_zv,fd_zv,E_zv⟩:=F.F_zv
  obtain⟨f_zw,fd_zw,E_zw⟩:=F.F_zw
  obtain⟨f_zx,fd_zx,F_zx,B_zx,M_zx_0,M_zx_1,M_zx_2,M_zx_3,M_zx_4,M_zx_5,M_zx_6⟩:=F.F_zx
  obtain⟨f_zy,fd_zy,F_zy,B_zy,M_zy_1⟩:=F.F_zy
  obtain⟨f_zz,fd_zz,F_zz,B_zz,M_zz_2⟩:=F.F_zz
  obtain⟨f_zA,fd_zA,F_zA,B_zA,M_zA_3⟩:=F.F_zA
  obtain⟨f_zB,fd_zB,F_zB,B_zB,M_zB_4⟩:=F.F_zB
  obtain⟨f_zC,fd_zC,F_zC,B_zC,M_zC_5⟩:=F.F_zC
  obtain⟨f_zD,fd_zD,F_zD,B_zD,M_zD_6⟩:=F.F_zD
  obtain⟨f_zE,fd_zE,F_zE,B_zE,M_zE_14⟩:=F.F_zE
  obtain⟨f_zF,fd_zF,F_zF,B_zF,M_zF_14⟩:=F.F_zF
  obtain⟨f_zG,fd_zG,F_zG,B_zG,M_zG_15⟩:=F.F_zG
  obtain⟨f_zH,fd_zH,F_zH,B_zH,M_zH_15⟩:=F.F_zH
  obtain⟨f_zI,fd_zI,F_zI,B_zI,M_zI_17⟩:=F.F_zI
  obtain⟨f_zJ,fd_zJ,F_zJ,B_zJ,M_zJ_19⟩:=F.F_zJ
  obtain⟨f_zK,fd_zK,F_zK,B_zK,M_zK_20,M_zK_22,M_zK_23⟩:=F.F_zK
  obtain⟨f_zL,fd_zL,F_zL,B_zL,M_zL_20,M_zL_21⟩:=F.F_zL
  obtain⟨f_zM,fd_zM,F_zM,B_zM,M_zM_21⟩:=F.F_zM
  obtain⟨f_zN,fd_zN,F_zN,B_zN,M_zN_22⟩:=F.F_zN
  obtain⟨f_zO,fd_zO,F_zO,B_zO,M_zO_23⟩:=F.F_zO
  obtain⟨f_zP,fd_zP,F_zP,B_zP,M_zP⟩:=F.F_zP
  obtain⟨f_zQ,fd_zQ,F_zQ,B_zQ,M_zQ⟩:=F.F_zQ
  obtain⟨f_zR,fd_zR,F_zR,B_zR,M_zR⟩:=F.F_zR
  obtain⟨f_zS,fd_zS,F_zS,B_zS,M_zS⟩:=F.F_zS
  exact {
   cl:=(qE (vq fun _=>rfl) vt)
   h_z0:=E_z0.at (ak fun _=>rfl)
   h_z1:=E_z1.at (ak fun _=>rfl)
   h_z2:=E_z2.at (ak fun _=>rfl)
   h_z3:=E_z3.at (ak fun _=>rfl)
   h_z4:=E_z4.at (ak fun _=>rfl)
   h_z5:=E_z5.at (ak fun _=>rfl)
   h_z6:=E_z6.at (ak fun _=>rfl)
   h_z7:=E_z7.at (ak fun _=>rfl)
   h_z8:=E_z8.at (ak fun _=>rfl)
   h_z9:=E_z9.at (ak fun _=>rfl)
   h_za:=E_za.at (ak fun _=>rfl)
   h_zb:=E_zb.at (ak fun _=>rfl)
   h_zc:=E_zc.at (ak fun _=>rfl)
   h_zd:=E_zd.at (ak fun _=>rfl)
   h_ze:=E_ze.at (ak fun _=>rfl)
   h_zf:=E_zf.at (ak fun _=>rfl)
   h_zg:=E_zg.at (ak fun _=>rfl)
   h__law_cell_at:=E_zh.at (ak fun _=>rfl)
   h__law_mixed:=E_zi.at (ak fun _=>rfl)
   h__law_guard:=E_zj.at (ak fun _=>rfl)
   h__law_guard_test:=E_zk.at (ak fun _=>rfl)
   h__law_leaf:=E_zl.at (ak fun _=>rfl)
   h__law_tree:=E_zm.at (ak fun _=>rfl)
   h__law_made:=E_zn.at (ak fun _=>rfl)
   h__law_saying:=E_zo.at (ak fun _=>rfl)
   h__law_sayings:=E_zp.at (ak fun _=>rfl)
   h__law_drawn:=E_zq.at (ak fun _=>rfl)
   h__law_bits:=E_zr.at (ak fun _=>rfl)
   h__law_nearest:=E_zs.at (ak fun _=>rfl)
   h__law_breaks:=E_zt.at (ak fun _=>rfl)
   h__law_walk:=E_zu.at (ak fun _=>rfl)
   h__law_changed:=E_zv.at (ak fun _=>rfl)
   h_zw:=E_zw.at (ak fun _=>rfl)
   n_z08:=⟨C.c_z08,C.l_z08.cls,_,_,_,M_zP,(gu fun _=>rfl),B_zP⟩
   n_z0d:=⟨C.c_z0d,C.l_z0d.cls,_,_,_,M_zS,(gu fun _=>rfl),B_zS⟩
   n_z0c:=⟨C.c_z0c,C.l_z0c.cls,_,_,_,M_zR,(gu fun _=>rfl),B_zR⟩
   n_z0a:=⟨C.c_z0a,C.l_z0a.cls,_,_,_,M_zQ,(gu fun _=>rfl),B_zQ⟩
   m_bars:=(aw (.(mc C.l_z0e M_zK_20 .(AE) B_zK)) (.(nf "bars" 20)) (aw (.(mc C.l_z0f M_zM_21 .(AE) B_zM)) (.(nf "bars" 21)) (aw (.(mc C.l_z0g M_zK_22 .(AE) B_zK)) (.(nf "bars" 22)) (aw (.(mc C.l_z0h M_zK_23 .(AE) B_zK)) (.(nf "bars" 23)) bZ))))
   m_good:=(aw (.(mc C.l_z08 M_zE_14 .(AE) B_zE)) (.(nf "good" 14)) bZ)
   m_holds:=(aw (.(mc C.l_zV M_zy_1 .(AE) B_zy)) (.(nf "holds" 1)) (aw (.(mc C.l_zW M_zz_2 .(AE) B_zz)) (.(nf "holds" 2)) (aw (.(mc C.l_zX M_zA_3 .(AE) B_zA)) (.(nf "holds" 3)) (aw (.(mc C.l_zY M_zB_4 .(AE) B_zB)) (.(nf "holds" 4)) (aw (.(mc C.l_zZ M_zC_5 .(AE) B_zC)) (.(nf "holds" 5)) (aw (.(mc C.l_z00 M_zD_6 .(AE) B_zD)) (.(nf "holds" 6)) bZ))))))
   m_is_word:=(aw (.(mc C.l_z09 M_zH_15 .(AE) B_zH)) (.(nf "is_word" 15)) bZ)
   m_later_mask:=(aw (.(mc C.l_z0e M_zL_20 .(AE) B_zL)) (.(nf "later_mask" 20)) (aw (.(mc C.l_z0f M_zL_21 .(AE) B_zL)) (.(nf "later_mask" 21)) (aw (.(mc C.l_z0g M_zN_22 .(AE) B_zN)) (.(nf "later_mask" 22)) (aw (.(mc C.l_z0h M_zO_23 .(AE) B_zO)) (.(nf "later_mask" 23)) bZ))))
   m_mask:=(aw (.(mc C.l_zU M_zx_0 .(AE) B_zx)) (.(nf "mask" 0)) (aw (.(mc C.l_zV M_zx_1 .(AE) B_zx)) (.(nf "mask" 1)) (aw (.(mc C.l_zW M_zx_2 .(AE) B_zx)) (.(nf "mask" 2)) (aw (.(mc C.l_zX M_zx_3 .(AE) B_zx)) (.(nf "mask" 3)) (aw (.(mc C.l_zY M_zx_4 .(AE) B_zx)) (.(nf "mask" 4)) (aw (.(mc C.l_zZ M_zx_5 .(AE) B_zx)) (.(nf "mask" 5)) (aw (.(mc C.l_z00 M_zx_6 .(AE) B_zx)) (.(nf "mask" 6)) bZ)))))))
   m_search:=(aw (.(mc C.l_z09 M_zG_15 .(AE) B_zG)) (.(nf "search" 15)) bZ)
   m_stands:=(aw (.(mc C.l_z0b M_zI_17 .(AE) B_zI)) (.(nf "stands" 17)) (aw (.(mc C.l_z0d M_zJ_19 .(AE) B_zJ)) (.(nf "stands" 19)) bZ))
   m_ways:=(aw (.(mc C.l_z08 M_zF_14 .(AE) B_zF)) (.(nf "ways" 14)) bZ)
  }
 |n+1=>by
  show Ce P w K mg base cA (n+1)
  have I:=pM C F n
  obtain⟨f_z0,fd_z0,E_z0⟩:=F.F_z0
  obtain⟨f_z1,fd_z1,E_z1⟩:=F.F_z1
  obtain⟨f_z2,fd_z2,E_z2⟩:=F.F_z2
  obtain⟨f_z3,fd_z3,E_z3⟩:=F.F_z3
  obtain⟨f_z4,fd_z4,E_z4⟩:=F.F_z4
  obtain⟨f_z5,fd_z5,E_z5⟩:=F.F_z5
  obtain⟨f_z6,fd_z6,E_z6⟩:=F.F_z6
  obtain⟨f_z7,fd_z7,E_z7⟩:=F.F_z7
  obtain⟨f_z8,fd_z8,E_z8⟩:=F.F_z8
  obtain⟨f_z9,fd_z9,E_z9⟩:=F.F_z9
  obtain⟨f_za,fd_za,E_za⟩:=F.F_za
  obtain⟨f_zb,fd_zb,E_zb⟩:=F.F_zb
  obtain⟨f_zc,fd_zc,E_zc⟩:=F.F_zc
  obtain⟨f_zd,fd_zd,E_zd⟩:=F.F_zd
  obtain⟨f_ze,fd_ze,E_ze⟩:=F.F_ze
  obtain⟨f_zf,fd_zf,E_zf⟩:=F.F_zf
  obtain⟨f_zg,fd_zg,c_zg,p_zg,E_zg,T_zg⟩:=F.F_zg
  obtain⟨f_zh,fd_zh,E_zh⟩:=F.F_zh
  obtain⟨f_zi,fd_zi,E_zi⟩:=F.F_zi
  obtain⟨f_zj,fd_zj,E_zj⟩:=F.F_zj
  obtain⟨f_zk,fd_zk,E_zk⟩:=F.F_zk
  obtain⟨f_zl,fd_zl,E_zl⟩:=F.F_zl
  obtain⟨f_zm,fd_zm,E_zm⟩:=F.F_zm
  obtain⟨f_zn,fd_zn,E_zn⟩:=F.F_zn
  obtain⟨f_zo,fd_zo,E_zo⟩:=F.F_zo
  obtain⟨f_zp,fd_zp,E_zp⟩:=F.F_zp
  obtain⟨f_zq,fd_zq,E_zq⟩:=F.F_zq
  obtain⟨f_zr,fd_zr,E_zr⟩:=F.F_zr
  obtain⟨f_zs,fd_zs,E_zs⟩:=F.F_zs
  obtain⟨f_zt,fd_zt,E_zt⟩:=F.F_zt
  obtain⟨f_zu,fd_zu,E_zu⟩:=F.F_zu
  obtain⟨f_zv,fd_zv,E_zv⟩:=F.F_zv
  obtain⟨f_zw,fd_zw,E_zw⟩:=F.F_zw
  obtain⟨f_zx,fd_zx,F_zx,B_zx,M_zx_0,M_zx_1,M_zx_2,M_zx_3,M_zx_4,M_zx_5,M_zx_6⟩:=F.F_zx
  obtain⟨f_zy,fd_zy,F_zy,B_zy,M_zy_1⟩:=F.F_zy
  obtain⟨f_zz,fd_zz,F_zz,B_zz,M_zz_2⟩:=F.F_zz
  obtain⟨f_zA,fd_zA,F_zA,B_zA,M_zA_3⟩:=F.F_zA
  obtain⟨f_zB,fd_zB,F_zB,B_zB,M_zB_4⟩:=F.F_zB
  obtain⟨f_zC,fd_zC,F_zC,B_zC,M_zC_5⟩:=F.F_zC
  obtain⟨f_zD,fd_zD,F_zD,B_zD,M_zD_6⟩:=F.F_zD
  obtain⟨f_zE,fd_zE,F_zE,B_zE,M_zE_14⟩:=F.F_zE
  obtain⟨f_zF,fd_zF,F_zF,B_zF,M_zF_14⟩:=F.F_zF
  obtain⟨f_zG,fd_zG,F_zG,B_zG,M_zG_15⟩:=F.F_zG
  obtain⟨f_zH,fd_zH,F_zH,B_zH,M_zH_15⟩:=F.F_zH
  obtain⟨f_zI,fd_zI,F_zI,B_zI,M_zI_17⟩:=F.F_zI
  obtain⟨f_zJ,fd_zJ,F_zJ,B_zJ,M_zJ_19⟩:=F.F_zJ
  obtain⟨f_zK,fd_zK,F_zK,B_zK,M_zK_20,M_zK_22,M_zK_23⟩:=F.F_zK
  obtain⟨f_zL,fd_zL,F_zL,B_zL,M_zL_20,M_zL_21⟩:=F.F_zL
  obtain⟨f_zM,fd_zM,F_zM,B_zM,M_zM_21⟩:=F.F_zM
  obtain⟨f_zN,fd_zN,F_zN,B_zN,M_zN_22⟩:=F.F_zN
  obtain⟨f_zO,fd_zO,F_zO,B_zO,M_zO_23⟩:=F.F_zO
  obtain⟨f_zP,fd_zP,F_zP,B_zP,M_zP⟩:=F.F_zP
  obtain⟨f_zQ,fd_zQ,F_zQ,B_zQ,M_zQ⟩:=F.F_zQ
  obtain⟨f_zR,fd_zR,F_zR,B_zR,M_zR⟩:=F.F_zR
  obtain⟨f_zS,fd_zS,F_zS,B_zS,M_zS⟩:=F.F_zS
  exact {
   cl:=(qE (Bj (n:=sC) rfl zS rfl (fun _ _ _ _ _ _ _ us hl=>match us,hl with|[_,_],_=>rfl) fun _ _ _ _ _ _ _ _ _ hr=>Jv C I hr) vt)
   h_z0:=.(ha E_z0 Fj IG)
   h_z1:=.(ha E_z1 Fk IH)
   h_z2:=.(ha E_z2 qL II)
   h_z3:=.(ha E_z3 wO IJ)
   h_z4:=.(ha E_z4 qM IK)
   h_z5:=.(ha E_z5 oG IL)
   h_z6:=.(ha E_z6 qN IM)
   h_z7:=.(ha E_z7 Fl IN)
   h_z8:=.(ha E_z8 Fm IO)
   h_z9:=.(ha E_z9 Fn IP)
   h_za:=.(ha E_za wP IQ)
   h_zb:=.(ha E_zb qO IR)
   h_zc:=.(ha E_zc wQ IS)
   h_zd:=.(ha E_zd Fo IT)
   h_ze:=.(ha E_ze Fp IU)
   h_zf:=.(ha E_zf wR IV)
   h_zg:=E_zg.at ((Bn E_zg.F (by rw[C.tb];exact T_zg) wS rfl fun _ _ _ _ _ hr mk=>IW C I hr mk))
   h__law_cell_at:=.(ha E_zh Fq IX)
   h__law_mixed:=.(ha E_zi qP IY)
   h__law_guard:=.(ha E_zj Ft IZ)
   h__law_guard_test:=.(ha E_zk wU J0)
   h__law_leaf:=.(ha E_zl Fu J1)
   h__law_tree:=.(ha E_zm ki J2)
   h__law_made:=.(ha E_zn Fv J3)
   h__law_saying:=.(ha E_zo qQ J4)
   h__law_sayings:=.(ha E_zp Fw J5)
   h__law_drawn:=.(ha E_zq iB J6)
   h__law_bits:=.(ha E_zr Fx J7)
   h__law_nearest:=.(ha E_zs f8 J8)
   h__law_breaks:=.(ha E_zt lF J9)
   h__law_walk:=.(ha E_zu gi Ja)
   h__law_changed:=.(ha E_zv qR Jb)
   h_zw:=.(ha E_zw cH FP)
   n_z08:=⟨C.c_z08,C.l_z08.cls,_,_,_,M_zP,(mL F_zP FK rfl (by decide) rfl fun _ _ _ _ _ _ hr=>Jr C I hr),B_zP⟩
   n_z0d:=⟨C.c_z0d,C.l_z0d.cls,_,_,_,M_zS,(mL F_zS FN rfl (by decide) rfl fun _ _ _ _ _ _ hr=>Ju C I hr),B_zS⟩
   n_z0c:=⟨C.c_z0c,C.l_z0c.cls,_,_,_,M_zR,(mL F_zR FM rfl (by decide) rfl fun _ _ _ _ _ _ hr=>Jt C I hr),B_zR⟩
   n_z0a:=⟨C.c_z0a,C.l_z0a.cls,_,_,_,M_zQ,(mL F_zQ FL rfl (by decide) rfl fun _ _ _ _ _ _ hr=>Js C I hr),B_zQ⟩
   m_bars:=(aw (.(mc C.l_z0e M_zK_20 (.(fk F_zK wW Cf)) B_zK)) (.(nf "bars" 20)) (aw (.(mc C.l_z0f M_zM_21 (.(fk F_zM FI Jo)) B_zM)) (.(nf "bars" 21)) (aw (.(mc C.l_z0g M_zK_22 (.(fk F_zK wW Cf)) B_zK)) (.(nf "bars" 22)) (aw (.(mc C.l_z0h M_zK_23 (.(fk F_zK wW Cf)) B_zK)) (.(nf "bars" 23)) bZ))))
   m_good:=(aw (.(mc C.l_z08 M_zE_14 (.(fk F_zE FE Ji)) B_zE)) (.(nf "good" 14)) bZ)
   m_holds:=(aw (.(mc C.l_zV M_zy_1 (.(fk F_zy Fy Jc)) B_zy)) (.(nf "holds" 1)) (aw (.(mc C.l_zW M_zz_2 (.(fk F_zz Fz Jd)) B_zz)) (.(nf "holds" 2)) (aw (.(mc C.l_zX M_zA_3 (.(fk F_zA FA Je)) B_zA)) (.(nf "holds" 3)) (aw (.(mc C.l_zY M_zB_4 (.(fk F_zB FB Jf)) B_zB)) (.(nf "holds" 4)) (aw (.(mc C.l_zZ M_zC_5 (.(fk F_zC FC Jg)) B_zC)) (.(nf "holds" 5)) (aw (.(mc C.l_z00 M_zD_6 (.(fk F_zD FD Jh)) B_zD)) (.(nf "holds" 6)) bZ))))))
   m_is_word:=(aw (.(mc C.l_z09 M_zH_15 (.(fk F_zH lG Jl)) B_zH)) (.(nf "is_word" 15)) bZ)
   m_later_mask:=(aw (.(mc C.l_z0e M_zL_20 (.(fk F_zL zQ FQ)) B_zL)) (.(nf "later_mask" 20)) (aw (.(mc C.l_z0f M_zL_21 (.(fk F_zL zQ FQ)) B_zL)) (.(nf "later_mask" 21)) (aw (.(mc C.l_z0g M_zN_22 (.(fk F_zN FJ Jp)) B_zN)) (.(nf "later_mask" 22)) (aw (.(mc C.l_z0h M_zO_23 (.(fk F_zO zR Jq)) B_zO)) (.(nf "later_mask" 23)) bZ))))
   m_mask:=(aw (.(mc C.l_zU M_zx_0 (.(fk F_zx gM pL)) B_zx)) (.(nf "mask" 0)) (aw (.(mc C.l_zV M_zx_1 (.(fk F_zx gM pL)) B_zx)) (.(nf "mask" 1)) (aw (.(mc C.l_zW M_zx_2 (.(fk F_zx gM pL)) B_zx)) (.(nf "mask" 2)) (aw (.(mc C.l_zX M_zx_3 (.(fk F_zx gM pL)) B_zx)) (.(nf "mask" 3)) (aw (.(mc C.l_zY M_zx_4 (.(fk F_zx gM pL)) B_zx)) (.(nf "mask" 4)) (aw (.(mc C.l_zZ M_zx_5 (.(fk F_zx gM pL)) B_zx)) (.(nf "mask" 5)) (aw (.(mc C.l_z00 M_zx_6 (.(fk F_zx gM pL)) B_zx)) (.(nf "mask" 6)) bZ)))))))
   m_search:=(aw (.(mc C.l_z09 M_zG_15 (.(fk F_zG jf Jk)) B_zG)) (.(nf "search" 15)) bZ)
   m_stands:=(aw (.(mc C.l_z0b M_zI_17 (.(fk F_zI FG Jm)) B_zI)) (.(nf "stands" 17)) (aw (.(mc C.l_z0d M_zJ_19 (.(fk F_zJ FH Jn)) B_zJ)) (.(nf "stands" 19)) bZ))
   m_ways:=(aw (.(mc C.l_z08 M_zF_14 (.(fk F_zF FF Jj)) B_zF)) (.(nf "ways" 14)) bZ)
  }
end M63
end
noncomputable section
namespace M63
open PySem L2 DN
inductive Tr where
 |yes|no|named (c:Str)|neg (t:Tr)|both (l r:Tr)|either (l r:Tr)
def Tr.pv:Tr->PV
 |.yes=> .obj 1 [] | .no=> .obj 2 [] | .named c=> .obj 3 [.str c] | .neg t=> .obj 4 [t.pv] | .both l r=> .obj 5 [l.pv,r.pv] | .either l r=> .obj 6 [l.pv,r.pv]
def Tr.depth:Tr->Nat
 |.yes=>0 | .no=>0 | .named _=>0 | .neg t=>t.depth+1 | .both l r=>max l.depth r.depth+1 | .either l r=>max l.depth r.depth+1
def Tr.size:Tr->Nat
 |.yes=>1 | .no=>1 | .named _=>1 | .neg t=>t.size+1 | .both l r=>l.size+r.size+1 | .either l r=>l.size+r.size+1
def mZ(c:Str):Prop:=c="a"\/c="b"\/c="c"\/c="d"
def Tr.ok:Tr->Prop
 |.yes=>True | .no=>True | .named c=>mZ c | .neg t=>t.ok | .both l r=>l.ok/\r.ok | .either l r=>l.ok/\r.ok
def ixL(c:Str):Nat:=if c="a" then 0 else if c="b" then 1 else if c="c" then 2 else 3
def Tr.at:Tr->Int->Bool
 |.yes,_=>true
 |.no,_=>false
 |.named c,s=>Builtin.bitAnd (s / 2 ^ ((ixL c:Nat):Int).toNat) 1 == 1
 |.neg t,s=> !t.at s
 |.both l r,s=>l.at s && r.at s
 |.either l r,s=>l.at s || r.at s
theorem bR:∀(t:Tr) (n:Nat) (s:Int),t.ok->t.depth<n->bp aL (gF n) t.pv [.int s]= .ok (.bl (t.at s))
 |.yes,n+1,s,_,_=>rfl
 |.no,n+1,s,_,_=>rfl
 |.named c,n+1,s,h,_=>by
  rcases h with rfl|rfl|rfl|rfl <;> rfl
 |.neg t,n+1,s,h,hd=>by
  have ih:=bR t n s h (Nat.lt_of_succ_lt_succ hd)
  have e:bp aL (gF (n+1)) (Tr.neg t).pv [.int s]=fin ((((bp aL (gF n) t.pv [.int s]).bind fun x=>match x with | .bl k=>Rx.ok (PV.bl (!k))|_=> .bad)).st fun w=> .ret w):=rfl
  rw[e,ih];rfl
 |.both l r,n+1,s,h,hd=>by
  have hd':max l.depth r.depth+1<n+1:=hd
  have i1:=bR l n s h.1 (by omega)
  have i2:=bR r n s h.2 (by omega)
  have e:bp aL (gF (n+1)) (Tr.both l r).pv [.int s]=fin ((((bp aL (gF n) l.pv [.int s]).bind fun x=>match x with | .bl true=>bp aL (gF n) r.pv [.int s] | .bl false=> .ok (.bl false)|_=> .bad)).st fun w=> .ret w):=rfl
  rw[e,i1,i2]
  show _=Rx.ok (PV.bl (l.at s && r.at s))
  cases l.at s <;> rfl
 |.either l r,n+1,s,h,hd=>by
  have hd':max l.depth r.depth+1<n+1:=hd
  have i1:=bR l n s h.1 (by omega)
  have i2:=bR r n s h.2 (by omega)
  have e:bp aL (gF (n+1)) (Tr.either l r).pv [.int s]=fin ((((bp aL (gF n) l.pv [.int s]).bind fun x=>match x with | .bl true=> .ok (.bl true) | .bl false=>bp aL (gF n) r.pv [.int s]|_=> .bad)).st fun w=> .ret w):=rfl
  rw[e,i1,i2]
  show _=Rx.ok (PV.bl (l.at s || r.at s))
  cases l.at s <;> rfl
def Tr.f(t:Tr)(i:Nat):Bool:=t.at (i:Int)
def Tr.mk(t:Tr):Nat:=maskN t.f 16
theorem lH(f:Nat->Bool):∀n,(List.range n).foldl (fun(b:Int) (i:Nat)=>if f i=true then b+1*2 ^ i else b) 0=(maskN f n:Nat)
 |0=>rfl
 |n+1=>by
  rw[List.range_succ,List.foldl_append,lH f n]
  show(if f n=true then _ else _)=(((2 ^ n*(f n).toNat+maskN f n:Nat)):Int)
  cases h:f n
  ·simp
  ·simp[Int.add_comm]
theorem jz(t:Tr)(n:Nat)(h:t.ok)(hd:t.depth<n):bp hE (gF (n+1)) t.pv []= .ok (.int (t.mk:Nat)):=by
 have e:bp hE (gF (n+1)) t.pv []=aH [false] 3 (wV (gF n)) [t.pv]:=by cases t <;> rfl
 rw[e,aC rfl]
 have ei:ol [false] 3 [t.pv]=[.v t.pv,.no,.no]:=rfl
 rw[ei]
 unfold wV
 have er:bA (dCons (dC (.int 16)) dNil) [.v t.pv,.v (.int 0),.no]= .ok (ip 0 16):=rfl
 have fo:=ln (g:=ar 2) (body:=cG (aS (aM aL (gF n) (ae 0) (dCons (ae 2) dNil))) (jq 1 (fun i j=>i+j) (d2 jo (dC (.int 1)) (dSee 2))) aJ)
  .(Al) (fun b=>[.v t.pv,.v (.int b.1),b.2]) (ip 0 16) (0,.no) (fun b w hw=>by
   obtain⟨i,hi,rfl⟩:∃i:Nat,i<16/\w= .int (0+(i:Int)):=by
    unfold ip at hw
    obtain⟨i,hi,e⟩:=List.mem_map.mp hw
    exact⟨i,List.mem_range.mp hi,e.symm⟩
   refine⟨_,rfl,.inl ?_⟩
   rw[cq,v6,mE]
   show(((Rx.ok t.pv).bind fun x=>vd aL (gF n) x (.ok [.int (0+(i:Int))])).bind _).st _=_
   rw[ao,ve,bR t n _ h hd,ao,bn]
   dsimp only
   by_cases hb:t.at (0+(i:Int))=true
   ·rw[if_pos hb,if_pos hb]
    have e2:d2 jo (dC (.int 1)) (dSee 2) ([.v t.pv,.v (.int b.1),.v (.int (0+(i:Int)))]:aT)= .ok (.int (1*2 ^ (0+(i:Int)).toNat)):=by
     show(if 0<=(0+(i:Int))/\(0+(i:Int))<=1000000/\(1:Int).natAbs<2 ^ 64 then Rx.ok (PV.int (1*2 ^ (0+(i:Int)).toNat)) else .bad)=_
     rw[if_pos ⟨by omega,by omega,by decide⟩]
    show((d2 jo (dC (.int 1)) (dSee 2) [.v t.pv,.v (.int b.1),.v (.int (0+(i:Int)))]).st _)=_
    rw[e2];rfl
   ·rw[if_neg hb,if_neg hb];rfl)
 have hf:(ip 0 16).foldl .(Al) (0,.no)=(((t.mk:Nat):Int),Sl.v (.int 15)):=by
  have gen:∀n,((ip 0 n).foldl .(Al) (0,.no)).1=(maskN t.f n:Nat):=by
   intro n
   rw[<-lH]
   unfold ip
   induction n with
   |zero=>rfl
   |succ n ih =>
    rw[List.range_succ,List.map_append,List.foldl_append,List.foldl_append]
    show(if t.at (0+(n:Int))=true then _ else _)=(if t.f n=true then _ else _)
    rw[ih]
    have:(0+(n:Int))=(n:Int):=by omega
    rw[this]
    rfl
  have g16:=gen 16
  have sn:((ip 0 16).foldl .(Al) (0,.no)).2= .v (.int 15):=rfl
  exact Prod.ext g16 sn
 rw[hf]at fo
 show fin ((match (forD (ar 2) (cG (aS (aM aL (gF n) (ae 0) (dCons (ae 2) dNil))) (jq 1 (fun i j=>i+j) (d2 jo (dC (.int 1)) (dSee 2))) aJ) (ip 0 16) [.v t.pv,.v (.int 0),.no])with | .nx ps'=>aG (ae 1) ps'|r=>r))=_
 rw[fo];rfl
theorem qS(m k:Nat):(Builtin.bitAnd ((m:Int) / 2 ^ k) 1 == 1)=m.testBit k:=by
 have e:((m:Int) / 2 ^ k)=((m / 2 ^ k:Nat):Int):=by
  rw[Int.natCast_ediv];simp
 rw[e,show(1:Int)=((1:Nat):Int) from rfl,dM,Nat.testBit_eq_decide_div_mod_eq,Nat.and_one_is_mod]
 generalize m / 2 ^ k % 2=r
 by_cases h:r=1
 ·simp[h]
 ·have:¬((r:Int)=1):=by omega
  simp[h,this]
theorem Cg(a:Tr):(((Tr.neg a).mk:Nat):Int)=65535-(a.mk:Nat):=by
 have:=iS a.f 16
 have e:(Tr.neg a).mk=maskN (fun i=> !a.f i) 16:=rfl
 rw[e]
 have e2:a.mk=maskN a.f 16:=rfl
 rw[e2]
 have:(2:Nat) ^ 16=65536:=rfl
 omega
inductive St where
 |skip|stop|deed (c:Str)|row (h t:St)|choice (g:Tr) (y n:St)|loop (g:Tr) (b:St)
def St.pv:St->PV
 |.skip=> .obj 8 [] | .stop=> .obj 9 [] | .deed c=> .obj 10 [.str c] | .row h t=> .obj 11 [h.pv,t.pv] | .choice g y n=> .obj 12 [g.pv,y.pv,n.pv] | .loop g b=> .obj 13 [g.pv,b.pv]
def St.depth:St->Nat
 |.skip=>0 | .stop=>0 | .deed _=>0 | .row h t=>max h.depth t.depth+1 | .choice g y n=>max g.depth (max y.depth n.depth)+1 | .loop g b=>max g.depth b.depth+1
def St.size:St->Nat
 |.skip=>1 | .stop=>1 | .deed _=>1 | .row h t=>h.size+t.size+1 | .choice g y n=>g.size+y.size+n.size+1 | .loop g b=>g.size+b.size+1
def bL(c:Str):Prop:=c="P"\/c="Q"\/c="R"\/c="S"\/c="T"
def St.ok:St->Prop
 |.skip=>True | .stop=>True | .deed c=>bL c | .row h t=>h.ok/\t.ok | .choice g y n=>g.ok/\y.ok/\n.ok | .loop g b=>g.ok/\b.ok
def St.first:St->Int->Str×Option St
 |.skip,_=>("done",none)
 |.stop,_=>("stopped",none)
 |.deed c,_=>(c,some .skip)
 |.row h t,s=>if (h.first s).1="done" then t.first s else((h.first s).1,(h.first s).2.map fun l=> .row l t)
 |.choice g y n,s=>if g.at s=true then y.first s else n.first s
 |.loop g b,s=>if g.at s=true then(if (b.first s).1="done" then("hung",none) else((b.first s).1,(b.first s).2.map fun l=> .row l (.loop g b))) else("done",none)
def yV(r:Str×Option St):Prop:=((r.1="done"\/r.1="stopped"\/r.1="hung")/\r.2=none)\/(bL r.1/\ ∃l,r.2=some l)
theorem cZ:∀(t:St) (s:Int),t.ok->yV (t.first s)
 |.skip,s,_=> .inl ⟨.inl rfl,rfl⟩
 |.stop,s,_=> .inl ⟨.inr (.inl rfl),rfl⟩
 |.deed c,s,h=> .inr ⟨h,_,rfl⟩
 |.row h t,s,ho=>by
  have i1:=cZ h s ho.1
  have i2:=cZ t s ho.2
  unfold St.first
  split
  ·exact i2
  ·rename_i hd
   rcases i1 with⟨e,n⟩|⟨e,l,n⟩
   ·exact .inl ⟨e,by rw[n];rfl⟩
   ·exact .inr ⟨e,_,by rw[n];rfl⟩
 |.choice g y n,s,ho=>by
  unfold St.first
  split
  ·exact cZ y s ho.2.1
  ·exact cZ n s ho.2.2
 |.loop g b,s,ho=>by
  have i1:=cZ b s ho.2
  unfold St.first
  split
  ·split
   ·exact .inl ⟨.inr (.inr rfl),rfl⟩
   ·rcases i1 with⟨e,n⟩|⟨e,l,n⟩
    ·exact .inl ⟨e,by rw[n];rfl⟩
    ·exact .inr ⟨e,_,by rw[n];rfl⟩
  ·exact .inl ⟨.inl rfl,rfl⟩
def St.ders:St->List St
 |.skip=>[] | .stop=>[] | .deed _=>[.skip]
 |.row h t=>h.ders.map (fun l=> .row l t)++t.ders
 |.choice _ y n=>y.ders++n.ders
 |.loop g b=>b.ders.map fun l=> .row l (.loop g b)
theorem f9:∀(t l:St),t.ok->l∈t.ders->l.ok
 |.skip,l,_,h=>by cases h
 |.stop,l,_,h=>by cases h
 |.deed c,l,_,h=>by rw[List.mem_singleton.mp h];exact True.intro
 |.row a t,l,ho,h=>by
  rcases List.mem_append.mp h with q|q
  ·obtain⟨k,hk,rfl⟩:=List.mem_map.mp q
   exact⟨f9 a k ho.1 hk,ho.2⟩
  ·exact f9 t l ho.2 q
 |.choice g y n,l,ho,h=>by
  rcases List.mem_append.mp h with q|q
  ·exact f9 y l ho.2.1 q
  ·exact f9 n l ho.2.2 q
 |.loop g b,l,ho,h=>by
  obtain⟨k,hk,rfl⟩:=List.mem_map.mp h
  exact⟨f9 b k ho.2 hk,ho⟩
def wZ:List Str:=["P","Q","R","S","T"]
theorem Jw{e:Str}:e∈wZ ↔ bL e:=by simp[wZ,bL]
def Sub(a b:Nat):Prop:=∀s,s<16->a.testBit s=true->b.testBit s=true
def oJ(L:Str->Nat->Nat)(m s:Nat):Bool:=wZ.all fun e=> !(L e s &&& m == 0)
def stp(L:Str->Nat->Nat)(m:Nat):Nat:=maskN (fun s=>m.testBit s && oJ L m s) 16
def lastF(L:Str->Nat->Nat):Nat->Nat->Nat
 |0,m=>m
 |k+1,m=>if stp L m=m then m else lastF L k (stp L m)
theorem pN{m s:Nat}(h:m<65536)(hs:16<=s):m.testBit s=false:=Nat.testBit_lt_two_pow (Nat.lt_of_lt_of_le h (show 2 ^ 16<=2 ^ s from Nat.pow_le_pow_right (by decide) hs))
theorem yW{a b:Nat}(ha:a<65536)(hb:b<65536)(h1:Sub a b)(h2:Sub b a):a=b:=by
 apply Nat.eq_of_testBit_eq
 intro s
 by_cases hs:s<16
 ·cases e:a.testBit s
  ·cases e':b.testBit s
   ·rfl
   ·rw[h2 s hs e']at e;cases e
  ·rw[h1 s hs e]
 ·rw[pN ha (by omega),pN hb (by omega)]
theorem yX(L:Str->Nat->Nat)(m s:Nat)(hs:s<16):(stp L m).testBit s=(m.testBit s && oJ L m s):=by
 unfold stp
 rw[cX]
 simp[hs]
theorem km(L:Str->Nat->Nat)(m:Nat):stp L m<65536:=eT _ 16
theorem yY(L:Str->Nat->Nat)(m:Nat):Sub (stp L m) m:=fun s hs h=>by
 rw[yX L m s hs,Bool.and_eq_true]at h;exact h.1
theorem Ch{a b:Nat}(ha:a<65536)(h:Sub a b):a<=b:=by
 have:a &&& b=a:=by
  apply Nat.eq_of_testBit_eq
  intro s
  rw[Nat.testBit_and]
  by_cases hs:s<16
  ·cases e:a.testBit s
   ·rfl
   ·rw[h s hs e];rfl
  ·rw[pN ha (by omega)];rfl
 rw[<-this]
 exact Nat.and_le_right
theorem qT(L:Str->Nat->Nat):∀(k m:Nat),m<65536->lastF L k m<65536
 |0,m,h=>h
 |k+1,m,h=>by
  unfold lastF
  split
  ·exact h
  ·exact qT L k _ (km L m)
def gdF(L:Str->Nat->Nat)(u:Nat):Nat:=lastF L 65536 u
theorem zU(L:Str->Nat->Nat){u:Nat}(h:u<65536):gdF L u<65536:=qT L 65536 u h
def bits(m:Nat):List Nat:=(List.range 16).filter fun i=>m.testBit i
theorem bq{m s:Nat}:s∈bits m ↔ s<16/\m.testBit s=true:=by simp[bits]
theorem ff(m:Nat):(bits m).length<=16:=by
 have:=List.length_filter_le (fun i=>m.testBit i) (List.range 16)
 rw[List.length_range]at this
 exact this
theorem Ku(t:Tr){s:Nat}(hs:s<16):t.mk.testBit s=t.f s:=by
 unfold Tr.mk
 rw[cX];simp[hs]
theorem n0{d:DP}{ps:aT}{k:Nat}(h:d ps= .ok .(AA))(hk:k<=100000):bA (dCons d dNil) ps= .ok ((List.range k).map fun(i:Nat)=>PV.int (i:Int)):=by
 have e:dCons d dNil ps= .ok [.int (k:Int)]:=by
  show(d ps).bind _=_
  rw[h];rfl
 unfold bA
 rw[e,ao]
 have h: -(2 ^ 62)<=(k:Int)/\(k:Int)<2 ^ 62:=by omega
 simp only[h,and_self,if_true,Int.toNat_natCast]
 unfold ip
 congr 1
 apply List.map_congr_left
 intro i _
 rw[Int.zero_add]
abbrev Nd:=Nat×Nat
structure Mz where
 what:Nat->Nat->Str
 there:Nat->Nat->Nat
 brk:Nat->Nat->Bool
 wy:Str->Nat->Nat
 N:Nat
def isEnd(w:Str):Prop:=w="done"\/w="stopped"\/w="hung"
instance (w:Str):Decidable (isEnd w):=by unfold isEnd;infer_instance
structure Mz.ok(M:Mz):Prop where
 kind:∀r s,r<M.N->s<16->(isEnd (M.what r s)\/(bL (M.what r s)/\M.there r s<M.N))
 brk:∀r s,M.brk r s=true->M.what r s="done"
 wy:∀d s,M.wy d s<65536
def Mz.nx(M:Mz)(v:Nd):List Nd:=if isEnd (M.what v.1 v.2) then[] else(bits (M.wy (M.what v.1 v.2) v.2)).map fun s=>(M.there v.1 v.2,s)
def Mz.Pth(M:Mz)(B:List Nd):Nat->Nd->Prop
 |0,v=>v∈B
 |k+1,v=>∃u,M.Pth B k u/\v∈M.nx u
def Mz.In(M:Mz)(v:Nd):Prop:=v.1<M.N/\v.2<16
theorem x4{M:Mz}(h:M.ok){u v:Nd}(hu:M.In u)(hv:v∈M.nx u):M.In v:=by
 unfold Mz.nx at hv
 split at hv
 ·cases hv
 ·rename_i he
  obtain⟨s,hs,rfl⟩:=List.mem_map.mp hv
  refine⟨?_,(bq.mp hs).1⟩
  rcases h.kind _ _ hu.1 hu.2 with q|q
  ·exact absurd q he
  ·exact q.2
theorem x5{M:Mz}(h:M.ok){B:List Nd}(hB:∀b∈B,M.In b):∀k v,M.Pth B k v->M.In v
 |0,v,hv=>hB v hv
 |k+1,v,⟨u,hu,hv⟩=>x4 h (x5 h hB k u hu) hv
theorem x6{α :Type}[DecidableEq α]:∀(l m:List α),l.Nodup->(∀x∈l,x∈m)->l.length<=m.length
 |[],_,_,_=>Nat.zero_le _
 |x::xs,m,h,hm=>by
  have hx:=List.nodup_cons.mp h
  have:=x6 xs (m.erase x) hx.2 fun y hy=>(List.mem_erase_of_ne (fun e:y=x=>hx.1 (by rw[<-e];exact hy))).mpr (hm y (List.mem_cons_of_mem _ hy))
  rw[List.length_erase_of_mem (hm x List.mem_cons_self)]at this
  have hp:=List.length_pos_of_mem (hm x List.mem_cons_self)
  simp only[List.length_cons];omega
def Ci(n:Nat):List Nd:=(List.range (16*n)).map fun i=>(i / 16,i % 16)
theorem Cj{M:Mz}{v:Nd}(h:M.In v):v∈Ci M.N:=by
 obtain⟨r,s⟩:=v
 have h1:r<M.N:=h.1
 have h2:s<16:=h.2
 refine List.mem_map.mpr ⟨16*r+s,List.mem_range.mpr (by omega),?_⟩
 have e1:(16*r+s) / 16=r:=by omega
 have e2:(16*r+s) % 16=s:=by omega
 simp[e1,e2]
theorem dI{M:Mz}{l:List Nd}(h:l.Nodup)(hi:∀v∈l,M.In v):l.length<=16*M.N:=by
 have:=x6 l (Ci M.N) h fun v hv=>Cj (hi v hv)
 simpa[Ci]using this
inductive Vs where
 |root (r s:Nat)|more (p:Vs) (r s:Nat) (d:Str)
def Vs.nd:Vs->Nd
 |.root r s=>(r,s) | .more _ r s _=>(r,s)
def Vs.dep:Vs->Nat
 |.root _ _=>0 | .more p _ _ _=>p.dep+1
def Vs.good(M:Mz)(B:List Nd):Vs->Prop
 |.root r s=>(r,s)∈B
 |.more p r s d=>p.good M B/\bL d/\(r,s)∈M.nx p.nd
theorem kn{M:Mz}{B:List Nd}:∀v:Vs,v.good M B->M.Pth B v.dep v.nd
 |.root _ _,h=>h
 |.more p _ _ _,h=>⟨p.nd,kn p h.1,h.2.2⟩
structure QI(M:Mz)(B:List Nd)(rc:Nat->Nat)(vs:List Vs)(i:Nat):Prop where
 le:i<=vs.length
 q1:∀v∈vs,v.good M B
 q2:∀b∈B,∃v∈vs,v.nd=b/\v.dep=0
 q3:∀j v,j<i->vs[j]? =some v->M.brk v.nd.1 v.nd.2=false/\ ∀w∈M.nx v.nd,∃u∈vs,u.nd=w/\u.dep<=v.dep+1
 q4:vs.Pairwise fun a b=>a.dep<=b.dep
 q4b:∀v,vs[i]? =some v->∀u∈vs,u.dep<=v.dep+1
 q5:∀r s,s<16->((rc r).testBit s=true ↔ ∃u∈vs,u.nd=(r,s))
 nd:(vs.map Vs.nd).Nodup
 rl:∀r,rc r<65536
theorem QI.In{M:Mz}(h:M.ok){B:List Nd}(hB:∀b∈B,M.In b){rc vs i}(q:QI M B rc vs i):∀v∈vs,M.In v.nd:=fun v hv=>x5 h hB _ _ (kn v (q.q1 v hv))
theorem QI.len{M:Mz}(h:M.ok){B:List Nd}(hB:∀b∈B,M.In b){rc vs i}(q:QI M B rc vs i):vs.length<=16*M.N:=by
 have:=dI q.nd fun v hv=>by
  obtain⟨u,hu,rfl⟩:=List.mem_map.mp hv
  exact q.In h hB u hu
 simpa using this
theorem x7{l:List Vs}(h:l.Pairwise fun a b=>a.dep<=b.dep){i j:Nat}{a b:Vs}(ha:l[i]? =some a)(hb:l[j]? =some b)(hij:i<=j):a.dep<=b.dep:=by
 rcases Nat.lt_or_ge i j with q|q
 ·obtain⟨h1,rfl⟩:=List.getElem?_eq_some_iff.mp ha
  obtain⟨h2,rfl⟩:=List.getElem?_eq_some_iff.mp hb
  exact List.pairwise_iff_getElem.mp h i j h1 h2 q
 ·have:i=j:=by omega
  subst this
  rw[ha]at hb
  cases hb
  exact Nat.le_refl _
theorem QI.seen{M:Mz}{B:List Nd}{rc vs i}(q:QI M B rc vs i):∀k u,M.Pth B k u->(∀v,vs[i]? =some v->k<v.dep)->∃j w,j<i/\vs[j]? =some w/\w.nd=u/\w.dep<=k
 |0,u,hu,hk=>by
  obtain⟨w,hw,e1,e2⟩:=q.q2 u hu
  obtain⟨j,hj⟩:=List.getElem?_of_mem hw
  refine⟨j,w,?_,hj,e1,by omega⟩
  rcases Nat.lt_or_ge j i with p|p
  ·exact p
  ·have hl:i<vs.length:=by
    obtain⟨z,_⟩:=List.getElem?_eq_some_iff.mp hj;omega
   have:=x7 q.q4 (List.getElem?_eq_getElem hl) hj p
   have:=hk _ (List.getElem?_eq_getElem hl)
   omega
 |k+1,u,⟨u',hu',hn⟩,hk=>by
  obtain⟨j',w',hj',hw',rfl,hd'⟩:=QI.seen q k u' hu' fun v hv=>by have:=hk v hv;omega
  obtain⟨w,hw,e1,e2⟩:=(q.q3 j' w' hj' hw').2 u hn
  obtain⟨j,hj⟩:=List.getElem?_of_mem hw
  refine⟨j,w,?_,hj,e1,by omega⟩
  rcases Nat.lt_or_ge j i with p|p
  ·exact p
  ·have hl:i<vs.length:=by
    obtain⟨z,_⟩:=List.getElem?_eq_some_iff.mp hj;omega
   have:=x7 q.q4 (List.getElem?_eq_getElem hl) hj p
   have:=hk _ (List.getElem?_eq_getElem hl)
   omega
def Mz.Free(M:Mz)(B:List Nd)(k:Nat):Prop:=∀j u,j<k->M.Pth B j u->M.brk u.1 u.2=false
theorem QI.found{M:Mz}{B:List Nd}{rc vs i}(q:QI M B rc vs i){v:Vs}(hv:vs[i]? =some v):M.Free B v.dep:=fun k u hk hu=>by
 obtain⟨j,w,hj,hw,rfl,_⟩:=q.seen k u hu fun v' hv'=>by rw[hv]at hv';cases hv';exact hk
 exact(q.q3 j w hj hw).1
theorem QI.none{M:Mz}{B:List Nd}{rc vs}(q:QI M B rc vs vs.length)(k:Nat):M.Free B k:=fun j u _ hu=>by
 obtain⟨i,w,hi,hw,rfl,_⟩:=q.seen j u hu fun v' hv'=>by simp at hv'
 exact(q.q3 i w hi hw).1
theorem QI.step{M:Mz}{B:List Nd}{rc vs i}(q:QI M B rc vs i){v:Vs}(hv:vs[i]? =some v)(hb:M.brk v.nd.1 v.nd.2=false)
  {ns:List Vs} (n1:∀u∈ns,u.good M B/\u.dep=v.dep+1/\ ∀w∈vs,w.nd≠u.nd) (n2:(ns.map Vs.nd).Nodup)
  (n3:∀w∈M.nx v.nd,(∃u∈vs,u.nd=w)\/ ∃u∈ns,u.nd=w) {rc':Nat->Nat} (n4:∀r s,s<16->((rc' r).testBit s=true ↔ (rc r).testBit s=true\/ ∃u∈ns,u.nd=(r,s))) (n5:∀r,rc' r<65536):QI M B rc' (vs++ns) (i+1):=by
 have hi:i<vs.length:=(List.getElem?_eq_some_iff.mp hv).1
 refine⟨?_,?_,?_,?_,?_,?_,?_,?_,n5⟩
 ·rw[List.length_append];omega
 ·intro u hu
  rcases List.mem_append.mp hu with p|p
  ·exact q.q1 u p
  ·exact(n1 u p).1
 ·intro b hb
  obtain⟨u,hu,e⟩:=q.q2 b hb
  exact⟨u,List.mem_append_left _ hu,e⟩
 ·intro j u hj hu
  have hjl:j<vs.length:=by omega
  rw[List.getElem?_append_left hjl]at hu
  rcases Nat.lt_or_ge j i with p|p
  ·obtain⟨h1,h2⟩:=q.q3 j u p hu
   exact⟨h1,fun w hw=>by obtain⟨x,hx,e⟩:=h2 w hw;exact⟨x,List.mem_append_left _ hx,e⟩⟩
  ·have:j=i:=by omega
   subst this
   rw[hv]at hu
   cases hu
   refine⟨hb,fun w hw=> ?_⟩
   rcases n3 w hw with⟨x,hx,e⟩|⟨x,hx,e⟩
   ·exact⟨x,List.mem_append_left _ hx,e,q.q4b v hv x hx⟩
   ·exact⟨x,List.mem_append_right _ hx,e,by rw[(n1 x hx).2.1];exact Nat.le_refl _⟩
 ·rw[List.pairwise_append]
  refine⟨q.q4,?_,fun a ha b hb=>by rw[(n1 b hb).2.1];exact q.q4b v hv a ha⟩
  rw[List.pairwise_iff_forall_sublist]
  intro a b hab
  have ha:=(n1 a (hab.subset (by simp))).2.1
  have hb:=(n1 b (hab.subset (by simp))).2.1
  omega
 ·intro w hw u hu
  have hd:v.dep<=w.dep:=by
   rcases Nat.lt_or_ge (i+1) vs.length with p|p
   ·rw[List.getElem?_append_left p]at hw
    exact x7 q.q4 hv hw (by omega)
   ·rw[List.getElem?_append_right p]at hw
    have:=(n1 w (List.mem_of_getElem? hw)).2.1
    omega
  rcases List.mem_append.mp hu with p|p
  ·have:=q.q4b v hv u p;omega
  ·have:=(n1 u p).2.1;omega
 ·intro r s hs
  rw[n4 r s hs,q.q5 r s hs]
  constructor
  ·rintro(⟨u,hu,e⟩|⟨u,hu,e⟩)
   ·exact⟨u,List.mem_append_left _ hu,e⟩
   ·exact⟨u,List.mem_append_right _ hu,e⟩
  ·rintro⟨u,hu,e⟩
   rcases List.mem_append.mp hu with p|p
   ·exact .inl ⟨u,p,e⟩
   ·exact .inr ⟨u,p,e⟩
 ·rw[List.map_append,List.nodup_append]
  refine⟨q.nd,n2,?_⟩
  intro a ha b hb e
  obtain⟨x,hx,rfl⟩:=List.mem_map.mp ha
  obtain⟨y,hy,rfl⟩:=List.mem_map.mp hb
  exact(n1 y hy).2.2 x hx e
def frs(M:Mz)(rc:Nat->Nat)(v:Nd):Nat:=maskN (fun s=>(M.wy (M.what v.1 v.2) v.2).testBit s && !(rc (M.there v.1 v.2)).testBit s) 16
def upd(rc:Nat->Nat)(r m:Nat):Nat->Nat:=fun x=>if x=r then m else rc x
theorem yZ{a b:Nat}(ha:a<65536)(hb:b<65536):a ||| b<65536:=Nat.or_lt_two_pow (n:=16) ha hb
theorem QI.next{M:Mz}(h:M.ok){B:List Nd}(hB:∀b∈B,M.In b){rc vs i}(q:QI M B rc vs i){v:Vs}(hv:vs[i]? =some v)(hb:M.brk v.nd.1 v.nd.2=false)(he:¬isEnd (M.what v.nd.1 v.nd.2)) :
  QI M B (upd rc (M.there v.nd.1 v.nd.2) (rc (M.there v.nd.1 v.nd.2) ||| frs M rc v.nd)) (vs++(bits (frs M rc v.nd)).map fun s=> .more v (M.there v.nd.1 v.nd.2) s (M.what v.nd.1 v.nd.2)) (i+1):=by
 have hm:v∈vs:=List.mem_of_getElem? hv
 have hD:bL (M.what v.nd.1 v.nd.2):=by
  rcases h.kind _ _ (q.In h hB v hm).1 (q.In h hB v hm).2 with p|p
  ·exact absurd p he
  ·exact p.1
 have hf:∀s,s<16->(frs M rc v.nd).testBit s=((M.wy (M.what v.nd.1 v.nd.2) v.nd.2).testBit s && !(rc (M.there v.nd.1 v.nd.2)).testBit s):=fun s hs=>by
  unfold frs
  rw[cX]
  simp[hs]
 refine q.step hv hb ?_ ?_ ?_ ?_ ?_
 ·intro u hu
  obtain⟨s,hs,rfl⟩:=List.mem_map.mp hu
  obtain⟨h1,h2⟩:=bq.mp hs
  rw[hf s h1,Bool.and_eq_true,Bool.not_eq_true']at h2
  refine⟨⟨q.q1 v hm,hD,?_⟩,rfl,?_⟩
  ·unfold Mz.nx
   rw[if_neg he]
   exact List.mem_map.mpr ⟨s,bq.mpr ⟨h1,h2.1⟩,rfl⟩
  ·intro w hw e
   have:=(q.q5 (M.there v.nd.1 v.nd.2) s h1).mpr ⟨w,hw,e⟩
   rw[h2.2]at this
   cases this
 ·rw[List.map_map]
  have:(Vs.nd ∘ fun s=>Vs.more v (M.there v.nd.1 v.nd.2) s (M.what v.nd.1 v.nd.2))=fun s=>(M.there v.nd.1 v.nd.2,s):=rfl
  rw[this]
  have hn:(bits (frs M rc v.nd)).Nodup:=List.Nodup.sublist List.filter_sublist List.nodup_range
  exact List.Pairwise.map _ (fun a b hab e=>hab (Prod.mk.inj e).2) hn
 ·intro w hw
  unfold Mz.nx at hw
  rw[if_neg he]at hw
  obtain⟨s,hs,rfl⟩:=List.mem_map.mp hw
  obtain⟨h1,h2⟩:=bq.mp hs
  cases e:(rc (M.there v.nd.1 v.nd.2)).testBit s
  ·exact .inr ⟨_,List.mem_map.mpr ⟨s,bq.mpr ⟨h1,by rw[hf s h1,h2,e];rfl⟩,rfl⟩,rfl⟩
  ·exact .inl ((q.q5 _ s h1).mp e)
 ·intro r s hs
  unfold upd
  by_cases hr:r=M.there v.nd.1 v.nd.2
  ·subst hr
   rw[if_pos rfl,Nat.testBit_or,Bool.or_eq_true]
   constructor
   ·rintro(p|p)
    ·exact .inl p
    ·exact .inr ⟨_,List.mem_map.mpr ⟨s,bq.mpr ⟨hs,p⟩,rfl⟩,rfl⟩
   ·rintro(p|⟨u,hu,e⟩)
    ·exact .inl p
    ·obtain⟨s',hs',rfl⟩:=List.mem_map.mp hu
     have:s'=s:=(Prod.mk.inj e).2
     subst this
     exact .inr (bq.mp hs').2
  ·rw[if_neg hr]
   constructor
   ·exact .inl
   ·rintro(p|⟨u,hu,e⟩)
    ·exact p
    ·obtain⟨s',hs',rfl⟩:=List.mem_map.mp hu
     exact absurd (Prod.mk.inj e).1.symm hr
 ·intro r
  unfold upd
  split
  ·exact yZ (q.rl _) (eT _ 16)
  ·exact q.rl r
theorem QI.still{M:Mz}{B:List Nd}{rc vs i}(q:QI M B rc vs i){v:Vs}(hv:vs[i]? =some v)(hb:M.brk v.nd.1 v.nd.2=false)(he:isEnd (M.what v.nd.1 v.nd.2)):QI M B rc vs (i+1):=by
 have:=q.step hv hb (ns:=[]) (rc':=rc) (fun u hu=>by cases hu) List.nodup_nil (fun w hw=>by unfold Mz.nx at hw;rw[if_pos he]at hw;cases hw) (fun r s hs=>by simp) q.rl
 simpa using this
theorem QI.start{M:Mz}(st:Nat)(hst:st<65536):QI M ((bits st).map fun s=>(0,s)) (upd (fun _=>0) 0 st) ((bits st).map fun s=> .root 0 s) 0:=by
 refine⟨Nat.zero_le _,?_,?_,fun j v hj=>absurd hj (Nat.not_lt_zero j),?_,?_,?_,?_,?_⟩
 ·intro v hv
  obtain⟨s,hs,rfl⟩:=List.mem_map.mp hv
  exact List.mem_map.mpr ⟨s,hs,rfl⟩
 ·intro b hb
  obtain⟨s,hs,rfl⟩:=List.mem_map.mp hb
  exact⟨_,List.mem_map.mpr ⟨s,hs,rfl⟩,rfl,rfl⟩
 ·rw[List.pairwise_iff_forall_sublist]
  intro a b hab
  obtain⟨s,_,rfl⟩:=List.mem_map.mp (hab.subset (show a∈[a,b]by simp))
  exact Nat.zero_le _
 ·intro v _ u hu
  obtain⟨s,_,rfl⟩:=List.mem_map.mp hu
  exact Nat.zero_le _
 ·intro r s hs
  unfold upd
  constructor
  ·intro p
   split at p
   ·rename_i e
    subst e
    exact⟨_,List.mem_map.mpr ⟨s,bq.mpr ⟨hs,p⟩,rfl⟩,rfl⟩
   ·simp at p
  ·rintro⟨u,hu,e⟩
   obtain⟨s',hs',rfl⟩:=List.mem_map.mp hu
   have e1:0=r:=(Prod.mk.inj e).1
   have e2:s'=s:=(Prod.mk.inj e).2
   subst e1;subst e2
   simpa using(bq.mp hs').2
 ·rw[List.map_map]
  have:(Vs.nd ∘ fun s=>Vs.root 0 s)=fun s=>((0:Nat),s):=rfl
  rw[this]
  have hn:(bits st).Nodup:=List.Nodup.sublist List.filter_sublist List.nodup_range
  exact List.Pairwise.map _ (fun a b hab e=>hab (Prod.mk.inj e).2) hn
 ·intro r
  unfold upd
  split
  ·exact hst
  ·exact Nat.zero_lt_succ _
structure LI(M:Mz)(B P S:List Nd)(j:Nat):Prop where
 a:∀v∈S,M.Pth B j v
 b:∀v∈B,v∈P++S
 c:∀v∈P,M.brk v.1 v.2=false/\ ∀w∈M.nx v,w∈P++S
 d:∀i u,i<j->M.Pth B i u->u∈P
 nd:(P++S).Nodup
 rg:∀v∈P++S,M.In v
theorem LI.free{M:Mz}{B P S:List Nd}{j:Nat}(l:LI M B P S j):M.Free B j:=fun i u hi hu=>(l.c u (l.d i u hi hu)).1
theorem LI.all{M:Mz}{B P S:List Nd}{j:Nat}(l:LI M B P S j):∀u,M.Pth B j u->u∈P++S:=fun u hu=>by
 cases j with
 |zero=>exact l.b u hu
 |succ i =>
  obtain⟨u',hu',hn⟩:=hu
  exact(l.c u' (l.d i u' (Nat.lt_succ_self i) hu')).2 u hn
theorem LI.next{M:Mz}{B P S C:List Nd}{j:Nat}(l:LI M B P S j)(hb:∀v∈S,M.brk v.1 v.2=false)(hc:∀v∈C,∃u∈S,v∈M.nx u)(hn:∀u∈S,∀w∈M.nx u,w∈P++S++C)(hd:(P++S++C).Nodup)(hr:∀v∈C,M.In v):LI M B (P++S) C (j+1):=by
 refine⟨?_,?_,?_,?_,hd,?_⟩
 ·intro v hv
  obtain⟨u,hu,e⟩:=hc v hv
  exact⟨u,l.a u hu,e⟩
 ·exact fun v hv=>List.mem_append_left _ (l.b v hv)
 ·intro v hv
  rcases List.mem_append.mp hv with p|p
  ·exact⟨(l.c v p).1,fun w hw=>List.mem_append_left _ ((l.c v p).2 w hw)⟩
  ·exact⟨hb v p,hn v p⟩
 ·intro i u hi hu
  rcases Nat.lt_or_ge i j with p|p
  ·exact List.mem_append_left _ (l.d i u p hu)
  ·have:i=j:=by omega
   subst this
   exact l.all u hu
 ·intro v hv
  rcases List.mem_append.mp hv with p|p
  ·exact l.rg v p
  ·exact hr v p
theorem LI.end{M:Mz}{B P:List Nd}{j:Nat}(l:LI M B P [] j):∀k,M.Free B k:=by
 have:∀k u,M.Pth B k u->u∈P:=by
  intro k
  induction k with
  |zero=>intro u hu;simpa using l.b u hu
  |succ k ih =>
   rintro u ⟨u',hu',hn⟩
   simpa using(l.c u' (ih u' hu')).2 u hn
 exact fun k i u _ hu=>(l.c u (this i u hu)).1
def Mz.Near(M:Mz)(B:List Nd):Option Nat->Prop
 |some k=>M.Free B k/\ ∃v,M.Pth B k v/\M.brk v.1 v.2=true
 |none=>∀k,M.Free B k
theorem n6{M:Mz}{B:List Nd}:∀{a b:Option Nat},M.Near B a->M.Near B b->a=b
 |none,none,_,_=>rfl
 |none,some k,h,⟨_,v,h1,h2⟩=>by rw[h (k+1) k v (Nat.lt_succ_self k) h1]at h2;cases h2
 |some k,none,⟨_,v,h1,h2⟩,h=>by rw[h (k+1) k v (Nat.lt_succ_self k) h1]at h2;cases h2
 |some k,some j,⟨f1,v,h1,h2⟩,⟨f2,w,h3,h4⟩=>by
  rcases Nat.lt_trichotomy k j with q|q|q
  ·rw[f2 k v q h1]at h2;cases h2
  ·rw[q]
  ·rw[f1 j w q h3]at h4;cases h4
def Mz.wrd(M:Mz):Nat->Nat->List Int->List Str->Bool
 |r,s,[],[]=>M.brk r s
 |r,s,t::ts,d::ds=>(M.what r s == d) && ((decide (0<=t/\t<16) && (M.wy d s).testBit t.toNat) && M.wrd (M.there r s) t.toNat ts ds)
 |_,_,_,_=>false
theorem qU{M:Mz}(h:M.ok){B:List Nd}:∀(ts:List Int) (ds:List Str) (k r s:Nat),M.In (r,s)->M.Pth B k (r,s)->(∀d∈ds,¬isEnd d)->M.wrd r s ts ds=true->∃j v,M.Pth B j v/\M.brk v.1 v.2=true
 |[],[],k,r,s,_,hp,_,hw=>⟨k,(r,s),hp,hw⟩
 |t::ts,d::ds,k,r,s,hi,hp,hd,hw=>by
  unfold Mz.wrd at hw
  rw[Bool.and_eq_true,Bool.and_eq_true,Bool.and_eq_true,decide_eq_true_eq,beq_iff_eq]at hw
  obtain⟨h1,⟨h2,h3⟩,h4⟩:=hw
  have hn:(M.there r s,t.toNat)∈M.nx (r,s):=by
   unfold Mz.nx
   simp only
   rw[if_neg (by rw[h1];exact hd d List.mem_cons_self)]
   exact List.mem_map.mpr ⟨t.toNat,bq.mpr ⟨by omega,by rw[h1];exact h3⟩,rfl⟩
  exact qU h ts ds (k+1) _ _ (x4 h hi hn) ⟨_,hp,hn⟩ (fun e he=>hd e (List.mem_cons_of_mem _ he)) h4
 |[],_::_,_,_,_,_,_,_,hw=>by simp[Mz.wrd]at hw
 |_::_,[],_,_,_,_,_,_,hw=>by simp[Mz.wrd]at hw
end M63
end
noncomputable section
namespace M63
open PySem L2 DN
inductive Sy where
 |nowhere (t:Tr)|behind (b:Tr) (d:Str) (a:Tr)|through (t:Tr) (d:Str)
def Sy.pv:Sy->PV
 |.nowhere t=> .obj 21 [t.pv] | .behind b d a=> .obj 22 [b.pv,.str d,a.pv] | .through t d=> .obj 23 [t.pv,.str d]
def Sy.ok(D:Nat):Sy->Prop
 |.nowhere t=>t.ok/\t.depth<D | .behind b d a=>(b.ok/\b.depth<D)/\bL d/\(a.ok/\a.depth<D) | .through t d=>(t.ok/\t.depth<D)/\bL d
def Sy.bars:Sy->Nat->Bool
 |.nowhere t,s=>t.f s
 |_,_=>false
def Sy.lm:Sy->Str->Nat->Nat
 |.nowhere _,_,_=>65535
 |.behind b d a,e,s=>if e=d/\b.f s=true then a.mk else 65535
 |.through t d,e,s=>if e=d then(if t.f s=true then t.mk else(Tr.neg t).mk) else 65535
def letm(ys:List Sy)(e:Str)(s:Nat):Nat:=ys.foldl (fun m y=>m &&& y.lm e s) 65535
def unb(ys:List Sy):Nat:=maskN (fun s=> !(ys.any fun y=>y.bars s)) 16
def gdS(ys:List Sy):Nat:=gdF (letm ys) (unb ys)
theorem pO(ys:List Sy):unb ys<65536:=eT _ 16
theorem gj(n m s:Nat):gF (n+1) 0 [.int (s:Int),.int (m:Int)]= .ok (.bl (m.testBit s)):=by
 rw[g_z0,aC rfl]
 show fin (sE (gF n) [.v .(An),.v .(Ar)])=_
 have h0:(0:Int)<=(s:Int):=by omega
 have hb:=qS m s
 unfold sE
 simp[h0,hb]
theorem dX(n m:Nat):gF (n+2) 1 [.int (m:Int)]= .ok (.lst ((bits m).map fun(i:Nat)=>PV.int (i:Int))):=by
 rw[g_z1,aC rfl]
 show fin (sF (gF (n+1)) [.v .(Ar)])=_
 have hc:dComp ["setting"] [("mask",0)] .(Aa) (ar 0) (aS (dCall (gF (n+1) 0) (dCons (ae 0) .(O)))) (ae 0) [.v .(Ar)]= .ok ((bits m).map fun(i:Nat)=>PV.int (i:Int)):=by
  have e:bA (dCons (dC (.int 16)) dNil) ([.v .(Ar)]:aT)= .ok ((List.range 16).map fun(i:Nat)=>PV.int (i:Int)):=rfl
  unfold dComp
  rw[e,ao,if_pos (by rw[List.length_map,List.length_range];decide)]
  refine g9 (ps0:=[.v .(Ar)]) (fun(i:Nat)=>PV.int (i:Int)) (fun i=>m.testBit i) (fun(i:Nat)=>PV.int (i:Int)) (List.range 16) .no fun i hi=>⟨?_,fun _=>rfl⟩
  have e1:=gj n m i
  simp[e1]
 unfold sF
 simp only[iw,dA,hc,ao,bn,gt]
theorem z5(D:Nat)(y:Sy)(h:y.ok D)(n s:Nat)(hn:D<=n):bp iY (gF (n+1)) y.pv [.int (s:Int)]= .ok (.bl (y.bars s)):=by
 cases y with
 |nowhere t =>
  have e0:bp iY (gF (n+1)) (Sy.nowhere t).pv [.int (s:Int)]=aH [false,false] 2 (tI (gF n)) [.obj 21 [t.pv],.int (s:Int)]:=rfl
  rw[e0,aC rfl]
  show fin (tI (gF n) [.v (.obj 21 [t.pv]),.v .(An)])=_
  have hh:=bR t n (s:Int) h.1 (by have:=h.2;omega)
  have f1:aW cC (.obj 21 [t.pv])= .ok t.pv:=rfl
  unfold tI
  simp[f1,hh,Sy.bars,Tr.f]
 |behind b d a=>rfl
 |through t d=>rfl
theorem x8(D:Nat)(y:Sy)(h:y.ok D)(n:Nat)(e:Str)(s:Nat)(hs:s<16)(hn:D<=n):bp bU (gF (n+2)) y.pv [.str e,.int (s:Int)]= .ok (.int (y.lm e s:Nat)):=by
 cases y with
 |nowhere t=>rfl
 |behind b d a =>
  have e0:bp bU (gF (n+2)) (Sy.behind b d a).pv [.str e,.int (s:Int)]=aH [false,false,false] 3 (tJ (gF (n+1))) [.obj 22 [b.pv,.str d,a.pv],.str e,.int (s:Int)]:=rfl
  rw[e0,aC rfl]
  show fin (tJ (gF (n+1)) [.v (.obj 22 [b.pv,.str d,a.pv]),.v (.str e),.v .(An)])=_
  obtain⟨⟨o1,d1⟩,_,o2,d2⟩:=h
  have hh:=bR b (n+1) (s:Int) o1 (by omega)
  have hm:=jz a n o2 (by omega)
  have f1:aW gZ (.obj 22 [b.pv,.str d,a.pv])= .ok (.str d):=rfl
  have f2:aW iz (.obj 22 [b.pv,.str d,a.pv])= .ok b.pv:=rfl
  have f3:aW jy (.obj 22 [b.pv,.str d,a.pv])= .ok a.pv:=rfl
  unfold tJ Sy.lm
  by_cases he:e=d
  ·subst he
   have hh:bp aL (gF (n+1)) b.pv [.int (s:Int)]= .ok (.bl (b.f s)):=hh
   cases hb:b.f s
   ·rw[hb]at hh
    simp[f1,f2,f3,hh,hm,hb]
   ·rw[hb]at hh
    simp[f1,f2,f3,hh,hm,hb]
  ·have be:(e == d)=false:=by simpa using he
   simp[f1,be,he]
 |through t d =>
  have e0:bp bU (gF (n+2)) (Sy.through t d).pv [.str e,.int (s:Int)]=aH [false,false,false] 4 (tK (gF (n+1))) [.obj 23 [t.pv,.str d],.str e,.int (s:Int)]:=rfl
  rw[e0,aC rfl]
  show fin (tK (gF (n+1)) [.v (.obj 23 [t.pv,.str d]),.v (.str e),.v .(An),.no])=_
  obtain⟨⟨o1,d1⟩,_⟩:=h
  have hm:=jz t n o1 (by omega)
  have hi:=gj n t.mk s
  have hb:t.mk.testBit s=t.f s:=by
   unfold Tr.mk
   rw[cX];simp[hs]
  rw[hb]at hi
  have f1:aW gZ (.obj 23 [t.pv,.str d])= .ok (.str d):=rfl
  have f2:aW cC (.obj 23 [t.pv,.str d])= .ok t.pv:=rfl
  have hn:=Cg t
  unfold tK Sy.lm
  by_cases he:e=d
  ·subst he
   cases hf:t.f s
   ·rw[hf]at hi
    simp[f1,f2,hm,hi,hn,hf]
   ·rw[hf]at hi
    simp[f1,f2,hm,hi,hf]
  ·have be:(e == d)=false:=by simpa using he
   simp[f1,be,he]
theorem ng(D:Nat)(ys:List Sy)(h:∀y∈ys,y.ok D)(n:Nat)(e:Str)(s:Nat)(hs:s<16)(hn:D<=n):gF (n+3) 4 [.lst .(H),.str e,.int (s:Int)]= .ok (.int (letm ys e s:Nat)):=by
 rw[g_z4,aC rfl]
 show fin (sI (gF (n+2)) [.v .(B),.v (.str e),.v .(An),.no,.no])=_
 have lp:∀(zs:List Sy) (m:Nat) (s4:Sl),(∀y∈zs,y.ok D)->fin ((forD (ar 4) (kg (gF (n+2))) (zs.map Sy.pv) [.v .(B),.v (.str e),.v .(An),.v .(Ar),s4]).next (aG (ae 3)))= .ok (.int ((zs.foldl (fun m y=>m &&& y.lm e s) m:Nat):Int)):=by
  intro zs
  induction zs with
  |nil=>intro m s4 _;rfl
  |cons y zs ih =>
   intro m s4 hz
   have hl:=x8 D y (hz y List.mem_cons_self) n e s hs hn
   have eg:ar 4 y.pv [.v .(B),.v (.str e),.v .(An),.v .(Ar),s4]= .ok [.v .(B),.v (.str e),.v .(An),.v .(Ar),.v y.pv]:=rfl
   have body:kg (gF (n+2)) [.v .(B),.v (.str e),.v .(An),.v .(Ar),.v y.pv]= .nx [.v .(B),.v (.str e),.v .(An),.v (.int ((m &&& y.lm e s:Nat):Int)),.v y.pv]:=by
    unfold kg jq
    have ea:aM bU (gF (n+2)) (ae 4) (dCons (ae 1) (dCons (ae 2) dNil)) [.v .(B),.v (.str e),.v .(An),.v .(Ar),.v y.pv]= .ok (.int (y.lm e s:Nat)):=hl
    have:=dM m (y.lm e s)
    show((aM bU (gF (n+2)) (ae 4) (dCons (ae 1) (dCons (ae 2) dNil)) [.v .(B),.v (.str e),.v .(An),.v .(Ar),.v y.pv]).st fun w=>(match w with | .int z=>Rs.nx [.v .(B),.v (.str e),.v .(An),.v (.int (Builtin.bitAnd (m:Int) z)),.v y.pv]|_=> .bad))=_
    rw[ea,bn]
    show Rs.nx _=_
    rw[this]
   rw[List.map_cons,forD,eg,bn,body]
   exact ih _ _ fun z hz'=>hz z (List.mem_cons_of_mem _ hz')
 have:=lp ys 65535 .no h
 unfold sI
 rw[ay]
 show fin ((forD (ar 4) (kg (gF (n+2))) .(H) [.v .(B),.v (.str e),.v .(An),.v (.int 65535),.no]).next (aG (ae 3)))=_
 exact this
theorem nh{α :Type}(f: α ->Bool):∀l:List α,fL (l.map fun x=>PV.bl (f x))=some (l.map f)
 |[]=>rfl
 |x::l=>by
  rw[List.map_cons,fL,nh f l];rfl
theorem any_map{α :Type}(f: α ->Bool)(l:List α):yC [.lst (l.map fun x=>PV.bl (f x))]= .ok (.bl (l.any f)):=by
 show(match fL (l.map fun x=>PV.bl (f x))with|some ns=>Rx.ok (PV.bl (ns.any id))|none=> .bad)=_
 rw[nh f l]
 show Rx.ok (PV.bl ((l.map f).any id))=_
 rw[List.any_map];rfl
theorem all_map{α :Type}(f: α ->Bool)(l:List α):sv [.lst (l.map fun x=>PV.bl (f x))]= .ok (.bl (l.all f)):=by
 show(match fL (l.map fun x=>PV.bl (f x))with|some ns=>Rx.ok (PV.bl (ns.all id))|none=> .bad)=_
 rw[nh f l]
 show Rx.ok (PV.bl ((l.map f).all id))=_
 rw[List.all_map];rfl
theorem ko(f:Nat->Bool):∀n,(List.range n).foldl (fun(b:Int) (i:Nat)=>if f i=true then b-1*2 ^ i else b) 65535=65535-(maskN f n:Nat)
 |0=>rfl
 |n+1=>by
  rw[List.range_succ,List.foldl_append,ko f n]
  show(if f n=true then _ else _)=65535-(((2 ^ n*(f n).toNat+maskN f n:Nat)):Int)
  cases h:f n
  ·simp
  ·simp;omega
theorem oK(D:Nat)(ys:List Sy)(h:∀y∈ys,y.ok D)(hl:ys.length<=1000)(n:Nat)(hn:D<=n):gF (n+2) 2 [.lst .(H)]= .ok (.int (unb ys:Nat)):=by
 rw[g_z2,aC rfl]
 show fin (sG (gF (n+1)) [.v .(B),.no,.no])=_
 have lp:∀(l:List Nat) (b:Int) (s2:Sl),fin ((forD (ar 2) (mU (gF (n+1))) (l.map fun(i:Nat)=>PV.int (i:Int)) [.v .(B),.v (.int b),s2]).next (aG (ae 1)))= .ok (.int (l.foldl (fun(b:Int) (i:Nat)=>if (ys.any fun y=>y.bars i)=true then b-1*2 ^ i else b) b))\/ ∃i∈l,16<=i:=by
  intro l
  induction l with
  |nil=>intro b s2;exact .inl rfl
  |cons i l ih =>
   intro b s2
   by_cases h16:16<=i
   ·exact .inr ⟨i,List.mem_cons_self,h16⟩
   ·have hc:dComp ["saying"] [("setting",2)] (aI (dSee 0)) (ar 0) bM (aM iY (gF (n+1)) (ae 0) .(O)) [.v .(B),.v (.int b),.v (.int (i:Int))]= .ok (ys.map fun y=>PV.bl (y.bars i)):=by
     have ei:aI (dSee 0) [.v .(B),.v (.int b),.v (.int (i:Int))]= .ok .(H):=rfl
     unfold dComp
     rw[ei,ao,if_pos (by rw[List.length_map];show ys.length<=16777216;omega)]
     refine bC (ps0:=[.v (.int (i:Int))]) Sy.pv (fun y=>PV.bl (y.bars i)) ys .no fun y hy=> ?_
     exact z5 D y (h y hy) n i hn
    have ha:=any_map (fun y:Sy=>y.bars i) ys
    have e2:d2 jo (dC (.int 1)) (dSee 2) ([.v .(B),.v (.int b),.v (.int (i:Int))]:aT)= .ok (.int (1*2 ^ i)):=by
     show(if 0<=(i:Int)/\(i:Int)<=1000000/\(1:Int).natAbs<2 ^ 64 then Rx.ok (PV.int (1*2 ^ ((i:Int)).toNat)) else .bad)=_
     rw[if_pos ⟨by omega,by omega,by decide⟩,Int.toNat_natCast]
    have et:aS (dCall yC (dCons (dOfN (dComp ["saying"] [("setting",2)] (aI (dSee 0)) (ar 0) bM (aM iY (gF (n+1)) (ae 0) .(O)))) dNil)) [.v .(B),.v (.int b),.v (.int (i:Int))]= .ok (ys.any fun y=>y.bars i):=by
     simp only[v6,cL,cb,dA,hc,ao,eW,bO,ha]
    have body:mU (gF (n+1)) [.v .(B),.v (.int b),.v (.int (i:Int))]= .nx [.v .(B),.v (.int (if (ys.any fun y=>y.bars i)=true then b-1*2 ^ i else b)),.v (.int (i:Int))]:=by
     unfold mU
     rw[cq,et]
     cases (ys.any fun y=>y.bars i)
     ·rfl
     ·show((d2 jo (dC (.int 1)) (dSee 2) [.v .(B),.v (.int b),.v (.int (i:Int))]).st _)=_
      rw[e2];rfl
    have eg:ar 2 (PV.int (i:Int)) [.v .(B),.v (.int b),s2]= .ok [.v .(B),.v (.int b),.v (.int (i:Int))]:=rfl
    rcases ih (if (ys.any fun y=>y.bars i)=true then b-1*2 ^ i else b) (.v (.int (i:Int)))with q|⟨j,hj,h16'⟩
    ·left
     rw[List.map_cons,forD,eg,bn,body]
     exact q
    ·exact .inr ⟨j,List.mem_cons_of_mem _ hj,h16'⟩
 rcases lp (List.range 16) 65535 .no with q|⟨i,hi,h16⟩
 ·rw[ko]at q
  have eu:(65535-((maskN (fun i=>ys.any fun y=>y.bars i) 16:Nat):Int))=(unb ys:Nat):=by
   have:=iS (fun i=>ys.any fun y=>y.bars i) 16
   have e2:(2:Nat) ^ 16=65536:=rfl
   unfold unb
   omega
  rw[eu]at q
  unfold sG
  exact q
 ·have:=List.mem_range.mp hi;omega
def K5:List Key:=[.inr "P",.inr "Q",.inr "R",.inr "S",.inr "T"]
def Ck(f:Str->PV):PV:= .dic K5 (wZ.map f)
theorem FR(f:Str->PV){e:Str}(h:bL e):lr (Ck f) (.str e)= .ok (f e):=by
 rcases h with rfl|rfl|rfl|rfl|rfl <;> rfl
def pP(g:Nat->Nat):PV:= .lst ((List.range 16).map fun(i:Nat)=>PV.int ((g i:Nat):Int))
theorem qV(g:Nat->Nat){s:Nat}(h:s<16):fIx (pP g) .(An)= .ok (.int ((g s:Nat):Int)):=by
 show(match gN ((List.range 16).map fun(i:Nat)=>PV.int ((g i:Nat):Int)) (s:Int)with|some w=>Rx.ok w|none=> .bad)=_
 rw[dE (v:=PV.int ((g s:Nat):Int)) (by rw[List.getElem?_map,List.getElem?_range h];rfl)]
theorem z6{i:Nat}{dk dv:DP}{ps:aT}{ks:List Key}{xs:List PV}{w:PV}{e:Str}(h1:dv ps= .ok w)(h2:dk ps= .ok (.str e))(h3:ps[i]? =some (.own (.dic ks xs)))(hz:ks.length<sizeLine) :
  jZ i dk dv ps= .nx (ps.set i (.own (.dic (dB ks (.inr e)) (cV ks xs (.inr e) w)))):=by
 unfold jZ
 rw[h1,bn,h2,bn,h3]
 exact if_pos hz
theorem FS{body:DS}{emb:Sl->Sl->aT}{i:Nat}{F:Str->PV}(hg:∀s1 s2 w,ar i w (emb s1 s2)= .ok (emb s1 (.v w)))
  (hb:∀ks xs e,bL e->ks.length<=5->body (emb (.own (.dic ks xs)) (.v (.str e)))= .nx (emb (.own (.dic (dB ks (.inr e)) (cV ks xs (.inr e) (F e)))) (.v (.str e)))) (s2:Sl) :
  forD (ar i) body (wZ.map PV.str) (emb (.own (.dic [] [])) s2)= .nx (emb (.own (.dic K5 (wZ.map F))) (.v (.str "T"))):=by
 show forD (ar i) body [.str "P",.str "Q",.str "R",.str "S",.str "T"] _=_
 have b0:=hb [] [] "P" (.inl rfl) (by decide)
 have b1:=hb [.inr "P"] [F "P"] "Q" (.inr (.inl rfl)) (by decide)
 have b2:=hb [.inr "P",.inr "Q"] [F "P",F "Q"] "R" (.inr (.inr (.inl rfl))) (by decide)
 have b3:=hb [.inr "P",.inr "Q",.inr "R"] [F "P",F "Q",F "R"] "S" (.inr (.inr (.inr (.inl rfl)))) (by decide)
 have b4:=hb [.inr "P",.inr "Q",.inr "R",.inr "S"] [F "P",F "Q",F "R",F "S"] "T" (.inr (.inr (.inr (.inr rfl)))) (by decide)
 rw[forD,hg,bn,b0]
 show forD (ar i) body [.str "Q",.str "R",.str "S",.str "T"] (emb (.own (.dic [.inr "P"] [F "P"])) (.v (.str "P")))=_
 rw[forD,hg,bn,b1]
 show forD (ar i) body [.str "R",.str "S",.str "T"] (emb (.own (.dic [.inr "P",.inr "Q"] [F "P",F "Q"])) (.v (.str "Q")))=_
 rw[forD,hg,bn,b2]
 show forD (ar i) body [.str "S",.str "T"] (emb (.own (.dic [.inr "P",.inr "Q",.inr "R"] [F "P",F "Q",F "R"])) (.v (.str "R")))=_
 rw[forD,hg,bn,b3]
 show forD (ar i) body [.str "T"] (emb (.own (.dic [.inr "P",.inr "Q",.inr "R",.inr "S"] [F "P",F "Q",F "R",F "S"])) (.v (.str "S")))=_
 rw[forD,hg,bn,b4]
 rfl
theorem pQ(D:Nat)(ys:List Sy)(h:∀y∈ys,y.ok D)(n:Nat)(hn:D<=n):gF (n+4) 3 [.lst .(H)]= .ok (Ck fun e=>pP (letm ys e)):=by
 rw[g_z3,aC rfl]
 show fin (sH (gF (n+3)) [.v .(B),.no,.no])=_
 have lp:=FS (body:=mV (gF (n+3))) (emb:=fun s1 s2=>[.v .(B),s1,s2]) (i:=2) (F:=fun e=>pP (letm ys e)) (fun _ _ _=>rfl) (fun ks xs e he hk=>by
  have hc:dComp ["setting"] [("sayings",0),("deed",2)] .(Aa) (ar 0) bM (dCall (gF (n+3) 4) (dCons (ae 1) (dCons (ae 2) .(Ao)))) [.v .(B),.own (.dic ks xs),.v (.str e)]= .ok ((List.range 16).map fun(i:Nat)=>PV.int ((letm ys e i:Nat):Int)):=by
   have ei:bA (dCons (dC (.int 16)) dNil) ([.v .(B),.own (.dic ks xs),.v (.str e)]:aT)= .ok ((List.range 16).map fun(i:Nat)=>PV.int (i:Int)):=rfl
   unfold dComp
   rw[ei,ao,if_pos (by rw[List.length_map,List.length_range];decide)]
   refine bC (ps0:=[.v .(B),.v (.str e)]) (fun(i:Nat)=>PV.int (i:Int)) (fun(i:Nat)=>PV.int ((letm ys e i:Nat):Int)) (List.range 16) .no fun i hi=> ?_
   have e1:=ng D ys h n e i (List.mem_range.mp hi) hn
   simp[e1]
  have hz:ks.length<sizeLine:=by show ks.length<16777216;omega
  unfold mV
  have ev:dOfN (dComp ["setting"] [("sayings",0),("deed",2)] .(Aa) (ar 0) bM (dCall (gF (n+3) 4) (dCons (ae 1) (dCons (ae 2) .(Ao))))) [.v .(B),.own (.dic ks xs),.v (.str e)]= .ok (pP (letm ys e)):=by
   rw[dA,hc];rfl
  exact z6 ev rfl rfl hz) .no
 unfold sH
 rw[ay]
 show fin ((forD (ar 2) (mV (gF (n+3))) (wZ.map PV.str) [.v .(B),.own (.dic [] []),.no]).next (g7 (gU 1)))=_
 rw[lp]
 rfl
end M63
end
noncomputable section
namespace M63
open PySem L2 DN
theorem qW{α :Type}(p: α ->Bool)(g: α ->Int):∀(l:List α) (b:Int),l.foldl (fun b i=>if p i=true then b+g i else b) b=b+((l.filter p).map g).sum
 |[],b=>by simp
 |a::l,b=>by
  rw[List.foldl_cons,qW p g l]
  cases h:p a
  ·simp[h]
  ·simp[h,Int.add_assoc]
theorem lI(f:Nat->Bool):∀n,(((List.range n).filter f).map (fun(i:Nat)=>(1:Int)*2 ^ i)).sum=(maskN f n:Nat)
 |0=>rfl
 |n+1=>by
  rw[List.range_succ,List.filter_append,List.map_append,List.sum_append,lI f n]
  show _=(((2 ^ n*(f n).toNat+maskN f n:Nat)):Int)
  cases h:f n
  ·simp[h]
  ·simp[h,Int.add_comm]
theorem x9(L:Str->Nat->Nat)(m:Nat):(bits m).foldl (fun(b:Int) (i:Nat)=>if oJ L m i=true then b+1*2 ^ i else b) 0=((stp L m:Nat):Int):=by
 rw[qW]
 unfold bits stp
 rw[List.filter_filter,<-lI,Int.zero_add]
 congr 2
 apply List.filter_congr
 intro i _
 rw[Bool.and_comm]
theorem z7(x:Nat):(((x:Nat):Int) == 0)=(x == 0):=by
 rw[Bool.eq_iff_iff,beq_iff_eq,beq_iff_eq]
 omega
abbrev dr(L:Str->Nat->Nat):PV:=Ck fun e=>pP (L e)
theorem z9(L:Str->Nat->Nat)(m s:Nat)(hs:s<16)(s2:Sl):dComp ["deed"] [("mask",0),("setting",3),("let_by",1)] (ft (dC (.tup fB))) (ar 0) bM (d2 fJ (d2 gP (d2 fIx (d2 lr (dSee 3) (dSee 0)) (dSee 2)) (dSee 1)) (dC (.int 0))) [.v .(Ar),.v (dr L),s2,.v .(An)]= .ok (wZ.map fun e=>PV.bl (!(L e s &&& m == 0))):=by
 have ei:ft (dC (.tup fB)) [.v .(Ar),.v (dr L),s2,.v .(An)]= .ok (wZ.map PV.str):=rfl
 unfold dComp
 rw[ei,ao,if_pos (by show 5<=sizeLine;decide)]
 refine bC (ps0:=[.v .(Ar),.v .(An),.v (dr L)]) PV.str (fun e=>PV.bl (!(L e s &&& m == 0))) wZ .no fun e he=> ?_
 have e1:=FR (fun e=>pP (L e)) (Jw.mp he)
 have e2:=qV (L e) hs
 have e3:=dM (L e s) m
 have e4:=z7 (L e s &&& m)
 simp[e1,e2,e3,e4]
theorem jg(n:Nat)(L:Str->Nat->Nat)(m:Nat):∀(l:List Nat) (b:Int) (s3:Sl),(∀i∈l,i<16)->∃s3',forD (ar 3) (mW (gF n)) (l.map fun(i:Nat)=>PV.int (i:Int)) [.v .(Ar),.v (dr L),.v (.int b),s3]= .nx [.v .(Ar),.v (dr L),.v (.int (l.foldl (fun(b:Int) (i:Nat)=>if oJ L m i=true then b+1*2 ^ i else b) b)),s3']
 |[],b,s3,_=>⟨s3,rfl⟩
 |i::l,b,s3,h=>by
  have hi:=h i List.mem_cons_self
  obtain⟨s3',ih⟩:=jg n L m l (if oJ L m i=true then b+1*2 ^ i else b) (.v (.int (i:Int))) fun j hj=>h j (List.mem_cons_of_mem _ hj)
  refine⟨s3',?_⟩
  have hc:=z9 L m i hi (.v (.int b))
  have ha:=all_map (fun e:Str=> !(L e i &&& m == 0)) wZ
  have e2:d2 jo (dC (.int 1)) (dSee 3) ([.v .(Ar),.v (dr L),.v (.int b),.v (.int (i:Int))]:aT)= .ok (.int (1*2 ^ i)):=by
   show(if 0<=(i:Int)/\(i:Int)<=1000000/\(1:Int).natAbs<2 ^ 64 then Rx.ok (PV.int (1*2 ^ ((i:Int)).toNat)) else .bad)=_
   rw[if_pos ⟨by omega,by omega,by decide⟩,Int.toNat_natCast]
  have et:aS (dCall sv (dCons (dOfN (dComp ["deed"] [("mask",0),("setting",3),("let_by",1)] (ft (dC (.tup fB))) (ar 0) bM (d2 fJ (d2 gP (d2 fIx (d2 lr (dSee 3) (dSee 0)) (dSee 2)) (dSee 1)) (dC (.int 0))))) dNil)) [.v .(Ar),.v (dr L),.v (.int b),.v (.int (i:Int))]= .ok (oJ L m i):=by
   simp only[v6,cL,cb,dA,hc,ao,eW,bO,ha]
   rfl
  have body:mW (gF n) [.v .(Ar),.v (dr L),.v (.int b),.v (.int (i:Int))]= .nx [.v .(Ar),.v (dr L),.v (.int (if oJ L m i=true then b+1*2 ^ i else b)),.v (.int (i:Int))]:=by
   unfold mW
   rw[cq,et]
   cases oJ L m i
   ·rfl
   ·show((d2 jo (dC (.int 1)) (dSee 3) [.v .(Ar),.v (dr L),.v (.int b),.v (.int (i:Int))]).st _)=_
    rw[e2];rfl
  have eg:ar 3 (PV.int (i:Int)) [.v .(Ar),.v (dr L),.v (.int b),s3]= .ok [.v .(Ar),.v (dr L),.v (.int b),.v (.int (i:Int))]:=rfl
  rw[List.map_cons,forD,eg,bn,body]
  exact ih
theorem oM(n:Nat)(L:Str->Nat->Nat)(m:Nat)(s2 s3:Sl):∃s3',kh (gF (n+2)) [.v .(Ar),.v (dr L),s2,s3]=if stp L m=m then .ret .(Ar) else .nx [.v (.int (stp L m:Nat)),.v (dr L),.v (.int (stp L m:Nat)),s3']:=by
 obtain⟨s3',e1⟩:=jg (n+2) L m (bits m) 0 s3 fun i hi=>(bq.mp hi).1
 rw[x9]at e1
 refine⟨s3',?_⟩
 have es:=dX n m
 have ei:aI (dCall (gF (n+2) 1) .(Ao)) [.v .(Ar),.v (dr L),.v (.int 0),s3]= .ok ((bits m).map fun(i:Nat)=>PV.int (i:Int)):=by
  unfold aI
  simp[es]
 unfold kh
 rw[ay]
 show(al (sFor _ _ _) _ [.v .(Ar),.v (dr L),.v (.int 0),s3])=_
 rw[ay,va,ei,bn,e1,aj,ay]
 by_cases hm:stp L m=m
 ·have hb:(((stp L m:Nat):Int) == (m:Int))=true:=by simp[hm]
  rw[if_pos hm,hm]
  simp
 ·have hb:(((stp L m:Nat):Int) == (m:Int))=false:=by simp;omega
  rw[if_neg hm]
  simp[hb]
theorem lJ(n:Nat)(L:Str->Nat->Nat):∀(k j m:Nat) (s2 s3:Sl),m<k->m<65536->bP (dS (aS (dC (.bl true)))) (kh (gF (n+2))) (k+j) [.v .(Ar),.v (dr L),s2,s3]=some (.ret (.int (lastF L k m:Nat)))
 |0,j,m,s2,s3,h,_=>by omega
 |k+1,j,m,s2,s3,h,h2=>by
  obtain⟨s3',e1⟩:=oM n L m s2 s3
  have tt:∀ps,dS (aS (dC (.bl true))) ps= .ok (true,ps):=fun _=>rfl
  rw[show k+1+j=(k+j)+1 by omega,bP,tt]
  simp only[e1]
  unfold lastF
  by_cases hm:stp L m=m
  ·rw[if_pos hm,if_pos hm]
  ·rw[if_neg hm,if_neg hm]
   have hle:=Ch (km L m) (yY L m)
   exact lJ n L k j (stp L m) _ _ (by omega) (km L m)
theorem pR(n:Nat)(L:Str->Nat->Nat)(m:Nat)(hm:m<65536):gF (n+3) 5 [.int (m:Int),dr L]= .ok (.int (gdF L m:Nat)):=by
 rw[g_z5,aC rfl]
 show fin (sJ (gF (n+2)) [.v .(Ar),.v (dr L),.no,.no])=_
 have e:=lJ n L 65536 34464 m .no .no hm hm
 have e:bP (dS (aS (dC (.bl true)))) (kh (gF (n+2))) 100000 [.v .(Ar),.v (dr L),.no,.no]=some (.ret (.int (lastF L 65536 m:Nat))):=e
 unfold sJ
 rw[gg,e]
 rfl
def ap(ys:List Sy):PV:= .obj 14 [.int (unb ys:Nat),dr (letm ys),.int (gdS ys:Nat)]
theorem kq(D:Nat)(ys:List Sy)(h:∀y∈ys,y.ok D)(hl:ys.length<=1000)(n:Nat)(hn:D<=n):gF (n+5) 51 [.lst .(H)]= .ok (ap ys):=by
 have e1:=oK D ys h hl (n+2) (by omega)
 have e2:=pQ D ys h n hn
 have e3:=pR (n+1) (letm ys) (unb ys) (pO ys)
 have e0:oH (gF (n+4)) [.ini 14 [],.v .(B)]= .nx [.ini 14 [.int (unb ys:Nat),dr (letm ys),.int (gdS ys:Nat)],.v .(B)]:=by
  unfold oH
  have f1:aW fA (.obj 14 [.int (unb ys:Nat),dr (letm ys)])= .ok (.int (unb ys:Nat)):=rfl
  have f2:aW eY (.obj 14 [.int (unb ys:Nat),dr (letm ys)])= .ok (dr (letm ys)):=rfl
  simp[e1,e2,f1,f2,e3,gdS]
 have e4:jr 14 3 [false] 2 (oH (gF (n+4))) [.lst .(H)]=(match oH (gF (n+4)) [.ini 14 [],.v .(B)]with | .nx ps=>(match ps[(0:Nat)]? with|some (.ini k' fs)=>if k'=14/\fs.length=3 then .ok (.obj 14 fs) else .bad|_=> .bad) | .exc c=> .exc c|_=> .bad):=rfl
 rw[g_zP,e4,e0]
 rfl
theorem za(ys:List Sy)(n:Nat):bp gh (gF (n+1)) (ap ys) []= .ok (.int (gdS ys:Nat)):=rfl
theorem iC(ys:List Sy)(n:Nat){e:Str}(he:bL e){s:Nat}(hs:s<16):bp bQ (gF (n+1)) (ap ys) [.str e,.int (s:Int)]= .ok (.int ((letm ys e s &&& gdS ys:Nat):Int)):=by
 have e0:bp bQ (gF (n+1)) (ap ys) [.str e,.int (s:Int)]=aH [false,false,false] 3 (tz (gF n)) [ap ys,.str e,.int (s:Int)]:=rfl
 rw[e0,aC rfl]
 show fin (tz (gF n) [.v (ap ys),.v (.str e),.v .(An)])=_
 have f1:aW eY (ap ys)= .ok (dr (letm ys)):=rfl
 have f2:aW eX (ap ys)= .ok (.int (gdS ys:Nat)):=rfl
 have e1:=FR (fun e=>pP (letm ys e)) he
 have e2:=qV (letm ys e) hs
 have e3:=dM (letm ys e s) (gdS ys)
 unfold tz
 simp[f1,f2,e1,e2,e3]
end M63
end
noncomputable section
namespace M63
open PySem L2 DN
abbrev Rw:=Int->Str×Int
def kL(d:Str×Int):PV:= .tup [.str d.1,.int d.2]
def rpv(f:Rw):PV:= .lst ((List.range 16).map fun(i:Nat)=>kL (f (i:Int)))
def eN(f l:Rw):Rw:=fun s=>if (f s).1="done" then l s else f s
def ldoor(b:Bool)(d:Str×Int):Str×Int:=if b=true then(if d.1="done" then("hung",0) else d) else("done",0)
def Dr:St->Int->Rw×List Rw
 |.skip,_=>(fun _=>("done",0),[])
 |.stop,_=>(fun _=>("stopped",0),[])
 |.deed c,a=>(fun _=>(c,a+1),[fun _=>("done",0)])
 |.row h t,a=>(eN (Dr h a).1 (Dr t (a+(h.ders.length:Int))).1,(Dr h a).2.map (fun f=>eN f (Dr t (a+(h.ders.length:Int))).1)++(Dr t (a+(h.ders.length:Int))).2)
 |.choice g y n,a=>(fun s=>if g.at s=true then(Dr y a).1 s else(Dr n (a+(y.ders.length:Int))).1 s,(Dr y a).2++(Dr n (a+(y.ders.length:Int))).2)
 |.loop g b,a=>(fun s=>ldoor (g.at s) ((Dr b a).1 s),(Dr b a).2.map fun f=>eN f fun s=>ldoor (g.at s) ((Dr b a).1 s))
theorem cD:∀(t:St) (a:Int),(Dr t a).2.length=t.ders.length
 |.skip,_=>rfl
 |.stop,_=>rfl
 |.deed c,a=>rfl
 |.row h t,a=>by simp[Dr,St.ders,cD h,cD t]
 |.choice g y n,a=>by simp[Dr,St.ders,cD y,cD n]
 |.loop g b,a=>by simp[Dr,St.ders,cD b]
theorem xz(f:Rw){s:Int}(h0:0<=s)(h1:s<16):fIx (rpv f) (.int s)= .ok (kL (f s)):=by
 obtain⟨i,rfl⟩:∃i:Nat,s=(i:Int):=⟨s.toNat,by omega⟩
 have hi:i<16:=by omega
 show(match gN ((List.range 16).map fun(i:Nat)=>kL (f (i:Int))) (i:Int)with|some w=>Rx.ok w|none=> .bad)=_
 rw[dE (v:=kL (f (i:Int))) (by rw[List.getElem?_map,List.getElem?_range hi];rfl)]
theorem zb(d:Str×Int):fIx (kL d) (.int 0)= .ok (.str d.1):=rfl
theorem qX(ps:aT):bA (dCons (dC (.int 16)) dNil) ps= .ok ((List.range 16).map fun(i:Nat)=>PV.int (0+(i:Int))):=rfl
theorem qY:((List.range 16).map fun(i:Nat)=>PV.int (0+(i:Int))).length<=sizeLine:=by
 rw[List.length_map,List.length_range];decide
theorem qZ(n:Nat)(f l:Rw):gF (n+1) 14 [rpv f,rpv l]= .ok (rpv (eN f l)):=by
 rw[g_ze,aC rfl]
 show fin (sP (gF n) [.v (rpv f),.v (rpv l)])=_
 have hc:dComp ["setting"] [("later",1),("doors",0)] .(Aa) (ar 0) bM (pj (aS (d2 cB (d2 fIx (d2 fIx (dSee 2) (dSee 0)) (dC (.int 0))) (dC (.str "done")))) (d2 fIx (dSee 1) (dSee 0)) (d2 fIx (dSee 2) (dSee 0))) [.v (rpv f),.v (rpv l)]= .ok ((List.range 16).map fun(i:Nat)=>kL (eN f l (i:Int))):=by
  unfold dComp
  rw[qX,ao,if_pos qY]
  refine bC (ps0:=[.v (rpv l),.v (rpv f)]) (fun(i:Nat)=>PV.int (0+(i:Int))) (fun(i:Nat)=>kL (eN f l (i:Int))) (List.range 16) .no fun i hi=> ?_
  have hi:=List.mem_range.mp hi
  have e1:=xz f (s:=(i:Int)) (by omega) (by omega)
  have e2:=xz l (s:=(i:Int)) (by omega) (by omega)
  by_cases hd:(f (i:Int)).1="done"
  ·have hb:((f (i:Int)).1 == "done")=true:=by simpa using hd
   simp[e1,e2,zb,hb,eN,hd]
  ·have hb:((f (i:Int)).1 == "done")=false:=by simpa using hd
   simp[e1,e2,zb,hb,eN,hd]
 unfold sP
 simp only[iw,dA,hc,ao,bn,gt]
 rfl
theorem xb(n:Nat)(b:Bool)(d:Str×Int):gF (n+1) 13 [.bl b,kL d]= .ok (kL (ldoor b d)):=by
 rw[g_zd,aC rfl]
 show fin (sO (gF n) [.v (.bl b),.v (kL d)])=_
 unfold sO ldoor
 cases b
 ·simp[kL]
 ·by_cases hd:d.1="done"
  ·have hb:(d.1 == "done")=true:=by simpa using hd
   simp[zb,hb]
   rw[if_pos hd]
   rfl
  ·have hb:(d.1 == "done")=false:=by simpa using hd
   simp[zb,hb,hd]
theorem iD(x:PV)(xs:List PV):kG (x::xs) (some 1) none=xs:=by
 have h1:HT.sIx (x::xs).length 0 (some 1)=1:=by
  unfold HT.sIx
  simp
 have h2:HT.sIx (x::xs).length (x::xs).length none=(x::xs).length:=rfl
 unfold kG
 rw[h1,h2]
 simp
theorem oN(x:PV)(xs:List PV):fIx (.lst (x::xs)) (.int 0)= .ok x:=by
 have:gN (x::xs) ((0:Nat):Int)=some x:=dE rfl
 show(match gN (x::xs) ((0:Nat):Int)with|some w=>Rx.ok w|none=> .bad)=_
 rw[this]
def az(d:Rw×List Rw):PV:= .lst (rpv d.1::d.2.map rpv)
theorem kr(d:Rw×List Rw)(h:d.2.length<=100000):bLen [az d]= .ok (.int ((d.2.length:Int)+1)):=by
 show Rx.ok (PV.int (((rpv d.1::d.2.map rpv).length:Nat):Int))=_
 rw[List.length_cons,List.length_map]
 rfl
theorem fg:∀(t:St) (n:Nat) (a:Int),t.ok->2*t.depth+2<=n->t.ders.length<=1000->gF n 8 [t.pv,.int a]= .ok (az (Dr t a))
 |.skip,n+2,a,_,_,_=>rfl
 |.stop,n+2,a,_,_,_=>rfl
 |.deed c,n+2,a,_,_,_=>rfl
 |.row h t,n+2,a,ho,hd,hl=>by
  have hd:2*(max h.depth t.depth+1)+2<=n+2:=hd
  have hl:(h.ders.map (fun l=>St.row l t)++t.ders).length<=1000:=hl
  rw[List.length_append,List.length_map]at hl
  obtain⟨k,rfl⟩:∃k,n=k+1:=⟨n-1,by omega⟩
  have i1:=fg h (k+1) a ho.1 (by omega) (by omega)
  have i2:=fg t (k+1) (a+(h.ders.length:Int)) ho.2 (by omega) (by omega)
  have l1:=cD h a
  have l2:=cD t (a+(h.ders.length:Int))
  have lh:=kr (Dr h a) (by omega)
  rw[l1]at lh
  generalize eh:Dr h a=dh at i1 l1 lh
  generalize et:Dr t (a+(h.ders.length:Int))=dt at i2 l2
  have hg:∀ps:aT,ps[2]? =some (.v (az dh))->ps[3]? =some (.v (az dt))->dComp ["doors"] [("tail",3)] (aI (dSee 2)) (ar 0) bM (dCall (gF (k+1) 14) (dCons (ae 0) (dCons .(Ap) dNil))) ps= .ok ((dh.1::dh.2).map fun f=>rpv (eN f dt.1)):=fun ps p2 p3=>by
   have ei:aI (dSee 2) ps= .ok ((dh.1::dh.2).map rpv):=by
    unfold aI dSee
    rw[p2];rfl
   have ec:pq ["doors"] [("tail",3)] ps=[.no,.v (az dt)]:=by
    show[Sl.no,((ps[3]?).getD Sl.no).out]=_
    rw[p3];rfl
   unfold dComp
   rw[ei,ao,if_pos (by rw[List.length_map,List.length_cons];show dh.2.length+1<=16777216;omega),ec]
   exact bC (ps0:=[.v (az dt)]) rpv (fun f=>rpv (eN f dt.1)) (dh.1::dh.2) .no fun f hf=>by
    have e3:fIx (az dt) (.int 0)= .ok (rpv dt.1):=oN _ _
    simp[qZ k f dt.1,e3]
  have er:gF (k+2) 10 [(St.row h t).pv,.int a]= .ok (az (Dr (.row h t) a)):=by
   rw[g_za,aC rfl]
   show fin (sL (gF (k+1)) [.v (.obj 11 [h.pv,t.pv]),.v (.int a),.no,.no])=_
   have f1:aW mR (.obj 11 [h.pv,t.pv])= .ok h.pv:=rfl
   have f2:aW mT (.obj 11 [h.pv,t.pv])= .ok t.pv:=rfl
   have ea:a+((h.ders.length:Int)+1)-1=a+(h.ders.length:Int):=by omega
   have hg:=hg [.v (.obj 11 [h.pv,t.pv]),.v (.int a),.v (az dh),.v (az dt)] rfl rfl
   have ec:∀x xs,cJ (dSee 3) (gp (dC (.int 1))) hG [.v x,.v xs,.v (az dh),.v (az dt)]= .ok (dt.2.map rpv):=fun x xs=>congrArg Rx.ok (iD _ _)
   have hz:dh.2.length+1+dt.2.length<=sizeLine:=by show _<=16777216;omega
   have hcat:dCatL (dOfN (dComp ["doors"] [("tail",3)] (aI (dSee 2)) (ar 0) bM (dCall (gF (k+1) 14) (dCons (ae 0) (dCons .(Ap) dNil))))) (dOfN (cJ (dSee 3) (gp (dC (.int 1))) hG)) [.v (.obj 11 [h.pv,t.pv]),.v (.int a),.v (az dh),.v (az dt)]= .ok (((dh.1::dh.2).map fun f=>rpv (eN f dt.1))++dt.2.map rpv):=by
    rw[mC]
    unfold dOfN
    rw[hg,ec]
    simp only[ao,List.length_map,List.length_cons]
    rw[if_pos hz]
   unfold sL
   simp only[ay,fK,cL,cb,vf,qt,List.getElem?_cons_zero,List.getElem?_cons_succ,ao,f1,f2,eW,bO,i1,bn,List.set_cons_succ,List.set_cons_zero,aj,v5,jV,zF,dq,lh,vb,ea,i2,iw,dA,hcat,gt]
   unfold Dr az
   simp[eh,et,List.map_map,Function.comp_def]
  have e0:gF (k+3) 8 [(St.row h t).pv,.int a]=gF (k+2) 10 [(St.row h t).pv,.int a]:=by
   rw[g_z8,aC rfl]
   show fin (kJ (gF (k+2)) [.v (.obj 11 [h.pv,t.pv]),.v (.int a)])=_
   have er:gF (k+2) 10 [.obj 11 [h.pv,t.pv],.int a]= .ok (az (Dr (.row h t) a)):=er
   unfold kJ
   have es:St.pv (.row h t)= .obj 11 [h.pv,t.pv]:=rfl
   simp[er,es]
  exact e0.trans er
 |.choice g y n',n+2,a,ho,hd,hl=>by
  have hd:2*(max g.depth (max y.depth n'.depth)+1)+2<=n+2:=hd
  have hl:(y.ders++n'.ders).length<=1000:=hl
  rw[List.length_append]at hl
  obtain⟨k,rfl⟩:∃k,n=k+1:=⟨n-1,by omega⟩
  have i1:=fg y (k+1) a ho.2.1 (by omega) (by omega)
  have i2:=fg n' (k+1) (a+(y.ders.length:Int)) ho.2.2 (by omega) (by omega)
  have l1:=cD y a
  have l2:=cD n' (a+(y.ders.length:Int))
  have lh:=kr (Dr y a) (by omega)
  rw[l1]at lh
  have er:gF (k+2) 11 [(St.choice g y n').pv,.int a]= .ok (az (Dr (.choice g y n') a)):=by
   have eD:Dr (.choice g y n') a=(fun s=>if g.at s=true then(Dr y a).1 s else(Dr n' (a+(y.ders.length:Int))).1 s,(Dr y a).2++(Dr n' (a+(y.ders.length:Int))).2):=rfl
   rw[eD]
   generalize eh:Dr y a=dh at i1 l1 lh
   generalize et:Dr n' (a+(y.ders.length:Int))=dt at i2 l2
   rw[g_zb,aC rfl]
   show fin (sM (gF (k+1)) [.v (.obj 12 [g.pv,y.pv,n'.pv]),.v (.int a),.no,.no,.no])=_
   have f0:aW cC (.obj 12 [g.pv,y.pv,n'.pv])= .ok g.pv:=rfl
   have f1:aW qK (.obj 12 [g.pv,y.pv,n'.pv])= .ok y.pv:=rfl
   have f2:aW yR (.obj 12 [g.pv,y.pv,n'.pv])= .ok n'.pv:=rfl
   have ea:a+((y.ders.length:Int)+1)-1=a+(y.ders.length:Int):=by omega
   have hg:dComp ["setting"] [("yes",2),("no",3),("step",0)] .(Aa) (ar 0) bM (pj (aS (aM aL (gF (k+1)) (ba cC (ae 3)) .(Ao))) (d2 fIx .(Ap) (dSee 0)) (d2 fIx (d2 fIx (dSee 2) (dC (.int 0))) (dSee 0))) [.v (.obj 12 [g.pv,y.pv,n'.pv]),.v (.int a),.v (az dh),.v (az dt),.no]= .ok ((List.range 16).map fun(i:Nat)=>kL (if g.at (i:Int)=true then dh.1 (i:Int) else dt.1 (i:Int))):=by
    unfold dComp
    rw[qX,ao,if_pos qY]
    refine bC (ps0:=[.v (az dh),.v (az dt),.v (.obj 12 [g.pv,y.pv,n'.pv])]) (fun(i:Nat)=>PV.int (0+(i:Int))) (fun(i:Nat)=>kL (if g.at (i:Int)=true then dh.1 (i:Int) else dt.1 (i:Int))) (List.range 16) .no fun i hi=> ?_
    have hi:=List.mem_range.mp hi
    have e1:=xz dh.1 (s:=(i:Int)) (by omega) (by omega)
    have e2:=xz dt.1 (s:=(i:Int)) (by omega) (by omega)
    have e3:fIx (az dh) (.int 0)= .ok (rpv dh.1):=oN _ _
    have e4:fIx (az dt) (.int 0)= .ok (rpv dt.1):=oN _ _
    have eg:=bR g (k+1) (i:Int) ho.1 (by omega)
    cases hgs:g.at (i:Int) <;> simp[e1,e2,e3,e4,f0,eg,hgs]
   have ec1:∀x xs z,cJ (dSee 2) (gp (dC (.int 1))) hG [.v x,.v xs,.v (az dh),.v (az dt),z]= .ok (dh.2.map rpv):=fun x xs z=>congrArg Rx.ok (iD _ _)
   have ec2:∀x xs z,cJ (dSee 3) (gp (dC (.int 1))) hG [.v x,.v xs,.v (az dh),.v (az dt),z]= .ok (dt.2.map rpv):=fun x xs z=>congrArg Rx.ok (iD _ _)
   have hz1:1+dh.2.length<=sizeLine:=by show _<=16777216;omega
   have hz2:1+dh.2.length+dt.2.length<=sizeLine:=by show _<=16777216;omega
   have hcat:∀x z,dCatL (dOfN (dCatL (dOfN (dCons (ae 4) dNil)) .(Aw))) (dOfN (cJ (dSee 3) (gp (dC (.int 1))) hG)) [.v x,.v (.int a),.v (az dh),.v (az dt),.v z]= .ok (z::(dh.2.map rpv++dt.2.map rpv)):=fun x z=>by
    rw[mC]
    have e1:dCatL (dOfN (dCons (ae 4) dNil)) .(Aw) [.v x,.v (.int a),.v (az dh),.v (az dt),.v z]= .ok (z::dh.2.map rpv):=by
     rw[mC]
     unfold dOfN
     rw[ec1]
     have:dCons (ae 4) dNil [.v x,.v (.int a),.v (az dh),.v (az dt),.v z]= .ok [z]:=rfl
     rw[this]
     simp only[ao,List.length_map,List.length_cons,List.length_nil]
     rw[if_pos (by omega)]
     rfl
    have e2:dOfN (dCatL (dOfN (dCons (ae 4) dNil)) .(Aw)) [.v x,.v (.int a),.v (az dh),.v (az dt),.v z]= .ok (.lst (z::dh.2.map rpv)):=by
     show(dCatL _ _ _).bind _=_
     rw[e1];rfl
    have e3:dOfN (cJ (dSee 3) (gp (dC (.int 1))) hG) [.v x,.v (.int a),.v (az dh),.v (az dt),.v z]= .ok (.lst (dt.2.map rpv)):=by
     show(cJ _ _ _ _).bind _=_
     rw[ec2];rfl
    rw[e2,e3]
    simp only[ao,List.length_map,List.length_cons]
    rw[if_pos (by omega)]
    rfl
   unfold sM
   simp only[ay,fK,cL,cb,vf,qt,List.getElem?_cons_zero,List.getElem?_cons_succ,ao,f1,f2,eW,bO,i1,bn,List.set_cons_succ,List.set_cons_zero,aj,v5,jV,zF,dq,lh,vb,ea,i2,iw,dA,hg,hcat,gt]
   unfold az rpv
   simp
  have e0:gF (k+3) 8 [(St.choice g y n').pv,.int a]=gF (k+2) 11 [(St.choice g y n').pv,.int a]:=by
   rw[g_z8,aC rfl]
   show fin (kJ (gF (k+2)) [.v (.obj 12 [g.pv,y.pv,n'.pv]),.v (.int a)])=_
   have er:gF (k+2) 11 [.obj 12 [g.pv,y.pv,n'.pv],.int a]= .ok (az (Dr (.choice g y n') a)):=er
   unfold kJ
   have es:St.pv (.choice g y n')= .obj 12 [g.pv,y.pv,n'.pv]:=rfl
   simp[er,es]
  exact e0.trans er
 |.loop g b,n+2,a,ho,hd,hl=>by
  have hd:2*(max g.depth b.depth+1)+2<=n+2:=hd
  have hl:(b.ders.map (fun l=>St.row l (.loop g b))).length<=1000:=hl
  rw[List.length_map]at hl
  obtain⟨k,rfl⟩:∃k,n=k+1:=⟨n-1,by omega⟩
  have i1:=fg b (k+1) a ho.2 (by omega) (by omega)
  have l1:=cD b a
  have er:gF (k+2) 12 [(St.loop g b).pv,.int a]= .ok (az (Dr (.loop g b) a)):=by
   have eD:Dr (.loop g b) a=(fun s=>ldoor (g.at s) ((Dr b a).1 s),(Dr b a).2.map fun f=>eN f fun s=>ldoor (g.at s) ((Dr b a).1 s)):=rfl
   rw[eD]
   generalize eh:Dr b a=dh at i1 l1
   rw[g_zc,aC rfl]
   show fin (sN (gF (k+1)) [.v (.obj 13 [g.pv,b.pv]),.v (.int a),.no,.no])=_
   have f0:aW cC (.obj 13 [g.pv,b.pv])= .ok g.pv:=rfl
   have f1:aW mQ (.obj 13 [g.pv,b.pv])= .ok b.pv:=rfl
   have hg:dComp ["setting"] [("body",2),("step",0)] .(Aa) (ar 0) bM (dCall (gF (k+1) 13) (dCons (aM aL (gF (k+1)) (ba cC (ae 2)) .(Ao)) (dCons (d2 fIx .(Ap) (dSee 0)) dNil))) [.v (.obj 13 [g.pv,b.pv]),.v (.int a),.v (az dh),.no]= .ok ((List.range 16).map fun(i:Nat)=>kL (ldoor (g.at (i:Int)) (dh.1 (i:Int)))):=by
    unfold dComp
    rw[qX,ao,if_pos qY]
    refine bC (ps0:=[.v (az dh),.v (.obj 13 [g.pv,b.pv])]) (fun(i:Nat)=>PV.int (0+(i:Int))) (fun(i:Nat)=>kL (ldoor (g.at (i:Int)) (dh.1 (i:Int)))) (List.range 16) .no fun i hi=> ?_
    have hi:=List.mem_range.mp hi
    have e1:=xz dh.1 (s:=(i:Int)) (by omega) (by omega)
    have e3:fIx (az dh) (.int 0)= .ok (rpv dh.1):=oN _ _
    have eg:=bR g (k+1) (i:Int) ho.1 (by omega)
    simp[e1,e3,f0,eg,xb]
   generalize hB:(fun s=>ldoor (g.at s) (dh.1 s))=bg
   have hg:dComp ["setting"] [("body",2),("step",0)] .(Aa) (ar 0) bM (dCall (gF (k+1) 13) (dCons (aM aL (gF (k+1)) (ba cC (ae 2)) .(Ao)) (dCons (d2 fIx .(Ap) (dSee 0)) dNil))) [.v (.obj 13 [g.pv,b.pv]),.v (.int a),.v (az dh),.no]= .ok ((List.range 16).map fun(i:Nat)=>kL (bg (i:Int))):=by rw[<-hB];exact hg
   have hc2:dComp ["doors"] [("begin",3)] (aI .(Aw)) (ar 0) bM (dCall (gF (k+1) 14) (dCons (ae 0) .(O))) [.v (.obj 13 [g.pv,b.pv]),.v (.int a),.v (az dh),.v (rpv bg)]= .ok (dh.2.map fun f=>rpv (eN f bg)):=by
    have ei:aI .(Aw) [.v (.obj 13 [g.pv,b.pv]),.v (.int a),.v (az dh),.v (rpv bg)]= .ok (dh.2.map rpv):=congrArg Rx.ok (iD _ _)
    unfold dComp
    rw[ei,ao,if_pos (by rw[List.length_map];show dh.2.length<=16777216;omega)]
    exact bC (ps0:=[.v (rpv bg)]) rpv (fun f=>rpv (eN f bg)) dh.2 .no fun f hf=>by
     simp[qZ k f bg]
   have hcat:dCatL (dOfN (dCons (ae 3) dNil)) (dOfN (dComp ["doors"] [("begin",3)] (aI .(Aw)) (ar 0) bM (dCall (gF (k+1) 14) (dCons (ae 0) .(O))))) [.v (.obj 13 [g.pv,b.pv]),.v (.int a),.v (az dh),.v (rpv bg)]= .ok (rpv bg::dh.2.map fun f=>rpv (eN f bg)):=by
    rw[mC]
    unfold dOfN
    unfold dOfN at hc2
    rw[hc2]
    have:dCons (ae 3) dNil [.v (.obj 13 [g.pv,b.pv]),.v (.int a),.v (az dh),.v (rpv bg)]= .ok [rpv bg]:=rfl
    rw[this]
    simp only[ao,List.length_map,List.length_cons,List.length_nil]
    rw[if_pos (by show _<=16777216;omega)]
    rfl
   have hcat:dCatL (dOfN (dCons (ae 3) dNil)) (dOfN (dComp ["doors"] [("begin",3)] (aI .(Aw)) (ar 0) bM (dCall (gF (k+1) 14) (dCons (ae 0) .(O))))) [.v (.obj 13 [g.pv,b.pv]),.v (.int a),.v (az dh),.v (.lst ((List.range 16).map fun(i:Nat)=>kL (bg (i:Int))))]= .ok (rpv bg::dh.2.map fun f=>rpv (eN f bg)):=hcat
   unfold sN
   simp only[ay,fK,cL,cb,vf,qt,List.getElem?_cons_zero,List.getElem?_cons_succ,ao,f1,eW,bO,i1,bn,List.set_cons_succ,List.set_cons_zero,aj,v5,jV,zF,dq,iw,dA,hg,hcat,gt]
   unfold az
   simp[List.map_map,Function.comp_def]
  have e0:gF (k+3) 8 [(St.loop g b).pv,.int a]=gF (k+2) 12 [(St.loop g b).pv,.int a]:=by
   rw[g_z8,aC rfl]
   show fin (kJ (gF (k+2)) [.v (.obj 13 [g.pv,b.pv]),.v (.int a)])=_
   have er:gF (k+2) 12 [.obj 13 [g.pv,b.pv],.int a]= .ok (az (Dr (.loop g b) a)):=er
   unfold kJ
   have es:St.pv (.loop g b)= .obj 13 [g.pv,b.pv]:=rfl
   simp[er,es]
  exact e0.trans er
def Gd(t:St)(a:Int)(l:St)(s:Int)(d:Str×Int):Prop:=d.1=(l.first s).1/\(((l.first s).2=none/\d.2=0)\/ ∃(j:Nat) (l':St),d.2=a+1+(j:Int)/\t.ders[j]? =some l'/\(l.first s).2=some l')
theorem r6{h t:St}{a:Int}{l:St}{s:Int}{f k:Rw}(g1:Gd h a l s (f s))(g2:Gd t (a+(h.ders.length:Int)) t s (k s)):Gd (.row h t) a (.row l t) s (eN f k s):=by
 obtain⟨e1,q1⟩:=g1
 obtain⟨e2,q2⟩:=g2
 unfold eN Gd
 have er:(St.row l t).first s=if (l.first s).1="done" then t.first s else((l.first s).1,(l.first s).2.map fun l=> .row l t):=rfl
 rw[er]
 by_cases hd:(l.first s).1="done"
 ·rw[if_pos (e1.trans hd)]
  refine⟨by rw[if_pos hd];exact e2,?_⟩
  rw[if_pos hd]
  rcases q2 with⟨z,y⟩|⟨j,l',y,m,z⟩
  ·exact .inl ⟨z,y⟩
  ·refine .inr ⟨h.ders.length+j,l',by rw[y];omega,?_,z⟩
   show(h.ders.map (fun l=>St.row l t)++t.ders)[h.ders.length+j]? =_
   rw[List.getElem?_append_right (by rw[List.length_map];omega),List.length_map,Nat.add_sub_cancel_left]
   exact m
 ·rw[if_neg (fun z=>hd (e1.symm.trans z))]
  refine⟨by rw[if_neg hd];exact e1,?_⟩
  rw[if_neg hd]
  rcases q1 with⟨z,y⟩|⟨j,l',y,m,z⟩
  ·exact .inl ⟨by rw[z];rfl,y⟩
  ·refine .inr ⟨j,.row l' t,y,?_,by rw[z];rfl⟩
   show(h.ders.map (fun l=>St.row l t)++t.ders)[j]? =_
   have hj:=(List.getElem?_eq_some_iff.mp m).1
   rw[List.getElem?_append_left (by rw[List.length_map];exact hj),List.getElem?_map,m]
   rfl
theorem gw:∀(t:St) (a:Int),(∀s,Gd t a t s ((Dr t a).1 s))/\ ∀(k:Nat) (f:Rw) (l:St),(Dr t a).2[k]? =some f->t.ders[k]? =some l->∀s,Gd t a l s (f s)
 |.skip,a=>⟨fun s=>⟨rfl,.inl ⟨rfl,rfl⟩⟩,fun k f l h=>by cases h⟩
 |.stop,a=>⟨fun s=>⟨rfl,.inl ⟨rfl,rfl⟩⟩,fun k f l h=>by cases h⟩
 |.deed c,a=>by
  refine⟨fun s=>⟨rfl,.inr ⟨0,.skip,by show a+1=a+1+((0:Nat):Int);omega,rfl,rfl⟩⟩,fun k f l h h' s=> ?_⟩
  cases k with
  |zero=>cases h;cases h';exact⟨rfl,.inl ⟨rfl,rfl⟩⟩
  |succ k=>cases h
 |.row h t,a=>by
  obtain⟨h1,h2⟩:=gw h a
  obtain⟨t1,t2⟩:=gw t (a+(h.ders.length:Int))
  refine⟨fun s=>r6 (h1 s) (t1 s),fun k f l e1 e2 s=> ?_⟩
  have e1:((Dr h a).2.map (fun f=>eN f (Dr t (a+(h.ders.length:Int))).1)++(Dr t (a+(h.ders.length:Int))).2)[k]? =some f:=e1
  have e2:(h.ders.map (fun l=>St.row l t)++t.ders)[k]? =some l:=e2
  have hl:=cD h a
  by_cases hk:k<h.ders.length
  ·rw[List.getElem?_append_left (by rw[List.length_map,hl];exact hk),List.getElem?_map]at e1
   rw[List.getElem?_append_left (by rw[List.length_map];exact hk),List.getElem?_map]at e2
   obtain⟨f',ef,rfl⟩:=Option.map_eq_some_iff.mp e1
   obtain⟨l',el,rfl⟩:=Option.map_eq_some_iff.mp e2
   exact r6 (h2 k f' l' ef el s) (t1 s)
  ·rw[List.getElem?_append_right (by rw[List.length_map,hl];omega),List.length_map,hl]at e1
   rw[List.getElem?_append_right (by rw[List.length_map];omega),List.length_map]at e2
   obtain⟨g1,g2⟩:=t2 _ f l e1 e2 s
   refine⟨g1,?_⟩
   rcases g2 with z|⟨j,l',y,m,z⟩
   ·exact .inl z
   ·refine .inr ⟨h.ders.length+j,l',by rw[y];omega,?_,z⟩
    show(h.ders.map (fun l=>St.row l t)++t.ders)[h.ders.length+j]? =_
    rw[List.getElem?_append_right (by rw[List.length_map];omega),List.length_map,Nat.add_sub_cancel_left]
    exact m
 |.choice g y n,a=>by
  obtain⟨h1,h2⟩:=gw y a
  obtain⟨t1,t2⟩:=gw n (a+(y.ders.length:Int))
  have up1:∀{l s d},Gd y a l s d->Gd (.choice g y n) a l s d:=fun {l s d} q=>⟨q.1,q.2.imp id fun⟨j,l',e,m,z⟩=>⟨j,l',e,by
   show(y.ders++n.ders)[j]? =_
   rw[List.getElem?_append_left (List.getElem?_eq_some_iff.mp m).1];exact m,z⟩⟩
  have up2:∀{l s d},Gd n (a+(y.ders.length:Int)) l s d->Gd (.choice g y n) a l s d:=fun {l s d} q=>⟨q.1,q.2.imp id fun⟨j,l',e,m,z⟩=>⟨y.ders.length+j,l',by rw[e];omega,by
   show(y.ders++n.ders)[y.ders.length+j]? =_
   rw[List.getElem?_append_right (by omega),Nat.add_sub_cancel_left];exact m,z⟩⟩
  refine⟨fun s=> ?_,fun k f l e1 e2 s=> ?_⟩
  ·have ef:(St.choice g y n).first s=if g.at s=true then y.first s else n.first s:=rfl
   show Gd (.choice g y n) a (.choice g y n) s (if g.at s=true then(Dr y a).1 s else(Dr n (a+(y.ders.length:Int))).1 s)
   unfold Gd
   rw[ef]
   by_cases hg:g.at s=true
   ·rw[if_pos hg,if_pos hg];exact up1 (h1 s)
   ·rw[if_neg hg,if_neg hg];exact up2 (t1 s)
  ·have e1:((Dr y a).2++(Dr n (a+(y.ders.length:Int))).2)[k]? =some f:=e1
   have e2:(y.ders++n.ders)[k]? =some l:=e2
   have hl:=cD y a
   by_cases hk:k<y.ders.length
   ·rw[List.getElem?_append_left (by rw[hl];exact hk)]at e1
    rw[List.getElem?_append_left hk]at e2
    exact up1 (h2 k f l e1 e2 s)
   ·rw[List.getElem?_append_right (by rw[hl];omega),hl]at e1
    rw[List.getElem?_append_right (by omega)]at e2
    exact up2 (t2 _ f l e1 e2 s)
 |.loop g b,a=>by
  obtain⟨h1,h2⟩:=gw b a
  have up:∀s,Gd (.loop g b) a (.loop g b) s (ldoor (g.at s) ((Dr b a).1 s)):=fun s=>by
   obtain⟨e1,q1⟩:=h1 s
   unfold Gd ldoor St.first
   by_cases hg:g.at s=true
   ·rw[if_pos hg,if_pos hg]
    by_cases hd:(b.first s).1="done"
    ·rw[if_pos (e1.trans hd),if_pos hd]
     exact⟨rfl,.inl ⟨rfl,rfl⟩⟩
    ·rw[if_neg (fun z=>hd (e1.symm.trans z)),if_neg hd]
     refine⟨e1,?_⟩
     rcases q1 with⟨z,y⟩|⟨j,l',y,m,z⟩
     ·exact .inl ⟨by rw[z];rfl,y⟩
     ·refine .inr ⟨j,.row l' (.loop g b),y,?_,by rw[z];rfl⟩
      show(b.ders.map (fun l=>St.row l (.loop g b)))[j]? =_
      rw[List.getElem?_map,m];rfl
   ·rw[if_neg hg,if_neg hg]
    exact⟨rfl,.inl ⟨rfl,rfl⟩⟩
  refine⟨up,fun k f l e1 e2 s=> ?_⟩
  have e1:((Dr b a).2.map fun f=>eN f fun s=>ldoor (g.at s) ((Dr b a).1 s))[k]? =some f:=e1
  have e2:(b.ders.map (fun l=>St.row l (.loop g b)))[k]? =some l:=e2
  rw[List.getElem?_map]at e1 e2
  obtain⟨f',ef,rfl⟩:=Option.map_eq_some_iff.mp e1
  obtain⟨l',el,rfl⟩:=Option.map_eq_some_iff.mp e2
  obtain⟨g1,g2⟩:=h2 k f' l' ef el s
  have gl:=up s
  unfold Gd eN
  have er:(St.row l' (.loop g b)).first s=if (l'.first s).1="done" then(St.loop g b).first s else((l'.first s).1,(l'.first s).2.map fun l=> .row l (.loop g b)):=rfl
  rw[er]
  by_cases hd:(l'.first s).1="done"
  ·rw[if_pos (g1.trans hd),if_pos hd]
   exact gl
  ·rw[if_neg (fun z=>hd (g1.symm.trans z)),if_neg hd]
   refine⟨g1,?_⟩
   rcases g2 with⟨z,y⟩|⟨j,l2,y,m,z⟩
   ·exact .inl ⟨by rw[z];rfl,y⟩
   ·refine .inr ⟨j,.row l2 (.loop g b),y,?_,by rw[z];rfl⟩
    show(b.ders.map (fun l=>St.row l (.loop g b)))[j]? =_
    rw[List.getElem?_map,m];rfl
end M63
end
noncomputable section
namespace M63
open PySem L2 DN
def rwN(t:St):Nat->Rw
 |0=>(Dr t 0).1
 |k+1=>(Dr t 0).2.getD k fun _=>("done",0)
def mzOf(t:St)(ys:List Sy)(fit:Tr):Mz where
 what r s:=.(Y).1
 there r s:=.(Y).2.toNat
 brk r s:=decide (.(Y).1="done") && !(fit.f s)
 wy d s:=letm ys d s &&& gdS ys
 N:=t.ders.length+1
theorem iE(t:St)(ho:t.ok){r s:Nat}(hr:r<t.ders.length+1):.(Y).2=((.(Y).2.toNat:Nat):Int)/\(isEnd .(Y).1\/(bL .(Y).1/\(rwN t r (s:Int)).2.toNat<t.ders.length+1)):=by
 obtain⟨h1,h2⟩:=gw t 0
 have go:∀{l:St} {d:Str×Int},l.ok->Gd t 0 l (s:Int) d->d.2=((d.2.toNat:Nat):Int)/\(isEnd d.1\/(bL d.1/\d.2.toNat<t.ders.length+1)):=by
  intro l d hl ⟨e1,e2⟩
  have hk:=cZ l (s:Int) hl
  rcases e2 with⟨z,e⟩|⟨j,l',e,m,z⟩
  ·refine⟨by rw[e];rfl,.inl ?_⟩
   rcases hk with⟨q,_⟩|⟨_,l',q⟩
   ·rw[e1];exact q
   ·rw[z]at q;cases q
  ·have hj:=(List.getElem?_eq_some_iff.mp m).1
   refine⟨by rw[e];omega,.inr ⟨?_,by rw[e];omega⟩⟩
   rcases hk with⟨_,q⟩|⟨q,_⟩
   ·rw[z]at q;cases q
   ·rw[e1];exact q
 cases r with
 |zero=>exact go ho (h1 (s:Int))
 |succ k =>
  have hk:k<t.ders.length:=by omega
  have hk':k<(Dr t 0).2.length:=by rw[cD];exact hk
  have e:rwN t (k+1)=(Dr t 0).2[k]:=by
   show(Dr t 0).2.getD k _=_
   rw[List.getD_eq_getElem?_getD,List.getElem?_eq_getElem hk'];rfl
  rw[e]
  exact go (f9 t _ ho (List.getElem_mem hk)) (h2 k _ _ (List.getElem?_eq_getElem hk') (List.getElem?_eq_getElem hk) (s:Int))
theorem fO(t:St)(ho:t.ok)(ys:List Sy)(fit:Tr):.(A).ok:=by
 refine⟨fun r s hr hs=>(iE t ho hr).2,fun r s h=> ?_,fun d s=> ?_⟩
 ·have h:(decide (.(Y).1="done") && !(fit.f s))=true:=h
  rw[Bool.and_eq_true,decide_eq_true_eq]at h
  exact h.1
 ·exact Nat.lt_of_le_of_lt Nat.and_le_right (zU _ (pO ys))
theorem kt(t:St){r:Nat}(hr:r<t.ders.length+1):fIx (az (Dr t 0)) .(Ak)= .ok (rpv (rwN t r)):=by
 cases r with
 |zero=>exact oN _ _
 |succ k =>
  have hk':k<(Dr t 0).2.length:=by rw[cD];omega
  show(match gN (rpv (Dr t 0).1::(Dr t 0).2.map rpv) ((k+1:Nat):Int)with|some w=>Rx.ok w|none=> .bad)=_
  rw[dE (v:=rpv (rwN t (k+1))) (by
   rw[List.getElem?_cons_succ,List.getElem?_map,List.getElem?_eq_getElem hk']
   show some (rpv (Dr t 0).2[k])=some (rpv ((Dr t 0).2.getD k _))
   rw[List.getD_eq_getElem?_getD,List.getElem?_eq_getElem hk'];rfl)]
def bV(t:St):PV:= .obj 16 [t.pv,az (Dr t 0)]
theorem ku(n:Nat)(t:St)(ho:t.ok)(hd:2*t.depth+2<=n)(hl:t.ders.length<=1000):gF (n+1) 52 [t.pv]= .ok (bV t):=by
 have e:=fg t n 0 ho hd hl
 have e0:oI (gF n) [.ini 16 [],.v t.pv]= .nx [.ini 16 [t.pv,az (Dr t 0)],.v t.pv]:=by
  unfold oI
  simp[e]
 have e1:jr 16 2 [false] 2 (oI (gF n)) [t.pv]=(match oI (gF n) [.ini 16 [],.v t.pv]with | .nx ps=>(match ps[(0:Nat)]? with|some (.ini k' fs)=>if k'=16/\fs.length=2 then .ok (.obj 16 fs) else .bad|_=> .bad) | .exc c=> .exc c|_=> .bad):=rfl
 rw[g_zQ,e1,e0]
 rfl
def tM(t:St)(fit:Tr):PV:= .clo 55 [bV t,.int (fit.mk:Nat)]
def bi(t:St)(ys:List Sy)(fit:Tr)(st:Nat):PV:= .obj 15 [ap ys,.int 0,.int (st:Int),tM t fit]
def tell(M:Mz)(r s:Nat):PV:=if M.brk r s=true then .tup [.str "found",.int (r:Int)] else .tup [.str (M.what r s),.int (M.there r s:Nat)]
theorem ni(n:Nat)(t:St)(ho:t.ok)(ys:List Sy)(fit:Tr){r s:Nat}(hr:r<t.ders.length+1)(hs:s<16):mM tC (gF (n+2)) (tM t fit) (.ok [.int (r:Int),.int (s:Int)])= .ok (tell .(A) r s):=by
 have a1:mM tC (gF (n+2)) (tM t fit) (.ok [.int (r:Int),.int (s:Int)])=gF (n+2) 55 [.int (r:Int),.int (s:Int),bV t,.int (fit.mk:Nat)]:=rfl
 have e1:=kt t hr
 have e2:=xz (rwN t r) (s:=(s:Int)) (by omega) (by omega)
 have e3:=gj n fit.mk s
 rw[Ku fit hs]at e3
 have fd:aW cT (bV t)= .ok (az (Dr t 0)):=rfl
 have hz:=(iE t ho (s:=s) hr).1
 rw[a1,g_zT,aC rfl]
 show fin (tL (gF (n+1)) [.v .(Ak),.v .(An),.v (bV t),.v (.int (fit.mk:Nat)),.no])=_
 have hd:kL .(Y)= .tup [.str .(Y).1,.int (.(Y).2.toNat:Nat)]:=by rw[<-hz];rfl
 unfold tL tell
 show _=Rx.ok (if (decide (.(Y).1="done") && !(fit.f s))=true then _ else PV.tup [.str .(Y).1,.int (.(Y).2.toNat:Nat)])
 rw[<-hd]
 by_cases hw:.(Y).1="done"
 ·have hb:(.(Y).1 == "done")=true:=by simpa using hw
  cases hf:fit.f s
  ·simp[fd,e1,e2,zb,hb,e3,hw,hf]
  ·simp[fd,e1,e2,zb,hb,e3,hw,hf]
 ·have hb:(.(Y).1 == "done")=false:=by simpa using hw
  simp[fd,e1,e2,zb,hb,hw]
theorem iF(n:Nat)(t:St)(ys:List Sy)(bef fit:Tr)(hb:bef.ok)(hf:fit.ok)(h1:bef.depth<n)(h2:fit.depth<n):gF (n+2) 16 [bef.pv,bV t,fit.pv,ap ys]= .ok (bi t ys fit .(Z)):=by
 have e1:=jz fit n hf h2
 have e2:=jz bef n hb h1
 have e3:=za ys n
 have e4:=dM (gdS ys) bef.mk
 rw[g_zg,aC rfl]
 show fin (sR (gF (n+1)) [.v bef.pv,.v (bV t),.v fit.pv,.v (ap ys),.no,.no])=_
 unfold sR
 have c0:jt [1,5] [.v bef.pv,.v (bV t),.v fit.pv,.v (ap ys),.no,.v (.int (fit.mk:Nat))]= .ok [bV t,.int (fit.mk:Nat)]:=rfl
 simp[e1,e2,e3,e4,c0]
 rfl
theorem oO(f g:Nat->Bool):∀n,maskN (fun s=>f s && g s) n+maskN (fun s=>f s && !g s) n=maskN f n
 |0=>rfl
 |n+1=>by
  have:=oO f g n
  unfold maskN
  cases f n <;> cases g n <;> simp <;> omega
theorem lK{m:Nat}(h:m<65536):maskN m.testBit 16=m:=yW (eT _ 16) h (fun s hs q=>by rw[cX]at q;simpa[hs]using q) (fun s hs q=>by rw[cX];simpa[hs]using q)
theorem zc{w r:Nat}(h:w<65536):Builtin.bitAnd (w:Int) (Builtin.bitNot (r:Int))=((maskN (fun s=>w.testBit s && !r.testBit s) 16:Nat):Int):=by
 have e1:Builtin.bitAnd (w:Int) (Builtin.bitNot (r:Int))=(w:Int)-((w &&& r:Nat):Int):=by
  unfold Builtin.bitAnd Builtin.bitNot
  have h1:(0:Int)<=(w:Int):=by omega
  have h2:¬(0:Int)<= -(r:Int)-1:=by omega
  simp only[h1,h2,decide_true,decide_false]
  have:(-(-(r:Int)-1)-1).toNat=r:=by omega
  rw[this];simp
 have e2:=oO w.testBit r.testBit 16
 rw[lK h]at e2
 have e3:maskN (fun s=>w.testBit s && r.testBit s) 16=w &&& r:=by
  rw[<-lK (m:=w &&& r) (Nat.lt_of_le_of_lt Nat.and_le_left h)]
  congr 1
  funext s
  rw[Nat.testBit_and]
 rw[e3]at e2
 rw[e1];omega
theorem xc{α :Type}{k j:Key}{w: α}:∀{ks:List Key} {xs:List α},ks.length=xs.length->bT ks (List.zipWith (fun k' x=>if k'=k then w else x) ks xs) j=if j=k then(if inK ks k=true then some w else none) else bT ks xs j
 |[],xs,_=>by cases xs <;> simp[bT,inK]
 |a::ks,[],h=>by simp at h
 |a::ks,x::xs,h=>by
  have ih:=xc (k:=k) (j:=j) (w:=w) (ks:=ks) (xs:=xs) (by simpa using h)
  rw[List.zipWith_cons_cons,bT,ih]
  by_cases ej:a=j
  ·subst ej
   by_cases ek:a=k
   ·subst ek;simp[inK]
   ·simp[ek,bT]
  ·rw[if_neg ej]
   by_cases ejk:j=k
   ·subst ejk
    have hi:inK (a::ks) j=inK ks j:=by
     unfold inK
     rw[List.any_cons,decide_eq_false ej,Bool.false_or]
    rw[if_pos rfl,if_pos rfl,hi]
   ·simp[ejk,bT,ej]
theorem r7{α :Type}{k j:Key}{w: α}:∀{ks:List Key} {xs:List α},ks.length=xs.length->k∉ks->bT (ks++[k]) (xs++[w]) j=if j=k then some w else bT ks xs j
 |[],[],_,_=>by simp[bT,eq_comm]
 |[],x::xs,h,_=>by simp at h
 |a::ks,[],h,_=>by simp at h
 |a::ks,x::xs,h,hk=>by
  have ih:=r7 (k:=k) (j:=j) (w:=w) (ks:=ks) (xs:=xs) (by simpa using h) fun m=>hk (List.mem_cons_of_mem _ m)
  rw[List.cons_append,List.cons_append,bT,ih]
  by_cases ej:a=j
  ·subst ej
   have:a≠k:=fun e=>hk (by rw[e];exact List.mem_cons_self)
   simp[this,bT]
  ·simp[ej,bT]
theorem zd{α :Type}{k j:Key}{w: α}{ks:List Key}{xs:List α}(h:ks.length=xs.length):bT (dB ks k) (cV ks xs k w) j=if j=k then some w else bT ks xs j:=by
 unfold dB cV
 by_cases e:inK ks k=true
 ·rw[if_pos e,if_pos e,xc h,if_pos e]
 ·rw[if_neg e,if_neg e,r7 h fun m=>e (mG.mpr m)]
def CW(rc:Nat->Nat)(ks:List Key)(xs:List PV):Prop:=ks.length=xs.length/\ ∀r:Nat,(bT ks xs (.inl (r:Int))).getD (.int 0)= .int (rc r:Nat)
theorem ze{rc:Nat->Nat}{ks:List Key}{xs:List PV}(h:CW rc ks xs)(r m:Nat):CW (upd rc r m) (dB ks (.inl (r:Int))) (cV ks xs (.inl (r:Int)) .(Ar)):=by
 refine⟨qz h.1,fun q=> ?_⟩
 rw[zd h.1]
 unfold upd
 by_cases e:q=r
 ·subst e;simp
 ·have:¬(Sum.inl ((q:Nat):Int):Key)= .inl ((r:Nat):Int):=fun z=>e (by have:=Sum.inl.inj z;omega)
  rw[if_neg this,if_neg e];exact h.2 q
theorem pS(ks:List Key)(k:Key):(dB ks k).length<=ks.length+1:=by
 unfold dB;split <;> simp
def Vs.d:Vs->Str
 |.root _ _=>"" |.more _ _ _ d=>d
def Vs.pv:Vs->PV
 |.root r s=> .tup [.int (r:Int),.int (s:Int),.str "",.non]
 |.more p r s d=> .tup [.int (r:Int),.int (s:Int),.str d,p.pv]
theorem Jx(v:Vs):fIx v.pv (.int 0)= .ok (.int (v.nd.1:Int)):=by cases v <;> rfl
theorem FU(v:Vs):fIx v.pv (.int 1)= .ok (.int (v.nd.2:Int)):=by cases v <;> rfl
end M63
end
noncomputable section
namespace M63
open PySem L2 DN
theorem iG(M:Mz)(h:M.ok){r s:Nat}(hr:r<M.N)(hs:s<16):∃w p,tell M r s= .tup [.str w,.int p]/\fIx (tell M r s) (.int 0)= .ok (.str w)/\fIx (tell M r s) (.int 1)= .ok (.int p)/\((M.brk r s=true/\w="found")\/(M.brk r s=false/\w=M.what r s/\p=(M.there r s:Nat)/\(w == ("found":Str))=false)):=by
 unfold tell
 split
 ·rename_i hb
  exact⟨_,_,rfl,rfl,rfl,.inl ⟨hb,rfl⟩⟩
 ·rename_i hb
  refine⟨_,_,rfl,rfl,rfl,.inr ⟨by simpa using hb,rfl,rfl,?_⟩⟩
  rcases h.kind r s hr hs with q|q
  ·rcases q with q|q|q <;> rw[q] <;> decide +kernel
  ·rcases q.1 with q|q|q|q|q <;> rw[q] <;> decide +kernel
theorem Cl{w:Str}(h:isEnd w):cK true (.str w) (.tup iZ)= .ok (.bl false):=by
 rcases h with rfl|rfl|rfl <;> rfl
theorem xf{w:Str}(h:bL w):cK true (.str w) (.tup iZ)= .ok (.bl true):=by
 rcases h with rfl|rfl|rfl|rfl|rfl <;> rfl
noncomputable section
variable(n:Nat)(t:St)(ho:t.ok)(ys:List Sy)(fit:Tr)(st:Nat)
abbrev jv(ks:List Key)(xs:List PV)(vs:List Vs)(i:Nat)(s4 s5 s6:Sl):aT:=[.v .(Ah),.own (.dic ks xs),.own (.lst (vs.map Vs.pv)),.v (.int (i:Int)),s4,s5,s6]
theorem FV{vs:List Vs}{i:Nat}{v:Vs}(h:vs[i]? =some v):fIx (.lst (vs.map Vs.pv)) (.int (i:Int))= .ok v.pv:=by
 show(match gN (vs.map Vs.pv) (i:Int)with|some w=>Rx.ok w|none=> .bad)=_
 rw[dE (v:=v.pv) (by rw[List.getElem?_map,h];rfl)]
include ho in
theorem nj{vs:List Vs}{i:Nat}{v:Vs}(hv:vs[i]? =some v)(h1:v.nd.1<t.ders.length+1)(h2:v.nd.2<16)(ks:List Key)(xs:List PV)(s4 s5 s6:Sl)(rest:DS) :
  al (aF 4 (d2 fIx (dSee 2) (dSee 3))) (al (jq 3 (fun i j=>i+j) (dC (.int 1))) (al (aF 5 (gd tC (gF (n+2)) dU (ae 0) (dCons (d2 fIx (dSee 4) (dC (.int 0))) (dCons (d2 fIx (dSee 4) (dC (.int 1))) dNil)))) rest)) (jv t ys fit st ks xs vs i s4 s5 s6)
   =rest (jv t ys fit st ks xs vs (i+1) (.v v.pv) (.v (tell .(A) v.nd.1 v.nd.2)) s6):=by
 have e1:=FV hv
 have e2:=Jx v
 have e3:=FU v
 have e4:=ni n t ho ys fit h1 h2
 have e5:aW dU .(Ah)= .ok (tM t fit):=rfl
 have eA:jq 3 (fun i j=>i+j) (dC (.int 1)) [.v .(Ah),.own (.dic ks xs),.own (.lst (vs.map Vs.pv)),.v (.int (i:Int)),.v v.pv,s5,s6]= .nx [.v .(Ah),.own (.dic ks xs),.own (.lst (vs.map Vs.pv)),.v (.int ((i+1:Nat):Int)),.v v.pv,s5,s6]:=rfl
 simp[e1,e2,e3,e4,e5,eA,Ow.pv, -qv, -cS]
 rfl
include ho in
theorem pT{vs:List Vs}{i:Nat}{v:Vs}(hv:vs[i]? =some v)(h1:v.nd.1<t.ders.length+1)(h2:v.nd.2<16)(hb:.(A).brk v.nd.1 v.nd.2=true)(ks:List Key)(xs:List PV)(s4 s5 s6:Sl){w:PV}(hw:gF (n+2) 6 [v.pv]= .ok w) :
  fD (gF (n+2)) (jv t ys fit st ks xs vs i s4 s5 s6)= .ret (.tup [.dic ks xs,w]):=by
 unfold fD
 rw[nj n t ho ys fit st hv h1 h2]
 obtain⟨z,p,e0,e1,e2,⟨_,rfl⟩|⟨q,_⟩⟩:=iG .(A) (fO t ho ys fit) h1 h2
 ·simp[e1,hw, -cS,Ow.pv]
 ·rw[hb]at q;cases q
include ho in
theorem xg{vs:List Vs}{i:Nat}{v:Vs}(hv:vs[i]? =some v)(h1:v.nd.1<t.ders.length+1)(h2:v.nd.2<16)(hb:.(A).brk v.nd.1 v.nd.2=false)(he:isEnd (.(A).what v.nd.1 v.nd.2))(ks:List Key)(xs:List PV)(s4 s5 s6:Sl) :
  ∃s4' s5',fD (gF (n+2)) (jv t ys fit st ks xs vs i s4 s5 s6)= .nx (jv t ys fit st ks xs vs (i+1) s4' s5' s6):=by
 unfold fD
 rw[nj n t ho ys fit st hv h1 h2]
 refine⟨.v v.pv,.v (tell .(A) v.nd.1 v.nd.2),?_⟩
 obtain⟨z,p,e0,e1,e2,⟨q,_⟩|⟨_,rfl,rfl,q⟩⟩:=iG .(A) (fO t ho ys fit) h1 h2
 ·rw[hb]at q;cases q
 ·have e3:=Cl he
  simp[e1,q,e3, -cS,Ow.pv]
include ho in
theorem tN{vs:List Vs}{i:Nat}{v:Vs}{rc:Nat->Nat}(hv:vs[i]? =some v)(h1:v.nd.1<t.ders.length+1)(h2:v.nd.2<16)(hb:.(A).brk v.nd.1 v.nd.2=false)(he:¬isEnd (.(A).what v.nd.1 v.nd.2)){ks:List Key}{xs:List PV}(s4 s5 s6:Sl)(hd:CW rc ks xs)(hk:ks.length<=20000)(hvl:vs.length<=20000) :
  ∃ks' xs' s4' s5' s6',fD (gF (n+2)) (jv t ys fit st ks xs vs i s4 s5 s6)= .nx (jv t ys fit st ks' xs' (vs++(bits (frs .(A) rc v.nd)).map fun s=> .more v (.(A).there v.nd.1 v.nd.2) s (.(A).what v.nd.1 v.nd.2)) (i+1) s4' s5' s6')
   /\CW (upd rc (.(A).there v.nd.1 v.nd.2) (rc (.(A).there v.nd.1 v.nd.2) ||| frs (mzOf t ys fit) rc v.nd)) ks' xs'/\ks'.length<=ks.length+1:=by
 have hM:=fO t ho ys fit
 have hD:bL (.(A).what v.nd.1 v.nd.2):=by
  rcases hM.kind _ _ h1 h2 with q|q
  ·exact absurd q he
  ·exact q.1
 obtain⟨z,p,e0,e1,e2,⟨q,_⟩|⟨_,rfl,rfl,q⟩⟩:=iG .(A) hM h1 h2
 ·rw[hb]at q;cases q
 unfold fD
 rw[nj n t ho ys fit st hv h1 h2]
 generalize hT:tell .(A) v.nd.1 v.nd.2=T at *
 generalize hR:.(A).there v.nd.1 v.nd.2=R at *
 have e3:=xf hD
 have e4:bp bQ (gF (n+2)) (ap ys) [.str (.(A).what v.nd.1 v.nd.2),.int (v.nd.2:Int)]= .ok (.int ((.(A).wy (.(A).what v.nd.1 v.nd.2) v.nd.2:Nat):Int)):=iC ys (n+1) hD h2
 have e5:aW dF .(Ah)= .ok (ap ys):=rfl
 have e6:=hd.2 R
 have e7:Builtin.bitAnd ((.(A).wy (.(A).what v.nd.1 v.nd.2) v.nd.2:Nat):Int) (Builtin.bitNot (rc R:Nat))=((frs .(A) rc v.nd:Nat):Int):=by
  rw[zc (hM.wy _ _),<-hR];rfl
 have e8:=sd (rc R) (frs .(A) rc v.nd)
 have e9:=dX n (frs .(A) rc v.nd)
 have hk':ks.length<sizeLine:=by show _<16777216;omega
 have v1:=FU v
 refine⟨dB ks (.inl (R:Int)),cV ks xs (.inl (R:Int)) (.int ((rc R ||| frs (mzOf t ys fit) rc v.nd:Nat):Int)),.v v.pv,.v T,.v (.int (frs (mzOf t ys fit) rc v.nd:Nat)),?_,ze hd R _,pS _ _⟩
 generalize hW:.(A).what v.nd.1 v.nd.2=W at *
 generalize hF:frs .(A) rc v.nd=F at *
 have hc:∀ks' xs',dComp ["setting"] [("visit",4),("told",5)] (aI (dCall (gF (n+2) 1) (dCons (ae 6) dNil))) (ar 0) bM (bW (dCons (d2 fIx (dSee 2) (dC (.int 1))) (dCons (ae 0) (dCons (d2 fIx (dSee 2) (dC (.int 0))) .(O))))) (jv t ys fit st ks' xs' vs (i+1) (.v v.pv) (.v T) (.v (.int (F:Nat))))= .ok ((bits F).map fun s=>(Vs.more v R s W).pv):=fun ks' xs'=>by
  unfold dComp
  have hi:aI (dCall (gF (n+2) 1) (dCons (ae 6) dNil)) (jv t ys fit st ks' xs' vs (i+1) (.v v.pv) (.v T) (.v (.int (F:Nat))))= .ok ((bits F).map fun(i:Nat)=>PV.int (i:Int)):=by
   simp[e9]
  rw[hi,ao,if_pos (by rw[List.length_map];have:=ff F;show _<=16777216;omega)]
  refine bC (ps0:=[.v v.pv,.v T]) (fun(i:Nat)=>PV.int (i:Int)) (fun s=>(Vs.more v R s W).pv) (bits F) .no fun s hs=> ?_
  simp[e1,e2, -cS]
  rfl
 have hl:(vs.map Vs.pv).length+((bits F).map fun s=>(Vs.more v R s W).pv).length<=sizeLine:=by
  rw[List.length_map,List.length_map];have:=ff F;show _<=16777216;omega
 have hq:(W == ("found":Str))=false:=q
 simp only[ay,cq,v6,v5,jV,zF,List.getElem?_cons_zero,List.getElem?_cons_succ,ao,dq,e1,e2]
 have c1:cB (.str W) (.str "found")= .ok (.bl false):=by
  show Rx.ok (PV.bl (W == ("found":Str)))=_
  rw[hq]
 simp only[c1,ao,eV,eL,aj]
 have c2:aS (d2 (cK true) (d2 fIx (dSee 5) (dC (.int 0))) (dC (.tup iZ))) (jv t ys fit st ks xs vs (i+1) (.v v.pv) (.v T) s6)= .ok true:=by
  show((((fIx T (.int 0)).bind fun x=>(Rx.ok (PV.tup iZ)).bind fun y=>cK true x y)).bind _)=_
  rw[e1,ao,ao,e3];rfl
 have g1:eM (dSee 1) .(Aj) (dC (.int 0)) (jv t ys fit st ks xs vs (i+1) (.v v.pv) (.v T) s6)= .ok (.int (rc R:Nat)):=by
  show((Rx.ok (PV.dic ks xs)).bind fun x=>((fIx T (.int 1)).bind fun y=>(Rx.ok (PV.int 0)).bind fun z=>match x,gB y with
   |.dic ks xs,some k=>if ks.length=xs.length then .ok ((bT ks xs k).getD z) else .bad
   |_,_=> .bad))=_
  rw[e2]
  show(if ks.length=xs.length then Rx.ok ((bT ks xs (.inl (R:Int))).getD (.int 0)) else .bad)=_
  rw[if_pos hd.1,e6]
 have g1':eM (dSee 1) .(Aj) (dC (.int 0)) (jv t ys fit st ks xs vs (i+1) (.v v.pv) (.v T) (.v (.int (F:Int))))= .ok (.int (rc R:Nat)):=g1
 have g2:aF 6 (d2 gP (aM bQ (gF (n+2)) (ba dF (ae 0)) (dCons (d2 fIx (dSee 5) (dC (.int 0))) (dCons (d2 fIx (dSee 4) (dC (.int 1))) dNil))) (yK (eM (dSee 1) .(Aj) (dC (.int 0))))) (jv t ys fit st ks xs vs (i+1) (.v v.pv) (.v T) s6)= .nx (jv t ys fit st ks xs vs (i+1) (.v v.pv) (.v T) (.v (.int (F:Int)))):=by
  have h0:aM bQ (gF (n+2)) (ba dF (ae 0)) (dCons (d2 fIx (dSee 5) (dC (.int 0))) (dCons (d2 fIx (dSee 4) (dC (.int 1))) dNil)) (jv t ys fit st ks xs vs (i+1) (.v v.pv) (.v T) s6)= .ok (.int ((.(A).wy W v.nd.2:Nat):Int)):=by
   simp[e5,e1,v1,e4, -cS]
  rw[fK,v5,h0,F2,g1,ao,dq]
  show(Rx.ok (PV.int (Builtin.bitAnd ((.(A).wy W v.nd.2:Nat):Int) (Builtin.bitNot (rc R:Nat))))).st _=_
  rw[e7]
  rfl
 have g3:jZ 1 .(Aj) (d2 Gc (eM (dSee 1) .(Aj) (dC (.int 0))) (dSee 6)) (jv t ys fit st ks xs vs (i+1) (.v v.pv) (.v T) (.v (.int (F:Int))))= .nx (jv t ys fit st (dB ks (.inl (R:Int))) (cV ks xs (.inl (R:Int)) (.int ((rc R ||| F:Nat):Int))) vs (i+1) (.v v.pv) (.v T) (.v (.int (F:Int)))):=by
  have h0:d2 Gc (eM (dSee 1) .(Aj) (dC (.int 0))) (dSee 6) (jv t ys fit st ks xs vs (i+1) (.v v.pv) (.v T) (.v (.int (F:Int))))= .ok (.int ((rc R ||| F:Nat):Int)):=by
   rw[v5,g1']
   show Rx.ok (PV.int (Builtin.bitOr (rc R:Nat) (F:Nat)))=_
   rw[e8]
  have h1:d2 fIx (dSee 5) (dC (.int 1)) (jv t ys fit st ks xs vs (i+1) (.v v.pv) (.v T) (.v (.int (F:Int))))= .ok (.int (R:Int)):=e2
  unfold jZ
  rw[h0,bn,h1,bn]
  show(if ks.length<sizeLine then _ else _)=_
  rw[if_pos hk']
  rfl
 have g4:∀ks' xs',cx (vm 2 (dComp ["setting"] [("visit",4),("told",5)] (aI (dCall (gF (n+2) 1) (dCons (ae 6) dNil))) (ar 0) bM (bW (dCons (d2 fIx (dSee 2) (dC (.int 1))) (dCons (ae 0) (dCons (d2 fIx (dSee 2) (dC (.int 0))) .(O))))))) (jv t ys fit st ks' xs' vs (i+1) (.v v.pv) (.v T) (.v (.int (F:Nat))))= .nx (jv t ys fit st ks' xs' (vs++(bits F).map fun s=> .more v R s W) (i+1) (.v v.pv) (.v T) (.v (.int (F:Nat)))):=fun ks' xs'=>by
  rw[v8,ET]
  show Rx.st ((dComp _ _ _ _ _ _ _).bind _) _=_
  rw[hc ks' xs',ao,if_pos hl]
  show Rs.nx [.v .(Ah),.own (.dic ks' xs'),.own (.lst (vs.map Vs.pv++(bits F).map fun s=>(Vs.more v R s W).pv)),.v (.int ((i+1:Nat):Int)),.v v.pv,.v T,.v (.int (F:Nat))]=_
  rw[show(vs.map Vs.pv++(bits F).map fun s=>(Vs.more v R s W).pv)=(vs++(bits F).map fun s=>Vs.more v R s W).map Vs.pv by rw[List.map_append,List.map_map];rfl]
 rw[cq,c2,on,ay,g2,aj,ay,g3,aj]
 exact g4 _ _
end
end M63
end
noncomputable section
namespace M63
open PySem L2 DN
def jh:List Str->Str
 |[]=>""
 |d::r=>d++jh r
theorem r9(x:Str):x++("":Str)=x:=PySem.Str.append_empty x
theorem zf(x:Str):("":Str)++x=x:=PySem.Str.empty_append x
theorem j6{d:Str}(h:bL d):d.length=1:=by rcases h with rfl|rfl|rfl|rfl|rfl <;> decide +kernel
theorem ra:∀l:List Str,(∀d∈l,bL d)->(jh l).length=l.length
 |[],_=>by decide +kernel
 |d::l,h=>by
  show(d++jh l).length=_
  rw[PySem.Str.length_append,j6 (h d List.mem_cons_self),ra l fun e he=>h e (List.mem_cons_of_mem _ he),List.length_cons]
  omega
def Vs.rs:Vs->List Nat
 |.root _ s=>[s] | .more p _ s _=>s::p.rs
def Vs.rd:Vs->List Str
 |.root _ _=>[] | .more p _ _ d=>d::p.rd
theorem pU:∀v:Vs,v.rs.length=v.dep+1
 |.root _ _=>rfl
 |.more p _ _ _=>by simp[Vs.rs,Vs.dep,pU p]
theorem pV:∀v:Vs,v.rd.length=v.dep
 |.root _ _=>rfl
 |.more p _ _ _=>by simp[Vs.rd,Vs.dep,pV p]
theorem nq{M:Mz}{B:List Nd}:∀v:Vs,v.good M B->∀d∈v.rd,bL d
 |.root _ _,_,d,hd=>by cases hd
 |.more p _ _ e,h,d,hd=>by
  rcases List.mem_cons.mp hd with q|q
  ·rw[q];exact h.2.1
  ·exact nq p h.1 d q
theorem xh:∀l:List Str,Txt.join "" l=jh l:=by
 have key:∀l:List Str,Str.join "" l=jh l:=by
  intro l
  induction l with
  |nil=>rfl
  |cons d r ih =>
   cases r with
   |nil=>show d=d++("":Str);rw[r9]
   |cons e r =>
    show d++("":Str)++Str.join "" (e::r)=d++jh (e::r)
    rw[ih,r9]
 intro l
 rw[<-key l]
 exact PySem.StrLaws.glued_eq_join "" l
theorem oP:∀l:List Str,gf (l.map PV.str)=some l
 |[]=>rfl
 |d::l=>by simp[gf,oP l]
theorem pW(l:List Str)(hl:l.length<=20000)(hd:∀d∈l,bL d\/d=""):oz (.str "") (.lst (l.map PV.str))= .ok (.str (jh l)):=by
 have hj:JoinOk "" l=true:=by
  unfold JoinOk
  rw[StrLaws.joinFits (B:=1) (fun y hy=>by rcases hd y hy with(rfl|rfl|rfl|rfl|rfl)|rfl <;> decide +kernel) (by
   have:(("":Str)).length=0:=by decide +kernel
   rw[this];omega)]
  rfl
 unfold oz
 simp only[oP,hj,if_true,xh]
theorem lL(n:Nat):∀(v:Vs) (S D:List PV) (k:Nat),S.length+v.dep<=20000->D.length+v.dep<=20000->bP (dS (aS (gK (dSee 0)))) (j4 (gF n)) (k+v.dep+2) [.v v.pv,.own (.lst S),.own (.lst D)]=some (.nx [.v .non,.own (.lst (S++v.rs.map fun(i:Nat)=>PV.int (i:Int))),.own (.lst (D++v.rd.map PV.str++[.str ""]))])
 |.root r s,S,D,k,h1,h2=>by
  have hS:S.length<sizeLine:=by show _<16777216;omega
  have hD:D.length<sizeLine:=by show _<16777216;omega
  have t1:dS (aS (gK (dSee 0))) [.v (Vs.root r s).pv,.own (.lst S),.own (.lst D)]= .ok (true,[.v (Vs.root r s).pv,.own (.lst S),.own (.lst D)]):=rfl
  have b1:j4 (gF n) [.v (Vs.root r s).pv,.own (.lst S),.own (.lst D)]= .nx [.v .non,.own (.lst (S++[.int (s:Int)])),.own (.lst (D++[.str ""]))]:=by
   have x1:fIx (Vs.root r s).pv (.int 1)= .ok .(An):=rfl
   have x2:fIx (Vs.root r s).pv (.int 2)= .ok (.str ""):=rfl
   have x3:fIx (Vs.root r s).pv (.int 3)= .ok .non:=rfl
   unfold j4
   simp[x1,x2,x3,hS,hD, -cS]
  have t2:dS (aS (gK (dSee 0))) [.v .non,.own (.lst (S++[.int (s:Int)])),.own (.lst (D++[.str ""]))]= .ok (false,[.v .non,.own (.lst (S++[.int (s:Int)])),.own (.lst (D++[.str ""]))]):=rfl
  show bP _ _ ((k+0+1)+1) _=_
  rw[bP,t1]
  simp only[b1]
  rw[bP,t2]
  simp[Vs.rs,Vs.rd]
 |.more p r s d,S,D,k,h1,h2=>by
  have h1:S.length+(p.dep+1)<=20000:=h1
  have h2:D.length+(p.dep+1)<=20000:=h2
  have hS:S.length<sizeLine:=by show _<16777216;omega
  have hD:D.length<sizeLine:=by show _<16777216;omega
  have t1:dS (aS (gK (dSee 0))) [.v (Vs.more p r s d).pv,.own (.lst S),.own (.lst D)]= .ok (true,[.v (Vs.more p r s d).pv,.own (.lst S),.own (.lst D)]):=rfl
  have b1:j4 (gF n) [.v (Vs.more p r s d).pv,.own (.lst S),.own (.lst D)]= .nx [.v p.pv,.own (.lst (S++[.int (s:Int)])),.own (.lst (D++[.str d]))]:=by
   have x1:fIx (Vs.more p r s d).pv (.int 1)= .ok .(An):=rfl
   have x2:fIx (Vs.more p r s d).pv (.int 2)= .ok (.str d):=rfl
   have x3:fIx (Vs.more p r s d).pv (.int 3)= .ok p.pv:=rfl
   unfold j4
   simp[x1,x2,x3,hS,hD, -cS]
  have ih:=lL n p (S++[.int (s:Int)]) (D++[.str d]) k (by simp;omega) (by simp;omega)
  show bP _ _ ((k+p.dep+2)+1) _=_
  rw[bP,t1]
  simp only[b1]
  rw[ih]
  simp[Vs.rs,Vs.rd]
def Vs.ss(v:Vs):List Nat:=v.rs.reverse
def Vs.ds(v:Vs):List Str:=v.rd.reverse
def bJ(l:List Nat):PV:= .lst (l.map fun(i:Nat)=>PV.int (i:Int))
def FW(v:Vs):PV:= .tup [bJ v.ss,.str (jh v.ds)]
theorem pX(n:Nat){M:Mz}{B:List Nd}(v:Vs)(h:v.good M B)(hd:v.dep<=19000):gF (n+1) 6 [v.pv]= .ok (FW v):=by
 have e:=lL n v [] [] (99998-v.dep) (by simp;omega) (by simp;omega)
 rw[show 99998-v.dep+v.dep+2=100000 by omega]at e
 rw[g_z6,aC rfl]
 show fin (sK (gF n) [.v v.pv,.no,.no])=_
 have o1:∀s1 s2,gW 1 dNil [.v v.pv,s1,s2]= .nx [.v v.pv,.own (.lst []),s2]:=fun _ _=>rfl
 have o2:∀s1 s2,gW 2 dNil [.v v.pv,s1,s2]= .nx [.v v.pv,s1,.own (.lst [])]:=fun _ _=>rfl
 have ej:=pW (("":Str)::v.ds) (by simp[Vs.ds,pV];omega) (fun d hd=>by
  rcases List.mem_cons.mp hd with q|q
  ·exact .inr q
  ·exact .inl (nq v h d (List.mem_reverse.mp q)))
 have ec:jh (("":Str)::v.ds)=jh v.ds:=zf _
 rw[ec]at ej
 have er:(v.rd.map PV.str++[PV.str ""]).reverse=(("":Str)::v.ds).map PV.str:=by
  rw[List.reverse_append,<-List.map_reverse];rfl
 unfold sK
 rw[ay,o1,aj,ay,o2,aj,ay,gg,e]
 simp only[Option.getD_some,aj,List.nil_append]
 have r1:∀(xs:List PV) (s0 s2:Sl),cx (pz 1) [s0,.own (.lst xs),s2]= .nx [s0,.own (.lst xs.reverse),s2]:=fun _ _ _=>rfl
 have r2:∀(xs:List PV) (s0 s1:Sl),cx (pz 2) [s0,s1,.own (.lst xs)]= .nx [s0,s1,.own (.lst xs.reverse)]:=fun _ _ _=>rfl
 rw[ay,r1,aj,ay,r2,aj,er]
 have es:(v.rs.map fun(i:Nat)=>PV.int (i:Int)).reverse=v.ss.map fun(i:Nat)=>PV.int (i:Int):=by rw[<-List.map_reverse];rfl
 rw[es]
 rw[List.map_cons]at ej
 simp[ej,Ow.pv]
 rfl
noncomputable section
variable(n:Nat)(t:St)(ho:t.ok)(ys:List Sy)(fit:Tr)(st:Nat)
abbrev eO(st:Nat):List Nd:=(bits st).map fun s=>(0,s)
theorem nr(st:Nat):∀b∈eO st,.(A).In b:=fun b hb=>by
 obtain⟨s,hs,rfl⟩:=List.mem_map.mp hb
 exact⟨Nat.succ_pos _,(bq.mp hs).1⟩
def xi(w:PV):Prop:=(∃v:Vs,w=FW v/\v.good .(A) (eO st)/\(mzOf t ys fit).Near (eO st) (some v.dep)/\v.dep<=17000)\/(w= .non/\(mzOf t ys fit).Near (eO st) none)
include ho in
theorem gm(hl:t.ders.length<=1000)(j:Nat):∀(k i:Nat) (vs:List Vs) (rc:Nat->Nat) (ks:List Key) (xs:List PV) (s4 s5 s6:Sl),QI .(A) (eO st) rc vs i->CW rc ks xs->ks.length<=i+1->(∀v∈vs,v.dep<=i)->k+i=16*.(AF)+1 ->
  ∃r,bP (dS (aS (d2 sf (dSee 3) (dCall bLen (dCons (dSee 2) dNil))))) (fD (gF (n+2))) (k+j) (jv t ys fit st ks xs vs i s4 s5 s6)=some r/\ ∃ks' xs' w,ks'.length=xs'.length/\xi t ys fit st w/\(r= .ret (.tup [.dic ks' xs',w])\/(w= .non/\ ∃vs' i' s4' s5' s6',r= .nx (jv t ys fit st ks' xs' vs' i' s4' s5' s6')))
 |0,i,vs,rc,ks,xs,s4,s5,s6,q,hd,hk,hdep,hki=>by have:vs.length<=16*(t.ders.length+1):=q.len (fO t ho ys fit) (nr t ys fit st);have:=q.le;omega
 |k+1,i,vs,rc,ks,xs,s4,s5,s6,q,hd,hk,hdep,hki=>by
  have hM:=fO t ho ys fit
  have hB:=nr t ys fit st
  have hlen:vs.length<=16*.(AF):=q.len hM hB
  have hle:=q.le
  have tt:dS (aS (d2 sf (dSee 3) (dCall bLen (dCons (dSee 2) dNil)))) (jv t ys fit st ks xs vs i s4 s5 s6)= .ok (decide (i<vs.length),jv t ys fit st ks xs vs i s4 s5 s6):=by
   have e1:bLen [.lst (vs.map Vs.pv)]= .ok (.int (vs.length:Int)):=by
    show Rx.ok (PV.int (((vs.map Vs.pv).length:Nat):Int))=_
    rw[List.length_map]
   simp[Ow.pv]
  rw[show k+1+j=(k+j)+1 by omega,bP,tt]
  rcases Nat.lt_or_ge i vs.length with hi|hi
  ·have hv:=List.getElem?_eq_getElem hi
   have hm:=List.getElem_mem hi
   obtain⟨h1,h2⟩:=q.In hM hB _ hm
   simp only[hi,decide_true]
   cases hb:.(A).brk vs[i].nd.1 vs[i].nd.2 with
   |true =>
    have hg:=q.q1 _ hm
    have hdp:=hdep _ hm
    have ew:=pX (n+1) vs[i] hg (by omega)
    rw[pT n t ho ys fit st hv h1 h2 hb ks xs s4 s5 s6 ew]
    exact⟨_,rfl,ks,xs,_,hd.1,.inl ⟨vs[i],rfl,hg,⟨q.found hv,_,kn _ hg,hb⟩,by omega⟩,.inl rfl⟩
   |false =>
    by_cases he:isEnd (.(A).what vs[i].nd.1 vs[i].nd.2)
    ·obtain⟨s4',s5',e⟩:=xg n t ho ys fit st hv h1 h2 hb he ks xs s4 s5 s6
     rw[e]
     exact gm hl j k (i+1) vs rc ks xs _ _ _ (q.still hv hb he) hd (by omega) (fun v hv=>by have:=hdep v hv;omega) (by omega)
    ·obtain⟨ks',xs',s4',s5',s6',e,hd',hk'⟩:=tN n t ho ys fit st (rc:=rc) hv h1 h2 hb he s4 s5 s6 hd (by omega) (by omega)
     rw[e]
     refine gm hl j k (i+1) _ _ ks' xs' _ _ _ (q.next hM hB hv hb he) hd' (by omega) (fun v hv'=> ?_) (by omega)
     rcases List.mem_append.mp hv' with p|p
     ·have:=hdep v p;omega
     ·obtain⟨s,_,rfl⟩:=List.mem_map.mp p
      have:=hdep _ hm
      show vs[i].dep+1<=i+1
      omega
  ·have:¬i<vs.length:=by omega
   have hei:i=vs.length:=by omega
   simp only[this,decide_false]
   subst hei
   exact⟨_,rfl,ks,xs,.non,hd.1,.inr ⟨rfl,fun k=>q.none k⟩,.inr ⟨rfl,_,_,_,_,_,rfl⟩⟩
include ho in
theorem tO(hl:t.ders.length<=1000)(hst:st<65536):∃ks xs w,bp f7 (gF (n+3)) .(Ah) []= .ok (.tup [.dic ks xs,w])/\ks.length=xs.length/\xi t ys fit st w:=by
 have hd:CW (upd (fun _=>0) 0 st) [.inl 0] [.int (st:Int)]:=by
  refine⟨rfl,fun r=> ?_⟩
  unfold upd
  by_cases h:r=0
  ·subst h;rfl
  ·have:¬(Sum.inl 0:Key)= .inl (r:Int):=fun z=>h (by have:=Sum.inl.inj z;omega)
   simp[bT,this,h]
 obtain⟨r,e,ks,xs,w,hkx,hw,hr⟩:=gm n t ho ys fit st hl (100000-(16*.(AF)+1)) (16*.(AF)+1) 0 _ _ [.inl 0] [.int (st:Int)] .no .no .no (QI.start st hst) hd (by simp) (fun v hv=>by
  obtain⟨s,_,rfl⟩:=List.mem_map.mp hv
  exact Nat.le_refl _) rfl
 rw[show 16*.(AF)+1+(100000-(16*.(AF)+1))=100000 by omega]at e
 refine⟨ks,xs,w,?_,hkx,hw⟩
 have a1:bp f7 (gF (n+3)) .(Ah) []=gF (n+3) 42 [bi t ys fit st]:=rfl
 have e9:=dX n st
 rw[a1,g_zG,aC rfl]
 show fin (tE (gF (n+2)) [.v .(Ah),.no,.no,.no,.no,.no,.no])=_
 have o1:mO 1 (ba eC (ae 0)) (ba cj (ae 0)) [.v .(Ah),.no,.no,.no,.no,.no,.no]= .nx [.v .(Ah),.own (.dic [.inl 0] [.int (st:Int)]),.no,.no,.no,.no,.no]:=rfl
 have hc:dComp ["setting"] [("self",0)] (aI (dCall (gF (n+2) 1) (dCons (ba cj (ae 0)) dNil))) (ar 0) bM (bW (dCons (ba eC (ae 1)) (dCons (ae 0) (dCons (dC (.str "")) (dCons (dC .non) dNil))))) [.v .(Ah),.own (.dic [.inl 0] [.int (st:Int)]),.no,.no,.no,.no,.no]= .ok ((bits st).map fun s=>(Vs.root 0 s).pv):=by
  unfold dComp
  have hi:aI (dCall (gF (n+2) 1) (dCons (ba cj (ae 0)) dNil)) [.v .(Ah),.own (.dic [.inl 0] [.int (st:Int)]),.no,.no,.no,.no,.no]= .ok ((bits st).map fun(i:Nat)=>PV.int (i:Int)):=by
   have:aW cj .(Ah)= .ok (.int (st:Int)):=rfl
   simp[this,e9]
  rw[hi,ao,if_pos (by rw[List.length_map];have:=ff st;show _<=16777216;omega)]
  refine bC (ps0:=[.v .(Ah)]) (fun(i:Nat)=>PV.int (i:Int)) (fun s=>(Vs.root 0 s).pv) (bits st) .no fun s hs=> ?_
  rfl
 unfold tE
 rw[ay,o1,aj,ay,zG,hc,bn]
 simp only[List.length_cons,List.length_nil,Nat.reduceAdd,Nat.reduceLT,if_true,List.set_cons_succ,List.set_cons_zero,aj,ay,fK,zF,bn]
 rw[show((bits st).map fun s=>(Vs.root 0 s).pv)=((bits st).map fun s=>Vs.root 0 s).map Vs.pv by rw[List.map_map];rfl,gg]
 have e:bP (dS (aS (d2 sf (dSee 3) (dCall bLen (dCons (dSee 2) dNil))))) (fD (gF (n+2))) 100000 [.v .(Ah),.own (.dic [.inl 0] [.int (st:Int)]),.own (.lst (((bits st).map fun s=>Vs.root 0 s).map Vs.pv)),.v (.int 0),.no,.no,.no]=some r:=e
 rw[e]
 rcases hr with rfl|⟨rfl,vs',i',s4',s5',s6',rfl⟩
 ·rfl
 ·rfl
end
end M63
end
noncomputable section
namespace M63
open PySem L2 DN
def npv(v:Nd):PV:= .tup [.int (v.1:Int),.int (v.2:Int)]
def nk(v:Nd):List Key:=[.inl (v.1:Int),.inl (v.2:Int)]
theorem Cm{v w:Nd}(h:nk v=nk w):v=w:=by
 obtain⟨a,b⟩:=v
 obtain⟨c,d⟩:=w
 simp[nk]at h
 have h1:a=c:=by omega
 have h2:b=d:=by omega
 rw[h1,h2]
theorem zV(m:List Nd)(v:Nd):inT (m.map nk) (nk v)=decide (v∈m):=by
 by_cases h:v∈m
 ·rw[decide_eq_true h]
  exact jx.mpr (List.mem_map.mpr ⟨v,h,rfl⟩)
 ·rw[decide_eq_false h,Bool.eq_false_iff]
  intro q
  obtain⟨w,hw,e⟩:=List.mem_map.mp (jx.mp q)
  exact h (Cm e ▸ hw)
def gC(m:List Nd):Ow:= .dit (m.map nk) (m.map fun _=>PV.bl true)
theorem re(m:List Nd)(v:Nd)(h:v∉m):Ow.dit (fM (m.map nk) (nk v)) (dD (m.map nk) (m.map fun _=>PV.bl true) (nk v) (.bl true))=gC (m++[v]):=by
 have:inT (m.map nk) (nk v)=false:=by rw[zV,decide_eq_false h]
 unfold fM dD gC
 simp[this]
theorem jA(n m:Nat):gF (n+1) 27 [.int (m:Int)]= .ok (.lst ((bits m).map fun(i:Nat)=>PV.int (i:Int))):=by
 rw[g_zr,aC rfl]
 show fin (t6 (gF n) [.v .(Ar)])=_
 unfold t6 dComp
 rw[iw,dA,qX,ao,if_pos qY]
 have:=g9 (dt:=aS (d2 cB (d2 gP (d2 si (dSee 1) (dSee 0)) (dC (.int 1))) (dC (.int 1)))) (de:=ae 0) (ps0:=[.v .(Ar)]) (fun(i:Nat)=>PV.int (0+(i:Int))) (fun i=>m.testBit i) (fun(i:Nat)=>PV.int (i:Int)) (List.range 16) .no fun i hi=>by
  have hi:=List.mem_range.mp hi
  have e:=qS m i
  refine⟨?_,fun _=> ?_⟩
  ·have h0:¬((i:Int)<0):=by omega
   simp[<-e]
  ·show Rx.ok (PV.int (0+(i:Int)))=_
   rw[Int.zero_add]
 exact congrArg (fun z=>fin ((z.bind fun r=>Rx.ok (PV.lst r)).st fun w=> .ret w)) this
theorem Cn{x:PV}{xs:List PV}(h:aN (x::xs)<90):fJ (.lst (x::xs)) (.lst [])= .ok (.bl true):=by
 unfold fJ
 rw[if_pos (by rw[PV.depth];omega),iV,if_neg (by simp)]
 rfl
theorem lM:∀l:List Nd,aN (l.map npv)<=1
 |[]=>by decide
 |v::l=>by
  have:=lM l
  rw[List.map_cons,aN]
  have e:(npv v).depth=1:=by simp[npv,PV.depth,aN]
  omega
noncomputable section
variable(n:Nat)(t:St)(ho:t.ok)(ys:List Sy)(fit:Tr)(hf:fit.ok)(hfd:fit.depth<n+2)(bg:PV)
abbrev fR(S:PV)(m:List Nd)(s6:Sl)(k:Nat)(s8 s9 s10 s11 s12 s13:Sl):aT:=[.v (az (Dr t 0)),.v (ap ys),.v bg,.v fit.pv,.v S,.own (gC m),s6,.v .(AA),s8,s9,s10,s11,s12,s13]
theorem xj(S:PV)(s6 s9 s10 s11:Sl)(k r:Nat)(hr:r<t.ders.length+1)(hN:t.ders.length<=600):∀(l:List Nat) (m C:List Nd) (s13:Sl),(∀x∈l,x<16)->m.Nodup->(∀v∈m,.(A).In v)->C.length<=m.length ->
  ∃D s13',forD (ar 13) (j5 (gF (n+2))) (l.map fun(i:Nat)=>PV.int (i:Int)) (fR t ys fit bg S m s6 k .(X) s9 s10 s11 (.v .(Ak)) s13)= .nx (fR t ys fit bg S (m++D) s6 k (.own (.lst ((C++D).map npv))) s9 s10 s11 (.v .(Ak)) s13')
   /\(∀v∈D,∃s∈l,v=(r,s))/\(∀s∈l,(r,s)∈m++D)/\(m++D).Nodup
 |[],m,C,s13,_,hm,_,_=>⟨[],s13,by simp[forD],(fun v hv=>by cases hv),(fun s hs=>by cases hs),by simpa using hm⟩
 |x::l,m,C,s13,hl,hm,hi,hC=>by
  have hx:=hl x List.mem_cons_self
  have hml:m.length<=16*.(AF):=dI hm hi
  have eg:ar 13 (PV.int (x:Int)) (fR t ys fit bg S m s6 k .(X) s9 s10 s11 (.v .(Ak)) s13)= .ok .(P):=rfl
  have tt:aS (d2 (sB true) (bW .(Aq)) (dSee 5)) .(P)= .ok (!(decide ((r,x)∈m))):=by
   have:sB true (npv (r,x)) (.dit (m.map nk) (m.map fun _=>PV.bl true))= .ok (.bl (!(decide ((r,x)∈m)))):=by
    show(if (m.map nk).length=(m.map fun _=>PV.bl true).length then Rx.ok (PV.bl (inT (m.map nk) (nk (r,x)) != true)) else .bad)=_
    rw[if_pos (by simp),zV]
    cases decide ((r,x)∈m) <;> rfl
   show((sB true (npv (r,x)) (.dit (m.map nk) (m.map fun _=>PV.bl true))).bind _)=_
   rw[this];rfl
  rw[List.map_cons,forD,eg,bn]
  by_cases h:(r,x)∈m
  ·obtain⟨D,s13',e,d1,d2,d3⟩:=xj S s6 s9 s10 s11 k r hr hN l m C (.v (.int (x:Int))) (fun y hy=>hl y (List.mem_cons_of_mem _ hy)) hm hi hC
   have eb:j5 (gF (n+2)) .(P)= .nx .(P):=by
    unfold j5
    rw[cq,tt,decide_eq_true h]
    rfl
   rw[eb]
   refine⟨D,s13',e,fun v hv=> ?_,fun s hs=> ?_,d3⟩
   ·obtain⟨s,hs,q⟩:=d1 v hv
    exact⟨s,List.mem_cons_of_mem _ hs,q⟩
   ·rcases List.mem_cons.mp hs with q|q
    ·rw[q];exact List.mem_append_left _ h
    ·exact d2 s q
  ·have hm':(m++[(r,x)]).Nodup:=by
    rw[List.nodup_append]
    refine⟨hm,by simp,fun a ha b hb e=> ?_⟩
    rw[List.mem_singleton.mp hb]at e
    exact h (e ▸ ha)
   have hi':∀v∈m++[(r,x)],.(A).In v:=fun v hv=>by
    rcases List.mem_append.mp hv with q|q
    ·exact hi v q
    ·rw[List.mem_singleton.mp q];exact⟨hr,hx⟩
   obtain⟨D,s13',e,d1,d2,d3⟩:=xj S s6 s9 s10 s11 k r hr hN l (m++[(r,x)]) (C++[(r,x)]) (.v (.int (x:Int))) (fun y hy=>hl y (List.mem_cons_of_mem _ hy)) hm' hi' (by simp;exact hC)
   have eb:j5 (gF (n+2)) .(P)= .nx (fR t ys fit bg S (m++[(r,x)]) s6 k (.own (.lst ((C++[(r,x)]).map npv))) s9 s10 s11 (.v .(Ak)) (.v (.int (x:Int)))):=by
    unfold j5
    rw[cq,tt,decide_eq_false h]
    have f1:k9 5 (bW .(Aq)) (dC (.bl true)) .(P)= .nx (fR t ys fit bg S (m++[(r,x)]) s6 k .(X) s9 s10 s11 (.v .(Ak)) (.v (.int (x:Int)))):=by
     show(if (m.map nk).length<10000 then Rs.nx [.v (az (Dr t 0)),.v (ap ys),.v bg,.v fit.pv,.v S,.own (.dit (fM (m.map nk) (nk (r,x))) (dD (m.map nk) (m.map fun _=>PV.bl true) (nk (r,x)) (.bl true))),s6,.v .(AA),.own (.lst (C.map npv)),s9,s10,s11,.v .(Ak),.v (.int (x:Int))] else .bad)=_
     rw[if_pos (by rw[List.length_map];omega),re m _ h]
    have f2:cx (iq 8 (bS (bW .(Aq)))) (fR t ys fit bg S (m++[(r,x)]) s6 k .(X) s9 s10 s11 (.v .(Ak)) (.v (.int (x:Int))))= .nx (fR t ys fit bg S (m++[(r,x)]) s6 k (.own (.lst ((C++[(r,x)]).map npv))) s9 s10 s11 (.v .(Ak)) (.v (.int (x:Int)))):=by
     show Rx.st (if (C.map npv).length<sizeLine then Rx.ok (PV.non,([.v (az (Dr t 0)),.v (ap ys),.v bg,.v fit.pv,.v S,.own (gC (m++[(r,x)])),s6,.v .(AA),.own (.lst (C.map npv++[npv (r,x)])),s9,s10,s11,.v .(Ak),.v (.int (x:Int))]:aT)) else .bad) _=_
     rw[if_pos (by rw[List.length_map];show _<16777216;omega)]
     show Rs.nx [.v (az (Dr t 0)),.v (ap ys),.v bg,.v fit.pv,.v S,.own (gC (m++[(r,x)])),s6,.v .(AA),.own (.lst (C.map npv++[npv (r,x)])),s9,s10,s11,.v .(Ak),.v (.int (x:Int))]=_
     rw[show C.map npv++[npv (r,x)]=(C++[(r,x)]).map npv by simp]
    show(al _ _ _)=_
    rw[ay,f1,aj,f2]
   rw[eb]
   refine⟨(r,x)::D,s13',by simpa using e,fun v hv=> ?_,fun s hs=> ?_,by simpa using d3⟩
   ·rcases List.mem_cons.mp hv with q|q
    ·exact⟨x,List.mem_cons_self,q⟩
    ·obtain⟨s,hs,q⟩:=d1 v q
     exact⟨s,List.mem_cons_of_mem _ hs,q⟩
   ·rcases List.mem_cons.mp hs with q|q
    ·rw[q];simp
    ·have:=d2 s q;simpa using this
theorem zg{w:Str}(h:isEnd w):cK true (.str w) .(Ax)= .ok (.bl false):=by
 rcases h with rfl|rfl|rfl <;> rfl
theorem tP{w:Str}(h:bL w):cK true (.str w) .(Ax)= .ok (.bl true):=by
 rcases h with rfl|rfl|rfl|rfl|rfl <;> rfl
include ho hf hfd in
theorem FX(S:PV)(s6 s11 s12 s13:Sl)(k:Nat){r s:Nat}(hr:r<t.ders.length+1)(hs:s<16)(hN:t.ders.length<=600)(m C:List Nd)(hm:m.Nodup)(hi:∀v∈m,.(A).In v)(hC:C.length<=m.length) :
  (.(A).brk r s=true/\fC (gF (n+2)) (fR t ys fit bg S m s6 k .(X) (.v .(Ak)) (.v .(An)) s11 s12 s13)= .ret .(AA)) \/
  (.(A).brk r s=false/\ ∃D s11' s12' s13',fC (gF (n+2)) (fR t ys fit bg S m s6 k .(X) (.v .(Ak)) (.v .(An)) s11 s12 s13)= .nx (fR t ys fit bg S (m++D) s6 k (.own (.lst ((C++D).map npv))) (.v .(Ak)) (.v .(An)) s11' s12' s13')
   /\(∀v∈D,v∈.(A).nx (r,s))/\(∀v∈.(A).nx (r,s),v∈m++D)/\(m++D).Nodup):=by
 have hM:=fO t ho ys fit
 have e1:=kt t hr
 have e2:=xz (rwN t r) (s:=(s:Int)) (by omega) (by omega)
 have hz:=(iE t ho (s:=s) hr).1
 have hd:kL .(Y)= .tup [.str (.(A).what r s),.int (.(A).there r s:Nat)]:=by
  show PV.tup [.str .(Y).1,.int .(Y).2]= .tup [.str .(Y).1,.int (.(Y).2.toNat:Nat)]
  rw[<-hz]
 have e3:bp aL (gF (n+2)) fit.pv [.int (s:Int)]= .ok (.bl (fit.f s)):=bR fit (n+2) (s:Int) hf hfd
 have hb:.(A).brk r s=(decide (.(A).what r s="done") && !(fit.f s)):=rfl
 have a1:gX (bY 2 (aE (ar 11) (aE (ar 12) bX))) (d2 fIx (d2 fIx (dSee 0) (dSee 9)) (dSee 10)) (fR t ys fit bg S m s6 k .(X) (.v .(Ak)) (.v .(An)) s11 s12 s13)= .nx (fR t ys fit bg S m s6 k .(X) (.v .(Ak)) (.v .(An)) (.v (.str (.(A).what r s))) (.v (.int (.(A).there r s:Nat))) s13):=by
  show(((fIx (az (Dr t 0)) .(Ak)).bind fun x=>fIx x .(An)).st _)=_
  rw[e1,ao,e2,bn,hd]
  rfl
 have kd:=hM.kind r s hr hs
 generalize hW:.(A).what r s=W at *
 generalize hT:.(A).there r s=T at *
 unfold fC
 rw[ay,a1,aj,ay,cq]
 have tt:fY (aS (d2 cB (dSee 11) (dC (.str "done")))) (fG (aS (aM aL (gF (n+2)) (ae 3) (dCons (ae 10) dNil)))) (fR t ys fit bg S m s6 k .(X) (.v .(Ak)) (.v .(An)) (.v (.str W)) .(At) s13)= .ok (.(A).brk r s):=by
  rw[hb]
  by_cases h:W="done"
  ·have h':(W == ("done":Str))=true:=by simpa using h
   simp[h',e3,h]
  ·have h':(W == ("done":Str))=false:=by simpa using h
   simp[h',h]
 rw[tt]
 cases hbb:.(A).brk r s with
 |true=>exact .inl ⟨rfl,rfl⟩
 |false =>
  refine .inr ⟨rfl,?_⟩
  rw[eV]
  show ∃D s11' s12' s13',cG _ _ _ _=_/\_
  by_cases he:isEnd W
  ·refine⟨[],.v (.str W),.v (.int (T:Nat)),s13,?_,(fun v hv=>by cases hv),fun v hv=> ?_,by simpa using hm⟩
   ·rw[cq]
    show yB ((cK true (.str W) .(Ax)).bind _) _ _ _=_
    rw[zg he]
    simp only[List.append_nil]
    rfl
   ·unfold Mz.nx at hv
    simp only[hW]at hv
    rw[if_pos he]at hv;cases hv
  ·rcases kd with q|⟨q,hT16⟩
   ·exact absurd q he
   ·have e4:bp bQ (gF (n+2)) (ap ys) [.str W,.int (s:Int)]= .ok (.int ((.(A).wy W s:Nat):Int)):=iC ys (n+1) q hs
    have e5:=jA (n+1) (.(A).wy W s)
    obtain⟨D,s13',e,d1,d2,d3⟩:=xj n t ys fit bg S s6 (.v .(Ak)) (.v .(An)) (.v (.str W)) k T hT16 hN (bits (.(A).wy W s)) m C s13 (fun x hx=>(bq.mp hx).1) hm hi hC
    have hnx:.(A).nx (r,s)=(bits (.(A).wy W s)).map fun s=>(T,s):=by
     unfold Mz.nx
     simp only[hW,hT]
     rw[if_neg he]
    refine⟨D,.v (.str W),.v (.int (T:Nat)),s13',?_,fun v hv=> ?_,fun v hv=> ?_,d3⟩
    ·rw[cq]
     show yB ((cK true (.str W) .(Ax)).bind _) _ _ _=_
     rw[tP q]
     show sFor _ _ _ _=_
     rw[va,qu,cL,cb]
     have m1:aM bQ (gF (n+2)) (ae 1) (dCons (ae 11) (dCons (ae 10) dNil)) (fR t ys fit bg S m s6 k .(X) (.v .(Ak)) (.v .(An)) (.v (.str W)) .(At) s13)= .ok (.int ((.(A).wy W s:Nat):Int)):=e4
     rw[m1,eW,bO,ao,e5]
     exact e
    ·obtain⟨x,hx,rfl⟩:=d1 v hv
     rw[hnx];exact List.mem_map.mpr ⟨x,hx,rfl⟩
    ·rw[hnx]at hv
     obtain⟨x,hx,rfl⟩:=List.mem_map.mp hv
     exact d2 x hx
include ho hf hfd in
theorem zW(SP:PV)(s6:Sl)(k:Nat)(hN:t.ders.length<=600):∀(S:List Nd) (m C:List Nd) (s9 s10 s11 s12 s13:Sl),(∀v∈S,.(A).In v)->m.Nodup->(∀v∈m,.(A).In v)->C.length<=m.length ->
  ((∃v∈S,.(A).brk v.1 v.2=true)/\forD (bY 2 (aE (ar 9) (aE (ar 10) bX))) (fC (gF (n+2))) (S.map npv) (fR t ys fit bg SP m s6 k .(X) s9 s10 s11 s12 s13)= .ret .(AA)) \/
  ((∀v∈S,.(A).brk v.1 v.2=false)/\ ∃D s9' s10' s11' s12' s13',forD (bY 2 (aE (ar 9) (aE (ar 10) bX))) (fC (gF (n+2))) (S.map npv) (fR t ys fit bg SP m s6 k .(X) s9 s10 s11 s12 s13)= .nx (fR t ys fit bg SP (m++D) s6 k (.own (.lst ((C++D).map npv))) s9' s10' s11' s12' s13')
   /\(∀v∈D,∃u∈S,v∈.(A).nx u)/\(∀u∈S,∀v∈.(A).nx u,v∈m++D)/\(m++D).Nodup/\ ∀v∈D,.(A).In v)
 |[],m,C,s9,s10,s11,s12,s13,_,hm,_,_=> .inr ⟨(fun v hv=>by cases hv),[],s9,s10,s11,s12,s13,by simp[forD],(fun v hv=>by cases hv),(fun v hv=>by cases hv),by simpa using hm,(fun v hv=>by cases hv)⟩
 | (r,s)::S,m,C,s9,s10,s11,s12,s13,hS,hm,hi,hC=>by
  obtain⟨hr,hs⟩:=hS _ List.mem_cons_self
  have hM:=fO t ho ys fit
  have eg:bY 2 (aE (ar 9) (aE (ar 10) bX)) (npv (r,s)) (fR t ys fit bg SP m s6 k .(X) s9 s10 s11 s12 s13)= .ok (fR t ys fit bg SP m s6 k .(X) (.v .(Ak)) (.v .(An)) s11 s12 s13):=rfl
  rw[List.map_cons,forD,eg,bn]
  rcases FX n t ho ys fit hf hfd bg SP s6 s11 s12 s13 k hr hs hN m C hm hi hC with⟨b1,e⟩|⟨b1,D,s11',s12',s13',e,d1,d2,d3⟩
  ·rw[e]
   exact .inl ⟨⟨_,List.mem_cons_self,b1⟩,rfl⟩
  ·rw[e]
   have hD:∀v∈D,.(A).In v:=fun v hv=>x4 hM ⟨hr,hs⟩ (d1 v hv)
   have hi':∀v∈m++D,.(A).In v:=fun v hv=>by
    rcases List.mem_append.mp hv with q|q
    ·exact hi v q
    ·exact hD v q
   rcases zW SP s6 k hN S (m++D) (C++D) (.v .(Ak)) (.v .(An)) s11' s12' s13' (fun v hv=>hS v (List.mem_cons_of_mem _ hv)) d3 hi' (by simp;exact hC)with⟨⟨v,hv,b⟩,e'⟩|⟨b,D',s9',s10',s11'',s12'',s13'',e',c1,c2,c3,c4⟩
   ·exact .inl ⟨⟨v,List.mem_cons_of_mem _ hv,b⟩,e'⟩
   ·refine .inr ⟨fun v hv=> ?_,D++D',s9',s10',s11'',s12'',s13'',by simpa using e',fun v hv=> ?_,fun u hu v hv=> ?_,by simpa using c3,fun v hv=> ?_⟩
    ·rcases List.mem_cons.mp hv with q|q
     ·rw[q];exact b1
     ·exact b v q
    ·rcases List.mem_append.mp hv with q|q
     ·exact⟨_,List.mem_cons_self,d1 v q⟩
     ·obtain⟨u,hu,z⟩:=c1 v q
      exact⟨u,List.mem_cons_of_mem _ hu,z⟩
    ·rw[<-List.append_assoc]
     rcases List.mem_cons.mp hu with q|q
     ·rw[q]at hv;exact List.mem_append_left _ (d2 v hv)
     ·exact c2 u q v hv
    ·rcases List.mem_append.mp hv with q|q
     ·exact hD v q
     ·exact c4 v q
include ho hf hfd in
theorem lN(B:List Nd)(s6:Sl)(hN:t.ders.length<=600)(j0:Nat):∀(f:Nat) (P S:List Nd) (k:Nat) (s8 s9 s10 s11 s12 s13:Sl),LI .(A) B P S k->16*.(AF)+1<=f+P.length ->
  ∃r,bP (dS (aS (d2 fJ (dSee 4) (dOfN dNil)))) (mY (gF (n+2))) (f+j0) (fR t ys fit bg (.lst (S.map npv)) (P++S) s6 k s8 s9 s10 s11 s12 s13)=some r/\((∃j:Nat,r= .ret (.int (j:Int))/\(mzOf t ys fit).Near B (some j))\/((∃ps,r= .nx ps)/\(mzOf t ys fit).Near B none))
 |0,P,S,k,s8,s9,s10,s11,s12,s13,l,hf=>by have hl:(P++S).length<=16*(t.ders.length+1):=dI l.nd l.rg;rw[List.length_append]at hl;omega
 |f+1,P,[],k,s8,s9,s10,s11,s12,s13,l,hf=>by
  have hl:(P++[]).length<=16*.(AF):=dI l.nd l.rg
  rw[List.append_nil]at hl
  have tt:dS (aS (d2 fJ (dSee 4) (dOfN dNil))) (fR t ys fit bg (.lst []) (P++[]) s6 k s8 s9 s10 s11 s12 s13)= .ok (false,fR t ys fit bg (.lst []) (P++[]) s6 k s8 s9 s10 s11 s12 s13):=rfl
  rw[show f+1+j0=(f+j0)+1 by omega,List.map_nil,bP,tt]
  exact⟨_,rfl,.inr ⟨⟨_,rfl⟩,l.end⟩⟩
 |f+1,P,v::S,k,s8,s9,s10,s11,s12,s13,l,hff=>by
  have hl:(P++v::S).length<=16*.(AF):=dI l.nd l.rg
  rw[List.length_append,List.length_cons]at hl
  have tt:dS (aS (d2 fJ (dSee 4) (dOfN dNil))) (fR t ys fit bg (.lst ((v::S).map npv)) (P++v::S) s6 k s8 s9 s10 s11 s12 s13)= .ok (true,fR t ys fit bg (.lst ((v::S).map npv)) (P++v::S) s6 k s8 s9 s10 s11 s12 s13):=by
   have e:=Cn (x:=npv v) (xs:=S.map npv) (by have:=lM (v::S);rw[List.map_cons]at this;omega)
   show(((fJ (.lst (npv v::S.map npv)) (.lst [])).bind _).bind _)=_
   rw[e];rfl
  rw[show f+1+j0=(f+j0)+1 by omega,bP,tt]
  generalize hL:v::S=L at *
  have hLn:0<L.length:=by rw[<-hL];simp
  have hs:∀v∈L,.(A).In v:=fun v hv=>l.rg v (List.mem_append_right _ hv)
  have eb:mY (gF (n+2)) (fR t ys fit bg (.lst (L.map npv)) (P++L) s6 k s8 s9 s10 s11 s12 s13)=(forD (bY 2 (aE (ar 9) (aE (ar 10) bX))) (fC (gF (n+2))) (L.map npv) (fR t ys fit bg (.lst (L.map npv)) (P++L) s6 k (.own (.lst [])) s9 s10 s11 s12 s13)).next (al (aF 7 (d2 fAdd (dSee 7) (dC (.int 1)))) (jc 4 (gU 8))):=rfl
  rcases zW n t ho ys fit hf hfd bg (.lst (L.map npv)) s6 k hN L (P++L) [] s9 s10 s11 s12 s13 hs l.nd l.rg (Nat.zero_le _)with⟨⟨u,hu,b⟩,e⟩|⟨b,D,s9',s10',s11',s12',s13',e,c1,c2,c3,c4⟩
  ·have e:forD (bY 2 (aE (ar 9) (aE (ar 10) bX))) (fC (gF (n+2))) (L.map npv) (fR t ys fit bg (.lst (L.map npv)) (P++L) s6 k (.own (.lst [])) s9 s10 s11 s12 s13)= .ret .(AA):=e
   dsimp only
   rw[eb,e]
   exact⟨_,rfl,.inl ⟨k,rfl,l.free,u,l.a u hu,b⟩⟩
  ·have e:forD (bY 2 (aE (ar 9) (aE (ar 10) bX))) (fC (gF (n+2))) (L.map npv) (fR t ys fit bg (.lst (L.map npv)) (P++L) s6 k (.own (.lst [])) s9 s10 s11 s12 s13)= .nx (fR t ys fit bg (.lst (L.map npv)) (P++L++D) s6 k (.own (.lst (D.map npv))) s9' s10' s11' s12' s13'):=e
   have e2:Rs.next (.nx (fR t ys fit bg (.lst (L.map npv)) (P++L++D) s6 k (.own (.lst (D.map npv))) s9' s10' s11' s12' s13')) (al (aF 7 (d2 fAdd (dSee 7) (dC (.int 1)))) (jc 4 (gU 8)))= .nx (fR t ys fit bg (.lst (D.map npv)) (P++L++D) s6 (k+1) (.v (.lst (D.map npv))) s9' s10' s11' s12' s13'):=rfl
   dsimp only
   rw[eb,e,e2]
   exact lN B s6 hN j0 f (P++L) D (k+1) _ _ _ _ _ _ (l.next b c1 c2 c3 c4) (by rw[List.length_append];omega)
include ho hf hfd in
theorem pY(hN:t.ders.length<=600)(st:Nat):∃z,gF (n+3) 28 [az (Dr t 0),ap ys,bJ (bits st),fit.pv]= .ok (.int z)/\((∃j:Nat,z=(j:Int)/\(mzOf t ys fit).Near (eO st) (some j))\/(z= -1/\(mzOf t ys fit).Near (eO st) none)):=by
 have hB:=nr t ys fit st
 have hn:(eO st).Nodup:=by
  have hn:(bits st).Nodup:=List.Nodup.sublist List.filter_sublist List.nodup_range
  exact List.Pairwise.map _ (fun a b hab e=>hab (Prod.mk.inj e).2) hn
 have hl0:LI .(A) (eO st) [] (eO st) 0:=⟨fun v hv=>hv,fun v hv=>hv,(fun v hv=>by cases hv),(fun i u hi=>absurd hi (Nat.not_lt_zero i)),hn,hB⟩
 rw[g_zs,aC rfl]
 show ∃z,fin (t8 (gF (n+2)) [.v (az (Dr t 0)),.v (ap ys),.v .(AJ),.v fit.pv,.no,.no,.no,.no,.no,.no,.no,.no,.no,.no])=_/\_
 have hc:dComp ["_law_setting"] [] (aI (dSee 2)) (ar 0) bM (bW (dCons (dC (.int 0)) .(Ao))) [.v (az (Dr t 0)),.v (ap ys),.v .(AJ),.v fit.pv,.no,.no,.no,.no,.no,.no,.no,.no,.no,.no]= .ok ((eO st).map npv):=by
  unfold dComp
  have hi:aI (dSee 2) [.v (az (Dr t 0)),.v (ap ys),.v .(AJ),.v fit.pv,.no,.no,.no,.no,.no,.no,.no,.no,.no,.no]= .ok ((bits st).map fun(i:Nat)=>PV.int (i:Int)):=rfl
  rw[hi,ao,if_pos (by rw[List.length_map];have:=ff st;show _<=16777216;omega),List.map_map]
  exact bC (ps0:=[]) (fun(i:Nat)=>PV.int (i:Int)) (npv ∘ fun s=>((0:Nat),s)) (bits st) .no fun s hs=>rfl
 have hfill:∀(l m:List Nd) (s6:Sl),(m++l).Nodup->(∀v∈m++l,.(A).In v)->∃s6',forD (ar 6) (kl (gF (n+2))) (l.map npv) [.v (az (Dr t 0)),.v (ap ys),.v .(AJ),.v fit.pv,.v .(Az),.own (gC m),s6,.no,.no,.no,.no,.no,.no,.no]= .nx [.v (az (Dr t 0)),.v (ap ys),.v .(AJ),.v fit.pv,.v .(Az),.own (gC (m++l)),s6',.no,.no,.no,.no,.no,.no,.no]:=by
  intro l
  induction l with
  |nil=>intro m s6 _ _;exact⟨s6,by simp[forD]⟩
  |cons v l ih =>
   intro m s6 h1 h2
   have h1':(m++[v]++l).Nodup:=by simpa using h1
   have hv:v∉m:=fun q=>by
    have:=(List.nodup_append.mp h1).2.2 v q v List.mem_cons_self
    exact this rfl
   have hml:(m++v::l).length<=16*.(AF):=dI h1 h2
   rw[List.length_append,List.length_cons]at hml
   obtain⟨s6',e⟩:=ih (m++[v]) (.v (npv v)) h1' (by simpa using h2)
   refine⟨s6',?_⟩
   rw[List.map_cons,forD]
   have eg:ar 6 (npv v) [.v (az (Dr t 0)),.v (ap ys),.v .(AJ),.v fit.pv,.v .(Az),.own (gC m),s6,.no,.no,.no,.no,.no,.no,.no]= .ok [.v (az (Dr t 0)),.v (ap ys),.v .(AJ),.v fit.pv,.v .(Az),.own (gC m),.v (npv v),.no,.no,.no,.no,.no,.no,.no]:=rfl
   have eb:kl (gF (n+2)) [.v (az (Dr t 0)),.v (ap ys),.v .(AJ),.v fit.pv,.v .(Az),.own (gC m),.v (npv v),.no,.no,.no,.no,.no,.no,.no]= .nx [.v (az (Dr t 0)),.v (ap ys),.v .(AJ),.v fit.pv,.v .(Az),.own (gC (m++[v])),.v (npv v),.no,.no,.no,.no,.no,.no,.no]:=by
    show(if (m.map nk).length<10000 then Rs.nx [.v (az (Dr t 0)),.v (ap ys),.v .(AJ),.v fit.pv,.v .(Az),.own (.dit (fM (m.map nk) (nk v)) (dD (m.map nk) (m.map fun _=>PV.bl true) (nk v) (.bl true))),.v (npv v),.no,.no,.no,.no,.no,.no,.no] else .bad)=_
    rw[if_pos (by rw[List.length_map];omega),re m _ hv]
   rw[eg,bn,eb]
   simpa using e
 obtain⟨s6',e6⟩:=hfill (eO st) [] .no hn hB
 obtain⟨r,e,hr⟩:=lN n t ho ys fit hf hfd .(AJ) (eO st) s6' hN (100000-(16*.(AF)+1)) (16*.(AF)+1) [] (eO st) 0 .no .no .no .no .no .no hl0 .(Ac)
 rw[show 16*.(AF)+1+(100000-(16*.(AF)+1))=100000 by omega]at e
 have e6:forD (ar 6) (kl (gF (n+2))) ((eO st).map npv) [.v (az (Dr t 0)),.v (ap ys),.v .(AJ),.v fit.pv,.v .(Az),.own (.dit [] []),.no,.no,.no,.no,.no,.no,.no,.no]= .nx [.v (az (Dr t 0)),.v (ap ys),.v .(AJ),.v fit.pv,.v .(Az),.own (gC (eO st)),s6',.no,.no,.no,.no,.no,.no,.no]:=e6
 have e:bP (dS (aS (d2 fJ (dSee 4) (dOfN dNil)))) (mY (gF (n+2))) 100000 [.v (az (Dr t 0)),.v (ap ys),.v .(AJ),.v fit.pv,.v .(Az),.own (gC (eO st)),s6',.v (.int 0),.no,.no,.no,.no,.no,.no]=some r:=e
 unfold t8
 rw[ay,fK,dA,hc]
 simp only[ao,bn,aj,List.set_cons_succ,List.set_cons_zero]
 have o1:k7 5 [.v (az (Dr t 0)),.v (ap ys),.v .(AJ),.v fit.pv,.v .(Az),.no,.no,.no,.no,.no,.no,.no,.no,.no]= .nx [.v (az (Dr t 0)),.v (ap ys),.v .(AJ),.v fit.pv,.v .(Az),.own (.dit [] []),.no,.no,.no,.no,.no,.no,.no,.no]:=rfl
 have f1:sFor (aI (ae 4)) (ar 6) (kl (gF (n+2))) [.v (az (Dr t 0)),.v (ap ys),.v .(AJ),.v fit.pv,.v .(Az),.own (.dit [] []),.no,.no,.no,.no,.no,.no,.no,.no]= .nx [.v (az (Dr t 0)),.v (ap ys),.v .(AJ),.v fit.pv,.v .(Az),.own (gC (eO st)),s6',.no,.no,.no,.no,.no,.no,.no]:=e6
 have f2:aF 7 (dC (.int 0)) [.v (az (Dr t 0)),.v (ap ys),.v .(AJ),.v fit.pv,.v .(Az),.own (gC (eO st)),s6',.no,.no,.no,.no,.no,.no,.no]= .nx [.v (az (Dr t 0)),.v (ap ys),.v .(AJ),.v fit.pv,.v .(Az),.own (gC (eO st)),s6',.v (.int 0),.no,.no,.no,.no,.no,.no]:=rfl
 rw[ay,o1,aj,ay,f1,aj,ay,f2,aj,ay,gg,e]
 rcases hr with⟨j,rfl,h⟩|⟨⟨ps,rfl⟩,h⟩
 ·exact⟨(j:Int),rfl,.inl ⟨j,rfl,h⟩⟩
 ·exact⟨-1,rfl,.inr ⟨rfl,h⟩⟩
end
end M63
end
noncomputable section
namespace M63
open PySem L2 DN
theorem lO(n:Nat)(l:List Int)(d:Str):gF (n+1) 54 [.lst .(AI),.str d]= .ok (.obj 19 [.lst .(AI),.str d]):=rfl
theorem zh(n:Nat)(l:List PV):gF (n+1) 53 [.lst l]= .ok (.obj 18 [.lst l]):=rfl
theorem jB(l:List Nat):bJ l= .lst ((l.map fun(i:Nat)=>(i:Int)).map PV.int):=by
 unfold bJ
 rw[List.map_map];rfl
noncomputable section
variable(n:Nat)(t:St)(ho:t.ok)(ys:List Sy)(fit:Tr)
def Jy(st:Nat)(w:PV):Prop:=(∃v:Vs,w= .obj 19 [bJ v.ss,.str (jh v.ds)]/\v.good .(A) (eO st)/\(mzOf t ys fit).Near (eO st) (some v.dep)/\v.dep<=17000)\/((∃x,w= .obj 18 [x])/\(mzOf t ys fit).Near (eO st) none)
include ho in
theorem tQ(hN:t.ders.length<=600)(hd:2*t.depth+2<=n+4)(D:Nat)(hys:∀y∈ys,y.ok D)(hyl:ys.length<=1000)(hD:D<=n)(bef:Tr)(hb:bef.ok)(h1:bef.depth<n+3)(hf:fit.ok)(h2:fit.depth<n+3) :
  ∃w,gF (n+6) 15 [bef.pv,t.pv,fit.pv,.lst .(H)]= .ok w/\Jy t ys fit .(Z) w:=by
 have e1:=ku (n+4) t ho hd (by omega)
 have e2:=kq D ys hys hyl n hD
 have e3:=iF (n+3) t ys bef fit hb hf h1 h2
 obtain⟨ks,xs,w,e4,hkx,hw⟩:=tO (n+2) t ho ys fit .(Z) (by omega) (Nat.lt_of_le_of_lt Nat.and_le_left (zU _ (pO ys)))
 have fd:aW cT (bV t)= .ok (az (Dr t 0)):=rfl
 have i0:fIx (.tup [.dic ks xs,w]) (.int 0)= .ok (.dic ks xs):=rfl
 have i1:fIx (.tup [.dic ks xs,w]) (.int 1)= .ok w:=rfl
 have s1:aF 4 (dCall (gF (n+5) 52) .(O)) [.v bef.pv,.v t.pv,.v fit.pv,.v .(B),.no,.no]= .nx [.v bef.pv,.v t.pv,.v fit.pv,.v .(B),.v (bV t),.no]:=by
  simp[e1]
 have s2:aF 5 (aM f7 (gF (n+5)) (dCall (gF (n+5) 16) (dCons (ae 0) (dCons (ae 4) (dCons (ae 2) (dCons (dCall (gF (n+5) 51) (dCons (ae 3) dNil)) dNil))))) dNil) [.v bef.pv,.v t.pv,.v fit.pv,.v .(B),.v (bV t),.no]= .nx [.v bef.pv,.v t.pv,.v fit.pv,.v .(B),.v (bV t),.v (.tup [.dic ks xs,w])]:=by
  have c1:dCall (gF (n+5) 16) (dCons (ae 0) (dCons (ae 4) (dCons (ae 2) (dCons (dCall (gF (n+5) 51) (dCons (ae 3) dNil)) dNil)))) [.v bef.pv,.v t.pv,.v fit.pv,.v .(B),.v (bV t),.no]= .ok (bi t ys fit .(Z)):=by
   simp[e2,e3]
  rw[fK,mE,c1,ao]
  show((bp f7 (gF (n+5)) (bi t ys fit .(Z)) []).st _)=_
  rw[e4]
  rfl
 rw[g_zf,aC rfl]
 show ∃w,fin (sQ (gF (n+5)) [.v bef.pv,.v t.pv,.v fit.pv,.v .(B),.no,.no])=_/\_
 unfold sQ
 rw[ay,s1,aj,ay,s2,aj]
 rcases hw with⟨v,rfl,hg,hn,hdp⟩|⟨rfl,hn⟩
 ·refine⟨.obj 19 [bJ v.ss,.str (jh v.ds)],?_,.inl ⟨v,rfl,hg,hn,hdp⟩⟩
  have j0:fIx (FW v) (.int 0)= .ok (bJ v.ss):=rfl
  have j1:fIx (FW v) (.int 1)= .ok (.str (jh v.ds)):=rfl
  have eb:=lO (n+4) (v.ss.map fun(i:Nat)=>(i:Int)) (jh v.ds)
  rw[<-jB]at eb
  have tt:aS (gK .(Aj)) [.v bef.pv,.v t.pv,.v fit.pv,.v .(B),.v (bV t),.v (.tup [.dic ks xs,FW v])]= .ok true:=rfl
  rw[ay,cq,tt,on]
  simp[i1,j0,j1,eb, -cS]
 ·have hc:dComp ["room"] [("told",5)] (bA (dCons (dCall bLen (dCons (ba cT (ae 4)) dNil)) dNil)) (ar 0) bM (eM .(Ap) (dSee 0) (dC (.int 0))) [.v bef.pv,.v t.pv,.v fit.pv,.v .(B),.v (bV t),.v (.tup [.dic ks xs,.non])]= .ok ((List.range .(AF)).map fun(i:Nat)=>(bT ks xs (.inl (i:Int))).getD (.int 0)):=by
   unfold dComp
   have hl:=kr (Dr t 0) (by rw[cD];omega)
   have hr:bA (dCons (dCall bLen (dCons (ba cT (ae 4)) dNil)) dNil) [.v bef.pv,.v t.pv,.v fit.pv,.v .(B),.v (bV t),.v (.tup [.dic ks xs,.non])]= .ok ((List.range .(AF)).map fun(i:Nat)=>PV.int (i:Int)):=by
    refine n0 (k:=t.ders.length+1) ?_ (by omega)
    have:dCall bLen (dCons (ba cT (ae 4)) dNil) [.v bef.pv,.v t.pv,.v fit.pv,.v .(B),.v (bV t),.v (.tup [.dic ks xs,.non])]=bLen [az (Dr t 0)]:=rfl
    rw[this,hl,cD];rfl
   rw[hr,ao,if_pos (by rw[List.length_map,List.length_range];show _<=16777216;omega)]
   refine bC (ps0:=[.v (.tup [.dic ks xs,.non])]) (fun(i:Nat)=>PV.int (i:Int)) (fun(i:Nat)=>(bT ks xs (.inl (i:Int))).getD (.int 0)) (List.range .(AF)) .no fun i hi=> ?_
   show(if ks.length=xs.length then Rx.ok ((bT ks xs (.inl (i:Int))).getD (.int 0)) else .bad)=_
   rw[if_pos hkx]
  have ek:=zh (n+4) ((List.range .(AF)).map fun(i:Nat)=>(bT ks xs (.inl (i:Int))).getD (.int 0))
  refine⟨_,?_,.inr ⟨⟨.lst ((List.range .(AF)).map fun(i:Nat)=>(bT ks xs (.inl (i:Int))).getD (.int 0)),rfl⟩,hn⟩⟩
  have tt:aS (gK .(Aj)) [.v bef.pv,.v t.pv,.v fit.pv,.v .(B),.v (bV t),.v (.tup [.dic ks xs,.non])]= .ok false:=rfl
  rw[ay,cq,tt,eV,eL,aj,iw,cL,cb,dA,hc]
  simp only[ao,eW,bO,ek,bn,gt]
end
end M63
end
noncomputable section
namespace M63
open PySem L2 DN
def sg(c:Nat):Str:=⟨#[c]⟩
def iL(l:List Int):PV:= .lst .(AI)
theorem lP{l:List Int}{i:Nat}{x:Int}(h:l[i]? =some x):fIx (iL l) (.int (i:Int))= .ok (.int x):=by
 show(match gN .(AI) (i:Int)with|some w=>Rx.ok w|none=> .bad)=_
 rw[dE (v:=PV.int x) (by rw[List.getElem?_map,h];rfl)]
theorem nt(l:List Int)(x:Int):fIx (iL (l++[x])) (.int (-1))= .ok (.int x):=by
 show(match gN ((l++[x]).map PV.int) (-1)with|some w=>Rx.ok w|none=> .bad)=_
 have:gN ((l++[x]).map PV.int) (-1)=some (PV.int x):=by
  unfold gN xu
  rw[List.length_map,List.length_append,List.length_singleton,if_neg (by omega),if_pos (by omega)]
  show((l++[x]).map PV.int)[((-1:Int)+((l.length+1:Nat):Int)).toNat]? =_
  have:((-1:Int)+((l.length+1:Nat):Int)).toNat=l.length:=by omega
  rw[this,List.getElem?_map,List.getElem?_append_right .(Ac),Nat.sub_self]
  rfl
 rw[this]
theorem Co{y:Str}(hy:y.length<=100000){i c:Nat}(h:y.cps.toList[i]? =some c):fIx (.str y) (.int (i:Int))= .ok (.str (sg c)):=by
 show(if y.length<=sizeLine then(match gN y.cps.toList (i:Int)with|some c=>Rx.ok (PV.str ⟨#[c]⟩)|none=> .bad) else .bad)=_
 rw[if_pos (by show _<=16777216;omega),dE (v:=c) h]
 rfl
theorem nu{c:Nat}:¬isEnd (sg c):=by
 rintro(h|h|h)
 ·have:=congrArg (fun z:Str=>z.cps.toList.length) h;revert this;simp[sg];decide +kernel
 ·have:=congrArg (fun z:Str=>z.cps.toList.length) h;revert this;simp[sg];decide +kernel
 ·have:=congrArg (fun z:Str=>z.cps.toList.length) h;revert this;simp[sg];decide +kernel
theorem xk{c:Nat}:¬("found":Str)=sg c:=fun h=>by
 have:=congrArg (fun z:Str=>z.cps.toList.length) h;revert this;simp[sg];decide +kernel
def kB(m:Nat)(t:Int):Bool:=decide (0<=t/\t<16) && m.testBit t.toNat
theorem rf(m:Nat)(t:Int):cK true (.int t) (.lst ((bits m).map fun(i:Nat)=>PV.int (i:Int)))= .ok (.bl (!(kB m t))):=by
 have h1:((bits m).map fun(i:Nat)=>PV.int (i:Int)).all sj=true:=by
  rw[List.all_eq_true]
  intro x hx
  obtain⟨i,_,rfl⟩:=List.mem_map.mp hx
  rfl
 have h2:(((bits m).map fun(i:Nat)=>PV.int (i:Int)).any fun y=>kT (jU y) (jU (.int t)))=kB m t:=by
  rw[Bool.eq_iff_iff,List.any_eq_true]
  unfold kB
  constructor
  ·rintro⟨x,hx,e⟩
   obtain⟨i,hi,rfl⟩:=List.mem_map.mp hx
   have e:((i:Int) == t)=true:=e
   have e:=eq_of_beq e
   obtain⟨h1,h2⟩:=bq.mp hi
   subst e
   simp[h1,h2]
   omega
  ·intro h
   rw[Bool.and_eq_true,decide_eq_true_eq]at h
   refine⟨_,List.mem_map.mpr ⟨t.toNat,bq.mpr ⟨by omega,h.2⟩,rfl⟩,?_⟩
   show(((t.toNat:Nat):Int) == t)=true
   rw[beq_iff_eq];omega
 show(if sj (.int t)=true/\_ then Rx.ok (PV.bl (!_)) else .bad)=_
 rw[if_pos ⟨rfl,h1⟩,h2]
theorem xl{M:Mz}:∀(ts:List Int) (ds:List Str) (r s:Nat),M.wrd r s ts ds=true->∀t∈ts,0<=t/\t<16
 |[],_,_,_,_,t,ht=>by cases ht
 |t::ts,d::ds,r,s,h,x,hx=>by
  unfold Mz.wrd at h
  rw[Bool.and_eq_true,Bool.and_eq_true,Bool.and_eq_true,decide_eq_true_eq]at h
  rcases List.mem_cons.mp hx with q|q
  ·rw[q];exact h.2.1.1
  ·exact xl ts ds _ _ h.2.2 x q
 |t::ts,[],r,s,h,_,_=>by simp[Mz.wrd]at h
def Mz.full(M:Mz)(st:Nat)(l:List Int)(cs:List Nat):Bool:=decide (l.length=cs.length+1) && match l with
 |[]=>false
 |s::ts=>kB st s && M.wrd 0 s.toNat ts (cs.map sg)
noncomputable section
variable(n:Nat)(t:St)(ho:t.ok)(ys:List Sy)(fit:Tr)(hf:fit.ok)(hfd:fit.depth<n+2)(bg:PV)
abbrev zX(l:List Int)(y:Str)(r:Nat)(s7 s8 s9:Sl):aT:=[.v (iL l),.v (.str y),.v (az (Dr t 0)),.v (ap ys),.v bg,.v fit.pv,.v .(Ak),s7,s8,s9]
include ho hf hfd in
theorem ji(y:Str)(hy:y.length<=100000):∀(suf pre:List Nat) (pl ts:List Int) (r s:Nat) (s7 s8 s9:Sl),y.cps.toList=pre++suf->pl.length=pre.length->ts.length=suf.length->r<t.ders.length+1->s<16 ->
  fin ((forD (ar 7) (pI (gF (n+2))) ((List.range' pre.length suf.length).map fun(i:Nat)=>PV.int (i:Int)) (zX t ys fit bg (pl++(s:Int)::ts) y r s7 s8 s9)).next (aG (io (d2 cB (d2 fIx (d2 fIx (d2 fIx (dSee 2) (dSee 6)) (d2 fIx (dSee 0) (gz (dC (.int 1))))) (dC (.int 0))) (dC (.str "done"))) (jP (aM aL (gF (n+2)) (ae 5) (dCons (d2 fIx (dSee 0) (gz (dC (.int 1)))) dNil))))))
   = .ok (.bl (.(A).wrd r s ts (suf.map sg)))
 |[],pre,pl,[],r,s,s7,s8,s9,hc,h1,h2,hr,hs=>by
  have e1:=kt t hr
  have e2:=xz (rwN t r) (s:=(s:Int)) (by omega) (by omega)
  have e3:bp aL (gF (n+2)) fit.pv [.int (s:Int)]= .ok (.bl (fit.f s)):=bR fit (n+2) (s:Int) hf hfd
  have e4:=nt pl (s:Int)
  have hb:.(A).wrd r s [] []=(decide (.(Y).1="done") && !(fit.f s)):=rfl
  show fin (aG _ (zX t ys fit bg (pl++[(s:Int)]) y r s7 s8 s9))= .ok (.bl (.(A).wrd r s [] []))
  rw[hb]
  by_cases h:.(Y).1="done"
  ·have h':(.(Y).1 == ("done":Str))=true:=by simpa using h
   simp[e1,e2,e3,e4,zb,h',h]
  ·have h':(.(Y).1 == ("done":Str))=false:=by simpa using h
   simp[e1,e2,e3,e4,zb,h',h]
 |c::suf,pre,pl,x::ts,r,s,s7,s8,s9,hc,h1,h2,hr,hs=>by
  have hM:=fO t ho ys fit
  have e1:=kt t hr
  have e2:=xz (rwN t r) (s:=(s:Int)) (by omega) (by omega)
  have hz:=(iE t ho (s:=s) hr).1
  have hd:kL .(Y)= .tup [.str (.(A).what r s),.int (.(A).there r s:Nat)]:=by
   show PV.tup [.str .(Y).1,.int .(Y).2]= .tup [.str .(Y).1,.int (.(Y).2.toNat:Nat)]
   rw[<-hz]
  have kd:=hM.kind r s hr hs
  have i1:fIx (iL .(R)) .(Af)= .ok .(An):=lP (by rw[<-h1];simp)
  have i2:fIx (iL .(R)) (.int (.(Ay)+1))= .ok (.int x):=lP (i:=pre.length+1) (by rw[<-h1,List.getElem?_append_right (by omega)];simp)
  have i3:fIx (.str y) .(Af)= .ok (.str (sg c)):=Co hy (by rw[hc];simp)
  have ew:.(A).wrd r s (x::ts) ((c::suf).map sg)=((.(A).what r s == sg c) && (kB (.(A).wy (sg c) s) x && .(A).wrd (.(A).there r s) x.toNat ts (suf.map sg))):=rfl
  rw[ew]
  have eg:ar 7 (PV.int .(Ay)) (zX t ys fit bg .(R) y r s7 s8 s9)= .ok (zX t ys fit bg .(R) y r (.v .(Af)) s8 s9):=rfl
  generalize hW:.(A).what r s=W at *
  generalize hT:.(A).there r s=T at *
  have a1:gX (bY 2 (aE (ar 8) (aE (ar 9) bX))) (d2 fIx (d2 fIx (dSee 2) (dSee 6)) (d2 fIx (dSee 0) (dSee 7))) (zX t ys fit bg .(R) y r (.v .(Af)) s8 s9)= .nx (zX t ys fit bg .(R) y r (.v .(Af)) (.v (.str W)) .(At)):=by
   show(((fIx (az (Dr t 0)) .(Ak)).bind fun x1=>(fIx (iL .(R)) .(Af)).bind fun x2=>fIx x1 x2).st _)=_
   rw[e1,ao,i1,ao,e2,bn,hd]
   rfl
  show fin ((forD _ _ (PV.int .(Ay)::(List.range' (pre.length+1) suf.length).map fun(i:Nat)=>PV.int (i:Int)) _).next _)=_
  rw[forD,eg,bn]
  unfold pI
  by_cases hWc:W=sg c
  ·have hq:(W == sg c)=true:=by simpa using hWc
   rw[hq,Bool.true_and]
   have hD:bL (sg c)/\T<t.ders.length+1:=by
    rcases kd with q|q
    ·rw[hWc]at q;exact absurd q nu
    ·rw[<-hWc];exact q
   have e4:bp bQ (gF (n+2)) (ap ys) [.str (sg c),.int (s:Int)]= .ok (.int ((.(A).wy (sg c) s:Nat):Int)):=iC ys (n+1) hD.1 hs
   have e5:=jA (n+1) (.(A).wy (sg c) s)
   have e6:=rf (.(A).wy (sg c) s) x
   subst hWc
   have tt:jp (aS (d2 fJ (dSee 8) (d2 fIx (dSee 1) (dSee 7)))) (aS (d2 (cK true) (d2 fIx (dSee 0) (d2 fAdd (dSee 7) (dC (.int 1)))) (dCall (gF (n+2) 27) (dCons (aM bQ (gF (n+2)) (ae 3) (dCons (ae 8) (dCons (d2 fIx (dSee 0) (dSee 7)) dNil))) dNil)))) (zX t ys fit bg .(R) y r (.v .(Af)) (.v (.str (sg c))) .(At))= .ok (!(kB (.(A).wy (sg c) s) x)):=by
    simp[i1,i2,i3,e4,e5,e6]
   rw[ay,a1,aj,ay,cq,tt]
   cases hx:kB (.(A).wy (sg c) s) x with
   |false=>rfl
   |true =>
    have hx16:0<=x/\x<16:=by
     unfold kB at hx
     rw[Bool.and_eq_true,decide_eq_true_eq]at hx
     exact hx.1
    have ih:=ji y hy suf (pre++[c]) (pl++[(s:Int)]) ts T x.toNat (.v .(Af)) (.v (.str (sg c))) .(At) (by simpa using hc) (by simp[h1]) (by simpa using h2) hD.2 (by omega)
    have hxx:((x.toNat:Nat):Int)=x:=by omega
    rw[hxx,List.length_append,List.length_singleton,List.append_assoc,List.singleton_append]at ih
    rw[Bool.true_and]
    exact ih
  ·have hq:(W == sg c)=false:=by simpa using hWc
   rw[hq,Bool.false_and]
   have tt:jp (aS (d2 fJ (dSee 8) (d2 fIx (dSee 1) (dSee 7)))) (aS (d2 (cK true) (d2 fIx (dSee 0) (d2 fAdd (dSee 7) (dC (.int 1)))) (dCall (gF (n+2) 27) (dCons (aM bQ (gF (n+2)) (ae 3) (dCons (ae 8) (dCons (d2 fIx (dSee 0) (dSee 7)) dNil))) dNil)))) (zX t ys fit bg .(R) y r (.v .(Af)) (.v (.str W)) .(At))= .ok true:=by
    simp[i3,hq]
   rw[ay,a1,aj,ay,cq,tt]
   rfl
 |[],_,_,_::_,_,_,_,_,_,_,_,h2,_,_=>by simp at h2
 |_::_,_,_,[],_,_,_,_,_,_,_,h2,_,_=>by simp at h2
include ho hf hfd in
theorem tR(l:List Int)(y:Str)(hy:y.length<=100000)(st:Nat):gF (n+3) 29 [iL l,.str y,az (Dr t 0),ap ys,bJ (bits st),fit.pv]= .ok (.bl (.(A).full st l y.cps.toList)):=by
 have hyl:y.length=y.cps.toList.length:=by simp[Str.length]
 have l1:bLen [iL l]= .ok (.int (l.length:Int)):=by
  show Rx.ok (PV.int ((.(AI).length:Nat):Int))=_
  rw[List.length_map]
 have l2:bLen [.str y]= .ok (.int (y.cps.toList.length:Int)):=by
  show(if y.length<=sizeLine then Rx.ok (PV.int (y.length:Int)) else .bad)=_
  rw[if_pos (by show _<=16777216;omega),hyl]
 rw[g_zt,aC rfl]
 show fin (tf (gF (n+2)) [.v (iL l),.v (.str y),.v (az (Dr t 0)),.v (ap ys),.v .(AJ),.v fit.pv,.no,.no,.no,.no])=_
 unfold tf Mz.full
 generalize hcs:y.cps.toList=cs at *
 have hlenT:aS (d2 fJ (dCall bLen (dCons (dSee 0) dNil)) (d2 fAdd .(Ag) (dC (.int 1)))) [.v (iL l),.v (.str y),.v (az (Dr t 0)),.v (ap ys),.v .(AJ),.v fit.pv,.no,.no,.no,.no]= .ok (!(decide (l.length=cs.length+1))):=by
  have:((l.length:Int) == (cs.length:Int)+1)=decide (l.length=cs.length+1):=by
   rw[Bool.eq_iff_iff,beq_iff_eq,decide_eq_true_eq];omega
  simp[l1,l2,this]
 by_cases hl:l.length=cs.length+1
 ·rw[decide_eq_true hl,Bool.true_and]
  cases l with
  |nil=>simp at hl
  |cons s ts =>
   show fin _=Rx.ok (PV.bl (kB st s && .(A).wrd 0 s.toNat ts (cs.map sg)))
   have i0:fIx (iL (s::ts)) (.int 0)= .ok (.int s):=lP (i:=0) rfl
   have e6:=rf st s
   have tt:jp (aS (d2 fJ (dCall bLen (dCons (dSee 0) dNil)) (d2 fAdd .(Ag) (dC (.int 1))))) (aS (d2 (cK true) .(AC) (dSee 4))) [.v (iL (s::ts)),.v (.str y),.v (az (Dr t 0)),.v (ap ys),.v .(AJ),.v fit.pv,.no,.no,.no,.no]= .ok (!(kB st s)):=by
    rw[v7,hlenT,decide_eq_true hl]
    show(((fIx (iL (s::ts)) (.int 0)).bind fun x=>cK true x .(AJ)).bind _)=_
    rw[i0,ao]
    show((cK true (.int s) (.lst ((bits st).map fun(i:Nat)=>PV.int (i:Int)))).bind _)=_
    rw[e6];rfl
   rw[ay,cq,tt]
   cases hb:kB st s with
   |false=>rfl
   |true =>
    have hs:0<=s/\s<16:=by
     unfold kB at hb
     rw[Bool.and_eq_true,decide_eq_true_eq]at hb
     exact hb.1
    have ih:=ji n t ho ys fit hf hfd .(AJ) y hy cs [] [] ts 0 s.toNat .no .no .no (by rw[hcs];rfl) rfl (by simpa using hl) (Nat.succ_pos _) (by omega)
    have hss:((s.toNat:Nat):Int)=s:=by omega
    rw[hss,List.nil_append,List.length_nil]at ih
    have rng:bA (dCons .(Ag) dNil) [.v (iL (s::ts)),.v (.str y),.v (az (Dr t 0)),.v (ap ys),.v .(AJ),.v fit.pv,.v (.int 0),.no,.no,.no]= .ok ((List.range' 0 cs.length).map fun(i:Nat)=>PV.int (i:Int)):=by
     rw[<-List.range_eq_range']
     exact n0 (by
      show bLen [.str y]=_
      exact l2) (by omega)
    rw[Bool.true_and]
    have hn:∀ps:aT,(yB (Rx.ok (!true)) (aG (dC (.bl false))) aJ ps)= .nx ps:=fun _=>rfl
    have a3:aF 6 (dC (.int 0)) [.v (iL (s::ts)),.v (.str y),.v (az (Dr t 0)),.v (ap ys),.v .(AJ),.v fit.pv,.no,.no,.no,.no]= .nx [.v (iL (s::ts)),.v (.str y),.v (az (Dr t 0)),.v (ap ys),.v .(AJ),.v fit.pv,.v (.int 0),.no,.no,.no]:=rfl
    rw[hn,aj,ay,a3,aj]
    rw[ay,va,rng,bn]
    exact ih
 ·rw[decide_eq_false hl,Bool.false_and,ay,cq,v7,hlenT,decide_eq_false hl]
  rfl
abbrev tY(l:List Int)(y:Str)(st r:Nat)(s4 s5 s6:Sl):aT:=[.v .(Ah),.v (iL l),.v (.str y),.v .(Ak),s4,s5,s6]
include ho in
theorem jk(y:Str)(hy:y.length<=100000)(st:Nat):∀(suf pre:List Nat) (pl ts:List Int) (r s:Nat) (s4 s5 s6:Sl),y.cps.toList=pre++suf->pl.length=pre.length->ts.length=suf.length->r<t.ders.length+1->s<16->(∀x∈ts,0<=x/\x<16) ->
  fin ((forD (bY 2 (aE (ar 4) (aE (ar 5) bX))) (pK (gF (n+2))) (bv pre.length (suf.map fun c=>PV.str (sg c))) (tY t ys fit (pl++(s:Int)::ts) y st r s4 s5 s6)).next (aG (d2 cB (d2 fIx (gd tC (gF (n+2)) dU (ae 0) (dCons (ae 3) (dCons (d2 fIx (dSee 1) (gz (dC (.int 1)))) dNil))) (dC (.int 0))) (dC (.str "found")))))
   = .ok (.bl (.(A).wrd r s ts (suf.map sg)))
 |[],pre,pl,[],r,s,s4,s5,s6,hc,h1,h2,hr,hs,ht=>by
  have hM:=fO t ho ys fit
  have e4:=nt pl (s:Int)
  have e5:=ni n t ho ys fit hr hs
  have fd:aW dU .(Ah)= .ok (tM t fit):=rfl
  have hb:.(A).wrd r s [] []=.(A).brk r s:=by simp[Mz.wrd]
  show fin (aG _ (tY t ys fit (pl++[(s:Int)]) y st r s4 s5 s6))= .ok (.bl (.(A).wrd r s [] []))
  rw[hb]
  obtain⟨w,p,e0,e1,e2,⟨hbr,rfl⟩|⟨hbr,rfl,rfl,q⟩⟩:=iG .(A) hM hr hs
  ·simp[fd,e4,e5,e1,hbr, -cS]
  ·simp[fd,e4,e5,e1,hbr,q, -cS]
 |c::suf,pre,pl,x::ts,r,s,s4,s5,s6,hc,h1,h2,hr,hs,ht=>by
  have hM:=fO t ho ys fit
  have e5:=ni n t ho ys fit hr hs
  have fd:aW dU .(Ah)= .ok (tM t fit):=rfl
  have fb:aW dF .(Ah)= .ok (ap ys):=rfl
  have kd:=hM.kind r s hr hs
  have i1:fIx (iL .(R)) .(Af)= .ok .(An):=lP (by rw[<-h1];simp)
  have i2:fIx (iL .(R)) (.int (.(Ay)+1))= .ok (.int x):=lP (i:=pre.length+1) (by rw[<-h1,List.getElem?_append_right (by omega)];simp)
  have ew:.(A).wrd r s (x::ts) ((c::suf).map sg)=((.(A).what r s == sg c) && (kB (.(A).wy (sg c) s) x && .(A).wrd (.(A).there r s) x.toNat ts (suf.map sg))):=rfl
  rw[ew]
  obtain⟨hx0,hx1⟩:=ht x List.mem_cons_self
  have hxx:((x.toNat:Nat):Int)=x:=by omega
  have eg:bY 2 (aE (ar 4) (aE (ar 5) bX)) (.tup [.int .(Ay),.str (sg c)]) (tY t ys fit .(R) y st r s4 s5 s6)= .ok (tY t ys fit .(R) y st r (.v .(Af)) (.v (.str (sg c))) s6):=rfl
  have a1:aF 6 (gd tC (gF (n+2)) dU (ae 0) (dCons (ae 3) (dCons (d2 fIx (dSee 1) (dSee 4)) dNil))) (tY t ys fit .(R) y st r (.v .(Af)) (.v (.str (sg c))) s6)= .nx (tY t ys fit .(R) y st r (.v .(Af)) (.v (.str (sg c))) (.v (tell .(A) r s))):=by
   simp[fd,i1,e5]
  show fin ((forD _ _ (.tup [.int .(Ay),.str (sg c)]::bv (pre.length+1) (suf.map fun c=>PV.str (sg c))) _).next _)=_
  rw[forD,eg,bn]
  unfold pK
  rw[ay,a1,aj,ay,cq]
  obtain⟨w,p,e0,e1,e2,hcase⟩:=iG .(A) hM hr hs
  have tt:aS (d2 fJ (d2 fIx (dSee 6) (dC (.int 0))) (dSee 5)) (tY t ys fit .(R) y st r (.v .(Af)) (.v (.str (sg c))) (.v (tell .(A) r s)))= .ok (!(w == sg c)):=by
   simp[e1, -cS]
  rw[tt]
  rcases hcase with⟨hbr,rfl⟩|⟨hbr,rfl,rfl,q⟩
  ·have h1:(.(A).what r s == sg c)=false:=by
    rw[hM.brk r s hbr,beq_eq_false_iff_ne]
    exact fun z=>nu (c:=c) (.inl z.symm)
   have h2:(("found":Str) == sg c)=false:=by rw[beq_eq_false_iff_ne];exact xk
   rw[h1,h2]
   rfl
  ·by_cases hWc:.(A).what r s=sg c
   ·have hq:(.(A).what r s == sg c)=true:=by simpa using hWc
    have hD:bL (sg c)/\(mzOf t ys fit).there r s<t.ders.length+1:=by
     rcases kd with q|q
     ·rw[hWc]at q;exact absurd q nu
     ·rw[<-hWc];exact q
    have e4:bp bQ (gF (n+2)) (ap ys) [.str (sg c),.int (s:Int)]= .ok (.int ((.(A).wy (sg c) s:Nat):Int)):=iC ys (n+1) hD.1 hs
    have e6:=gj (n+1) (.(A).wy (sg c) s) x.toNat
    rw[hxx]at e6
    have hin:kB (.(A).wy (sg c) s) x=(.(A).wy (sg c) s).testBit x.toNat:=by
     unfold kB
     rw[decide_eq_true ⟨hx0,hx1⟩,Bool.true_and]
    rw[hq,Bool.true_and]
    have t2:fG (aS (dCall (gF (n+2) 0) (dCons (d2 fIx (dSee 1) (d2 fAdd (dSee 4) (dC (.int 1)))) (dCons (aM bQ (gF (n+2)) (ba dF (ae 0)) (dCons (ae 5) (dCons (d2 fIx (dSee 1) (dSee 4)) dNil))) dNil)))) (tY t ys fit .(R) y st r (.v .(Af)) (.v (.str (sg c))) (.v (tell .(A) r s)))= .ok (!((.(A).wy (sg c) s).testBit x.toNat)):=by
     simp[fb,i1,i2,e4,e6]
    have hn:(yB (Rx.ok (!true)) (aG (dC (.bl false))) aJ (tY t ys fit .(R) y st r (.v .(Af)) (.v (.str (sg c))) (.v (tell .(A) r s))))= .nx (tY t ys fit .(R) y st r (.v .(Af)) (.v (.str (sg c))) (.v (tell .(A) r s))):=rfl
    rw[hn,aj,ay,cq,t2,hin]
    cases hx:(.(A).wy (sg c) s).testBit x.toNat with
    |false=>rfl
    |true =>
     have a2:aF 3 (d2 fIx (dSee 6) (dC (.int 1))) (tY t ys fit .(R) y st r (.v .(Af)) (.v (.str (sg c))) (.v (tell .(A) r s)))= .nx (tY t ys fit .(R) y st (.(A).there r s) (.v .(Af)) (.v (.str (sg c))) (.v (tell .(A) r s))):=by
      show((fIx (tell .(A) r s) (.int 1)).st _)=_
      rw[e2];rfl
     have ih:=jk y hy st suf (pre++[c]) (pl++[(s:Int)]) ts (.(A).there r s) x.toNat (.v .(Af)) (.v (.str (sg c))) (.v (tell .(A) r s)) (by simpa using hc) (by simp[h1]) (by simpa using h2) hD.2 (by omega) (fun z hz=>ht z (List.mem_cons_of_mem _ hz))
     rw[hxx,List.length_append,List.length_singleton,List.append_assoc,List.singleton_append]at ih
     rw[hn,aj,a2,Bool.true_and]
     exact ih
   ·have hq:(.(A).what r s == sg c)=false:=by simpa using hWc
    rw[hq,Bool.false_and]
    rfl
 |[],_,_,_::_,_,_,_,_,_,_,_,h2,_,_,_=>by simp at h2
 |_::_,_,_,[],_,_,_,_,_,_,_,h2,_,_,_=>by simp at h2
include ho in
theorem tS(l:List Int)(hll:l.length<=100000)(y:Str)(hy:y.length<=100000)(st:Nat):bp eZ (gF (n+3)) .(Ah) [iL l,.str y]= .ok (.bl (.(A).full st l y.cps.toList)):=by
 have hyl:y.length=y.cps.toList.length:=by simp[Str.length]
 have l1:bLen [iL l]= .ok (.int (l.length:Int)):=by
  show Rx.ok (PV.int ((.(AI).length:Nat):Int))=_
  rw[List.length_map]
 have l2:bLen [.str y]= .ok (.int (y.cps.toList.length:Int)):=by
  show(if y.length<=sizeLine then Rx.ok (PV.int (y.length:Int)) else .bad)=_
  rw[if_pos (by show _<=16777216;omega),hyl]
 have a1:bp eZ (gF (n+3)) .(Ah) [iL l,.str y]=gF (n+3) 43 [bi t ys fit st,iL l,.str y]:=rfl
 rw[a1,g_zH,aC rfl]
 show fin (tF (gF (n+2)) [.v .(Ah),.v (iL l),.v (.str y),.no,.no,.no,.no])=_
 have esg:sgP y=y.cps.toList.map fun c=>PV.str (sg c):=rfl
 unfold tF Mz.full
 generalize hcs:y.cps.toList=cs at *
 have hlenT:aS (d2 fJ .(Ag) (d2 fAdd (dCall bLen (dCons (dSee 2) dNil)) (dC (.int 1)))) [.v .(Ah),.v (iL l),.v (.str y),.no,.no,.no,.no]= .ok (!(decide (l.length=cs.length+1))):=by
  have:((l.length:Int) == (cs.length:Int)+1)=decide (l.length=cs.length+1):=by
   rw[Bool.eq_iff_iff,beq_iff_eq,decide_eq_true_eq];omega
  simp[l1,l2,this]
 have hall:fG (aS (dCall sv (dCons (dOfN (dComp ["setting"] [] (aI (dSee 1)) (ar 0) bM (iX Gb sf (dC (.int 0)) (dSee 0) (dC (.int (16)))))) dNil))) [.v .(Ah),.v (iL l),.v (.str y),.no,.no,.no,.no]= .ok (!(l.all fun x=>decide (0<=x/\x<16))):=by
  have hc:dComp ["setting"] [] (aI (dSee 1)) (ar 0) bM (iX Gb sf (dC (.int 0)) (dSee 0) (dC (.int (16)))) [.v .(Ah),.v (iL l),.v (.str y),.no,.no,.no,.no]= .ok (l.map fun x=>PV.bl (decide (0<=x/\x<16))):=by
   unfold dComp
   have hi:aI (dSee 1) [.v .(Ah),.v (iL l),.v (.str y),.no,.no,.no,.no]= .ok .(AI):=rfl
   rw[hi,ao,if_pos (by rw[List.length_map];show _<=16777216;omega)]
   refine bC (ps0:=[]) PV.int (fun x=>PV.bl (decide (0<=x/\x<16))) l .no fun x hx=> ?_
   by_cases h0:0<=x
   ·by_cases h1:x<16 <;> simp[h0,h1]
   ·simp[h0]
  have ea:=all_map (fun x:Int=>decide (0<=x/\x<16)) l
  simp only[Bb,v6,cL,cb,dA,hc,ao,eW,bO,ea]
 by_cases hl:l.length=cs.length+1
 ·have hn:∀ps:aT,(yB (Rx.ok (!true)) (aG (dC (.bl false))) aJ ps)= .nx ps:=fun _=>rfl
  rw[decide_eq_true hl,Bool.true_and,ay,cq,hlenT,decide_eq_true hl,hn,aj,ay,cq,hall]
  cases l with
  |nil=>simp at hl
  |cons s ts =>
   show fin _=Rx.ok (PV.bl (kB st s && .(A).wrd 0 s.toNat ts (cs.map sg)))
   cases ha:(s::ts).all fun x=>decide (0<=x/\x<16) with
   |false =>
    have:(kB st s && .(A).wrd 0 s.toNat ts (cs.map sg))=false:=by
     rw[Bool.eq_false_iff]
     intro h
     rw[Bool.and_eq_true]at h
     have h1:=h.1
     unfold kB at h1
     rw[Bool.and_eq_true,decide_eq_true_eq]at h1
     have:((s::ts).all fun x=>decide (0<=x/\x<16))=true:=by
      rw[List.all_eq_true]
      intro x hx
      rw[decide_eq_true_eq]
      rcases List.mem_cons.mp hx with q|q
      ·rw[q];exact h1.1
      ·exact xl ts _ _ _ h.2 x q
     rw[ha]at this;cases this
    rw[this]
    rfl
   |true =>
    rw[List.all_eq_true]at ha
    have hs:=decide_eq_true_eq.mp (ha s List.mem_cons_self)
    have hss:((s.toNat:Nat):Int)=s:=by omega
    have i0:fIx (iL (s::ts)) (.int 0)= .ok (.int s):=lP (i:=0) rfl
    have e6:=gj (n+1) st s.toNat
    rw[hss]at e6
    have hin:kB st s=st.testBit s.toNat:=by
     unfold kB
     rw[decide_eq_true hs,Bool.true_and]
    have fs:aW cj .(Ah)= .ok (.int (st:Int)):=rfl
    have t3:fG (aS (dCall (gF (n+2) 0) (dCons .(Ap) (dCons (ba cj (ae 0)) dNil)))) [.v .(Ah),.v (iL (s::ts)),.v (.str y),.no,.no,.no,.no]= .ok (!(st.testBit s.toNat)):=by
     simp[i0,fs,e6]
    rw[hn,aj,ay,cq,t3,hin]
    cases hb:st.testBit s.toNat with
    |false=>rfl
    |true =>
     have ih:=jk n t ho ys fit y hy st cs [] [] ts 0 s.toNat .no .no .no (by rw[hcs];rfl) rfl (by simpa using hl) (Nat.succ_pos _) (by omega) (fun x hx=>decide_eq_true_eq.mp (ha x (List.mem_cons_of_mem _ hx)))
     rw[hss,List.nil_append,List.length_nil]at ih
     rw[hn,aj,Bool.true_and]
     have a3:aF 3 (ba eC (ae 0)) [.v .(Ah),.v (iL (s::ts)),.v (.str y),.no,.no,.no,.no]= .nx [.v .(Ah),.v (iL (s::ts)),.v (.str y),.v (.int 0),.no,.no,.no]:=rfl
     rw[ay,a3,aj,ay,yQ]
     show fin (Rs.next (forD _ _ (bv 0 (sgP y)) _) _)=_
     rw[esg]
     exact ih
 ·rw[decide_eq_false hl,Bool.false_and,ay,cq,hlenT,decide_eq_false hl]
  rfl
end
end M63
end
noncomputable section
namespace M63
open PySem L2 DN
theorem rh{j:Int}(h0:0<=j)(h1:j<4):∃c,fIx (.str "abcd") (.int j)= .ok (.str c)/\mZ c:=by
 have:j=0\/j=1\/j=2\/j=3:=by omega
 rcases this with rfl|rfl|rfl|rfl
 ·exact⟨⟨#[97]⟩,rfl,.inl .(Ab)⟩
 ·exact⟨⟨#[98]⟩,rfl,.inr (.inl .(Ab))⟩
 ·exact⟨⟨#[99]⟩,rfl,.inr (.inr (.inl .(Ab)))⟩
 ·exact⟨⟨#[100]⟩,rfl,.inr (.inr (.inr .(Ab)))⟩
theorem kx{j:Int}(h0:0<=j)(h1:j<5):∃c,fIx (.str "PQRST") (.int j)= .ok (.str c)/\bL c:=by
 have:j=0\/j=1\/j=2\/j=3\/j=4:=by omega
 rcases this with rfl|rfl|rfl|rfl|rfl
 ·exact⟨⟨#[80]⟩,rfl,.inl .(Ab)⟩
 ·exact⟨⟨#[81]⟩,rfl,.inr (.inl .(Ab))⟩
 ·exact⟨⟨#[82]⟩,rfl,.inr (.inr (.inl .(Ab)))⟩
 ·exact⟨⟨#[83]⟩,rfl,.inr (.inr (.inr (.inl .(Ab))))⟩
 ·exact⟨⟨#[84]⟩,rfl,.inr (.inr (.inr (.inr .(Ab))))⟩
def Cp(g:PV):Prop:=∃i x y,g= .tup [.int i,.str x,.str y]/\0<=i/\i<6/\mZ x/\mZ y
inductive lQ:PV->Nat->Prop where
 |skip:lQ (.tup [.str "skip"]) 1
 |stop:lQ (.tup [.str "stop"]) 1
 |deed {c:Str} (h:bL c):lQ (.tup [.str "deed",.str c]) 1
 |row {a b:PV} {m k:Nat} (h1:lQ a m) (h2:lQ b k):lQ (.tup [.str "row",a,b]) (m+k+1)
 |ite {g a b:PV} {m k:Nat} (hg:Cp g) (h1:lQ a m) (h2:lQ b k):lQ (.tup [.str "if",g,a,b]) (m+k+1)
 |whl {g a:PV} {m:Nat} (hg:Cp g) (h1:lQ a m):lQ (.tup [.str "while",g,a]) (m+1)
theorem ky(n:Nat)(z:Int):∃g,gF (n+1) 19 [.int z]= .ok g/\Cp g:=by
 rw[g_zj,aC rfl]
 show ∃g,fin (sT (gF n) [.v (.int z)])= .ok g/\Cp g
 obtain⟨x,ex,hx⟩:=rh (j:=z / 6 % 4) (by omega) (by omega)
 obtain⟨y,ey,hy⟩:=rh (j:=z / 24 % 4) (by omega) (by omega)
 unfold sT
 exact⟨.tup [.int (z % 6),.str x,.str y],by simp[ex,ey],z % 6,x,y,rfl,by omega,by omega,hx,hy⟩
theorem eP(n:Nat){g:PV}(h:Cp g):∃t:Tr,gF (n+1) 20 [g]= .ok t.pv/\t.ok/\t.depth<=2/\t.size<=4:=by
 obtain⟨i,x,y,rfl,h0,h6,hx,hy⟩:=h
 rw[g_zk,aC rfl]
 have j0:fIx (.tup [.int i,.str x,.str y]) (.int 0)= .ok (.int i):=rfl
 have j1:fIx (.tup [.int i,.str x,.str y]) (.int 1)= .ok (.str x):=rfl
 have j2:fIx (.tup [.int i,.str x,.str y]) (.int 2)= .ok (.str y):=rfl
 show ∃t:Tr,fin (sU (gF n) [.v (.tup [.int i,.str x,.str y]),.no,.no])= .ok t.pv/\_
 unfold sU
 have hi:i=0\/i=1\/i=2\/i=3\/i=4\/i=5:=by omega
 rcases hi with rfl|rfl|rfl|rfl|rfl|rfl
 ·exact⟨.named x,by simp[j0,j1,j2, -cS];rfl,hx,by simp[Tr.depth],by simp[Tr.size]⟩
 ·exact⟨.neg (.named x),by simp[j0,j1,j2, -cS];rfl,hx,by simp[Tr.depth],by simp[Tr.size]⟩
 ·exact⟨.both (.named x) (.neg (.named y)),by simp[j0,j1,j2, -cS];rfl,⟨hx,hy⟩,by simp[Tr.depth],by simp[Tr.size]⟩
 ·exact⟨.either (.named x) (.named y),by simp[j0,j1,j2, -cS];rfl,⟨hx,hy⟩,by simp[Tr.depth],by simp[Tr.size]⟩
 ·exact⟨.neg (.either (.named x) (.named y)),by simp[j0,j1,j2, -cS];rfl,⟨hx,hy⟩,by simp[Tr.depth],by simp[Tr.size]⟩
 ·rcases hx with rfl|rfl|rfl|rfl
  ·exact⟨.yes,by rfl,True.intro,by decide,by decide⟩
  ·exact⟨.yes,by rfl,True.intro,by decide,by decide⟩
  ·exact⟨.no,by rfl,True.intro,by decide,by decide⟩
  ·exact⟨.no,by rfl,True.intro,by decide,by decide⟩
theorem xm(n:Nat)(z:Int):∃v,gF (n+1) 21 [.int z]= .ok v/\lQ v 1:=by
 rw[g_zl,aC rfl]
 show ∃v,fin (sV (gF n) [.v (.int z)])= .ok v/\lQ v 1
 unfold sV
 by_cases h4:z % 5=4
 ·have hj:z / 5 % 3=0\/z / 5 % 3=1\/z / 5 % 3=2:=by omega
  rcases hj with hj|hj|hj
  ·exact⟨.tup [.str "skip"],by simp[h4,hj, -qv];rfl,.skip⟩
  ·exact⟨.tup [.str "stop"],by simp[h4,hj, -qv];rfl,.stop⟩
  ·exact⟨.tup [.str "skip"],by simp[h4,hj, -qv];rfl,.skip⟩
 ·obtain⟨c,e,hc⟩:=kx (j:=z / 5 % 5) (by omega) (by omega)
  have hb:(z % 5 == 4)=false:=by simpa using h4
  exact⟨.tup [.str "deed",.str c],by simp[hb,e],.deed hc⟩
def rj(xs:List PV)(s:Nat):Prop:=∃l:List (PV×Nat),xs=l.map (·.1)/\(∀p∈l,lQ p.1 p.2)/\(l.map (·.2)).sum=s
theorem rj.push{xs:List PV}{s m:Nat}{v:PV}(h:rj xs s)(hv:lQ v m):rj (xs++[v]) (s+m):=by
 obtain⟨l,rfl,h1,rfl⟩:=h
 refine⟨l++[(v,m)],by simp,fun p hp=> ?_,by simp⟩
 rcases List.mem_append.mp hp with z|z
 ·exact h1 p z
 ·rw[List.mem_singleton.mp z];exact hv
theorem rj.pop{xs:List PV}{s:Nat}(h:rj xs s)(hn:xs≠[]):∃ys v t m,xs=ys++[v]/\rj ys t/\lQ v m/\t+m=s:=by
 obtain⟨l,rfl,h1,rfl⟩:=h
 have hl:l≠[]:=by intro z;subst z;exact hn rfl
 obtain⟨l',p,rfl⟩:∃l' p,l=l'++[p]:=⟨l.dropLast,l.getLast hl,(List.dropLast_concat_getLast hl).symm⟩
 exact⟨l'.map (·.1),p.1,(l'.map (·.2)).sum,p.2,by simp,⟨l',rfl,fun q hq=>h1 q (by simp[hq]),rfl⟩,h1 p (by simp),by simp⟩
theorem gx{k:Nat}(h:k<=1000):k<sizeLine:=by show k<16777216;omega
theorem Cp.depth{g:PV}(h:Cp g):g.depth=1:=by
 obtain⟨i,x,y,rfl,_⟩:=h
 simp[PV.depth,aN]
theorem lQ.depth{v:PV}{m:Nat}(h:lQ v m):v.depth<=m+1:=by
 induction h with
 |skip=>simp[PV.depth,aN]
 |stop=>simp[PV.depth,aN]
 |deed h=>simp[PV.depth,aN]
 |row _ _ i1 i2=>simp[PV.depth,aN];omega
 |ite hg _ _ i1 i2=>simp[PV.depth,aN,hg.depth];omega
 |whl hg h1 i1=>simp[PV.depth,aN,hg.depth];omega
theorem rj.depth:∀{xs:List PV} {s:Nat},rj xs s->aN xs<=s+1:=by
 rintro xs s ⟨l,rfl,h1,rfl⟩
 induction l with
 |nil=>simp[aN]
 |cons p l ih =>
  have i1:=ih fun q hq=>h1 q (List.mem_cons_of_mem _ hq)
  have i2:=(h1 p List.mem_cons_self).depth
  simp only[List.map_cons,aN,List.sum_cons]
  omega
theorem xn{xs:List PV}(h:aN xs<90):cB (.lst xs) (.lst [])= .ok (.bl xs.isEmpty):=by
 unfold cB
 rw[if_pos (by rw[PV.depth];omega),iV]
 cases xs with
 |nil=>rfl
 |cons x xs=>rw[if_neg (by simp)];rfl
abbrev oQ(zs:List Int)(xs:List PV)(s2 s3 s4:Sl):aT:=[.v (.lst (zs.map PV.int)),.own (.lst xs),s2,s3,s4]
theorem tT(n:Nat)(zs:List Int){xs:List PV}{s k:Nat}(z:Int)(s3 s4:Sl)(hlen:xs.length<=k)(hS:rj xs s)(hs:s<=k)(hk:k<63) :
  ∃xs' s' s3' s4',kj (gF (n+1)) (oQ zs xs (.v (.int z)) s3 s4)= .nx (oQ zs xs' (.v (.int z)) s3' s4')/\xs'.length<=k+1/\rj xs' s'/\s'<=k+1/\xs'≠[]:=by
 have eqn:=xn (xs:=xs) (by have:=hS.depth;omega)
 have hl0:xs.length<sizeLine:=gx (by omega)
 have t1:aS (d2 cB (dSee 1) (dOfN dNil)) (oQ zs xs (.v (.int z)) (.v (.int (z % 8))) s4)= .ok xs.isEmpty:=by
  show((cB (.lst xs) (.lst [])).bind _)=_
  rw[eqn];rfl
 have tt:jp (aS (d2 cB (dSee 1) (dOfN dNil))) (jp (aS (d2 sf (dSee 3) (dC (.int 3)))) (fY (aS (d2 CJ (dSee 3) (dC (.int 3)))) (aS (d2 cB .(Ag) (dC (.int 1)))))) (oQ zs xs (.v (.int z)) (.v (.int (z % 8))) s4)= .ok (xs.isEmpty || (decide (z % 8<3) || (decide (z % 8>3) && decide (xs.length=1)))):=by
  rw[v7,t1]
  cases he:xs.isEmpty with
  |true=>rfl
  |false =>
   by_cases w0:z % 8<3
   ·simp[w0]
   ·by_cases w3:z % 8>3
    ·have:(((xs.length:Nat):Int) == 1)=decide (xs.length=1):=by rw[Bool.eq_iff_iff,beq_iff_eq,decide_eq_true_eq];omega
     have w3':3<z % 8:=w3
     have hbl:bLen [.lst xs]= .ok (.int (xs.length:Int)):=rfl
     by_cases w1:xs.length=1
     ·have w1':((xs.length:Nat):Int)=1:=by omega
      simp[w0,w3',w1',Ow.pv,w1]
     ·have w1':¬((xs.length:Nat):Int)=1:=by omega
      simp[w0,w3',w1',Ow.pv,w1]
    ·have w3':¬3<z % 8:=w3
     simp[w0,w3']
 have st3:aF 3 (d2 fMod (dSee 2) (dC (.int 8))) (oQ zs xs (.v (.int z)) s3 s4)= .nx (oQ zs xs (.v (.int z)) (.v (.int (z % 8))) s4):=by
  simp
 unfold kj
 rw[ay,st3,aj,cq,tt]
 cases hc:(xs.isEmpty || (decide (z % 8<3) || (decide (z % 8>3) && decide (xs.length=1)))) with
 |true =>
  obtain⟨v,ev,hv⟩:=xm n (z / 8)
  refine⟨xs++[v],_,.v (.int (z % 8)),s4,?_,by simp;omega,hS.push hv,by omega,by simp⟩
  rw[on]
  simp[ev,hl0]
 |false =>
  rw[Bool.or_eq_false_iff,Bool.or_eq_false_iff]at hc
  obtain⟨h1,h2,h3⟩:=hc
  have hne:xs≠[]:=by intro q;subst q;cases h1
  have w0:¬z % 8<3:=by simpa using h2
  rw[eV]
  by_cases w3:z % 8=3
  ·obtain⟨ys,v,t,m,rfl,hT,hv,rfl⟩:=hS.pop hne
   obtain⟨g,eg,hg⟩:=ky n (z / 8)
   have hl:ys.length<sizeLine:=gx (by simp at hlen;omega)
   refine⟨ys++[.tup [.str "while",g,v]],_,.v (.int (z % 8)),s4,?_,by simp at hlen ⊢;omega,hT.push (.whl hg hv),by omega,by simp⟩
   simp[w3,eg,hl]
  ·have w3':z % 8>3:=by omega
   have b3:(z % 8 == 3)=false:=by simpa using w3
   have w1:xs.length≠1:=by
    intro q
    rw[decide_eq_true w3',decide_eq_true q]at h3;cases h3
   obtain⟨ys,v2,t,m,rfl,hT,hv2,rfl⟩:=hS.pop hne
   have hn:ys≠[]:=by intro q;subst q;exact w1 rfl
   obtain⟨us,v1,t',m',rfl,hT',hv1,rfl⟩:=hT.pop hn
   have hl:us.length<sizeLine:=gx (by simp at hlen;omega)
   by_cases w6:z % 8<6
   ·refine⟨us++[.tup [.str "row",v1,v2]],_,.v (.int (z % 8)),.v v2,?_,by simp at hlen ⊢;omega,hT'.push (.row hv1 hv2),by omega,by simp⟩
    simp[b3,w6,hl,jX,jY, -List.append_assoc]
   ·obtain⟨g,eg,hg⟩:=ky n (z / 8)
    refine⟨us++[.tup [.str "if",g,v1,v2]],_,.v (.int (z % 8)),.v v2,?_,by simp at hlen ⊢;omega,hT'.push (.ite hg hv1 hv2),by omega,by simp⟩
    simp[b3,w6,hl,eg,jX,jY, -List.append_assoc]
theorem lR(n:Nat)(zs:List Int):∀(l:List Int) (k s:Nat) (xs:List PV) (s2 s3 s4:Sl),xs.length<=k->rj xs s->s<=k->k+l.length<=63 ->
  ∃xs' s' s2' s3' s4',forD (ar 2) (kj (gF (n+1))) .(AI) (oQ zs xs s2 s3 s4)= .nx (oQ zs xs' s2' s3' s4')/\xs'.length<=k+l.length/\rj xs' s'/\s'<=k+l.length
 |[],k,s,xs,s2,s3,s4,h1,h2,h3,_=>⟨xs,s,s2,s3,s4,rfl,h1,h2,h3⟩
 |z::l,k,s,xs,s2,s3,s4,h1,h2,h3,h4=>by
  have h4:k+(l.length+1)<=63:=h4
  have eg:ar 2 (PV.int z) (oQ zs xs s2 s3 s4)= .ok (oQ zs xs (.v (.int z)) s3 s4):=rfl
  obtain⟨xs',s',s3',s4',e,e1,e2,e3,_⟩:=tT n zs z s3 s4 h1 h2 h3 (by omega)
  obtain⟨xs'',s'',t2,t3,t4,f,f1,f2,f3⟩:=lR n zs l (k+1) s' xs' (.v (.int z)) s3' s4' e1 e2 e3 (by omega)
  refine⟨xs'',s'',t2,t3,t4,?_,by simp;omega,f2,by simp;omega⟩
  rw[List.map_cons,forD,eg,bn,e]
  exact f
theorem lS(n:Nat)(zs:List Int)(j:Nat):∀(k:Nat) (xs:List PV) (s:Nat) (s2 s3 s4:Sl),xs.length<=k+1->k<=63->rj xs s ->
  ∃xs' s' s4',bP (dS (aS (d2 CJ .(Ag) (dC (.int 1))))) (mX (gF (n+1))) (k+1+j) (oQ zs xs s2 s3 s4)=some (.nx (oQ zs xs' s2 s3 s4'))/\xs'.length<=1/\rj xs' s'/\s'<=s+k
 |k,xs,s,s2,s3,s4,h1,h2,hS=>by
  have tt:dS (aS (d2 CJ .(Ag) (dC (.int 1)))) (oQ zs xs s2 s3 s4)= .ok (decide (1<xs.length),oQ zs xs s2 s3 s4):=by
   have:decide ((1:Int)<((xs.length:Nat):Int))=decide (1<xs.length):=by
    rw[decide_eq_decide];omega
   simp[Ow.pv]
   omega
  rw[show k+1+j=(k+j)+1 by omega,bP,tt]
  by_cases h:1<xs.length
  ·rw[decide_eq_true h]
   dsimp only
   obtain⟨ys,v2,t,m,rfl,hT,hv2,rfl⟩:=hS.pop (by intro q;subst q;simp at h)
   obtain⟨us,v1,t',m',rfl,hT',hv1,rfl⟩:=hT.pop (by intro q;subst q;simp at h)
   have hl:us.length<sizeLine:=gx (by simp at h1;omega)
   have eb:mX (gF (n+1)) (oQ zs (us++[v1]++[v2]) s2 s3 s4)= .nx (oQ zs (us++[.tup [.str "row",v1,v2]]) s2 s3 (.v v2)):=by
    unfold mX
    simp[hl,jX,jY, -List.append_assoc]
   rw[eb]
   obtain⟨k,rfl⟩:∃k',k=k'+1:=⟨k-1,by simp at h1 h;omega⟩
   obtain⟨xs',s',s4',e,e1,e2,e3⟩:=lS n zs j k (us++[.tup [.str "row",v1,v2]]) _ s2 s3 (.v v2) (by simp at h1 ⊢;omega) (by omega) (hT'.push (.row hv1 hv2))
   exact⟨xs',s',s4',e,e1,e2,by omega⟩
  ·rw[decide_eq_false h]
   exact⟨xs,s,s4,rfl,by omega,hS,by omega⟩
termination_by k=>k
theorem zi(n:Nat)(zs:List Int)(hz:zs.length<=63):∃v m,gF (n+2) 22 [.lst (zs.map PV.int)]= .ok v/\lQ v m/\m<=2*zs.length+1:=by
 rw[g_zm,aC rfl]
 show ∃v m,fin (sW (gF (n+1)) [.v (.lst (zs.map PV.int)),.no,.no,.no,.no])= .ok v/\_
 obtain⟨xs,s,s2,s3,s4,e1,f1,f2,f3⟩:=lR n zs zs 0 0 [] .no .no .no .(Ac) ⟨[],rfl,(fun p hp=>by cases hp),rfl⟩ .(Ac) (by omega)
 obtain⟨xs',s',s4',e2,g1,g2,g3⟩:=lS n zs (99999-zs.length) zs.length xs s s2 s3 s4 (by omega) hz f2
 rw[show zs.length+1+(99999-zs.length)=100000 by omega]at e2
 have e1:sFor (aI (ae 0)) (ar 2) (kj (gF (n+1))) [.v (.lst (zs.map PV.int)),.own (.lst []),.no,.no,.no]= .nx (oQ zs xs s2 s3 s4):=e1
 have o1:gW 1 dNil [.v (.lst (zs.map PV.int)),.no,.no,.no,.no]= .nx [.v (.lst (zs.map PV.int)),.own (.lst []),.no,.no,.no]:=rfl
 unfold sW
 rw[ay,o1,aj,ay,e1,aj,ay,gg,e2]
 simp only[Option.getD_some,aj]
 match xs',g1,g2 with
 |[],_,_ =>
  refine⟨.tup [.str "deed",.str "P"],1,?_,.deed (.inl rfl),by omega⟩
  rfl
 |[v],_,g2 =>
  obtain⟨ys,v',t,m,e,hT,hv,hm⟩:=g2.pop (by simp)
  have:ys=[]:=by
   have:=congrArg List.length e
   simp at this
   exact this
  subst this
  have:v=v':=by simpa using e
  subst this
  refine⟨v,m,?_,hv,by omega⟩
  rfl
 |_::_::_,g1,_=>simp at g1
theorem zj:∀{v:PV} {m:Nat},lQ v m->∀n,m+1<n->∃t:St,gF n 23 [v]= .ok t.pv/\t.ok/\t.depth<=m+2/\t.size<=5*m/\t.ders.length<=m:=by
 intro v m h
 induction h with
 |skip =>
  intro n hn
  obtain⟨k,rfl⟩:∃k,n=k+1:=⟨n-1,by omega⟩
  exact⟨.skip,rfl,True.intro,by decide,by decide,by decide⟩
 |stop =>
  intro n hn
  obtain⟨k,rfl⟩:∃k,n=k+1:=⟨n-1,by omega⟩
  exact⟨.stop,rfl,True.intro,by decide,by decide,by decide⟩
 |deed h =>
  intro n hn
  obtain⟨k,rfl⟩:∃k,n=k+1:=⟨n-1,by omega⟩
  exact⟨.deed _,rfl,h,by simp[St.depth],by simp[St.size],by simp[St.ders]⟩
 | @row a b m k h1 h2 i1 i2 =>
  intro n hn
  obtain⟨j,rfl⟩:∃j,n=j+1:=⟨n-1,by omega⟩
  obtain⟨t1,e1,o1,d1,s1,r1⟩:=i1 j (by omega)
  obtain⟨t2,e2,o2,d2,s2,r2⟩:=i2 j (by omega)
  refine⟨.row t1 t2,?_,⟨o1,o2⟩,by show max t1.depth t2.depth+1<=_;omega,by show t1.size+t2.size+1<=_;omega,by simp[St.ders];omega⟩
  rw[g_zn,aC rfl]
  show fin (kK (gF j) [.v (.tup [.str "row",a,b])])=_
  have j0:fIx (.tup [.str "row",a,b]) (.int 0)= .ok (.str "row"):=rfl
  have j1:fIx (.tup [.str "row",a,b]) (.int 1)= .ok a:=rfl
  have j2:fIx (.tup [.str "row",a,b]) (.int 2)= .ok b:=rfl
  have n1:(("row":Str) == "skip")=false:=by decide +kernel
  have n2:(("row":Str) == "stop")=false:=by decide +kernel
  have n3:(("row":Str) == "deed")=false:=by decide +kernel
  unfold kK
  simp[j0,j1,j2, -cS,n1,n2,n3,e1,e2,St.pv]
 | @ite g a b m k hg h1 h2 i1 i2 =>
  intro n hn
  obtain⟨j,rfl⟩:∃j,n=j+2:=⟨n-2,by omega⟩
  obtain⟨t1,e1,o1,d1,s1,r1⟩:=i1 (j+1) (by omega)
  obtain⟨t2,e2,o2,d2,s2,r2⟩:=i2 (j+1) (by omega)
  obtain⟨t0,e0,o0,d0,s0⟩:=eP j hg
  refine⟨.choice t0 t1 t2,?_,⟨o0,o1,o2⟩,by show max t0.depth (max t1.depth t2.depth)+1<=_;omega,by show t0.size+t1.size+t2.size+1<=_;omega,by simp[St.ders];omega⟩
  rw[g_zn,aC rfl]
  show fin (kK (gF (j+1)) [.v (.tup [.str "if",g,a,b])])=_
  have j0:fIx (.tup [.str "if",g,a,b]) (.int 0)= .ok (.str "if"):=rfl
  have j1:fIx (.tup [.str "if",g,a,b]) (.int 1)= .ok g:=rfl
  have j2:fIx (.tup [.str "if",g,a,b]) (.int 2)= .ok a:=rfl
  have j3:fIx (.tup [.str "if",g,a,b]) (.int 3)= .ok b:=rfl
  have n1:(("if":Str) == "skip")=false:=by decide +kernel
  have n2:(("if":Str) == "stop")=false:=by decide +kernel
  have n3:(("if":Str) == "deed")=false:=by decide +kernel
  have n4:(("if":Str) == "row")=false:=by decide +kernel
  unfold kK
  simp[j0,j1,j2,j3, -cS,n1,n2,n3,n4,e0,e1,e2,St.pv]
 | @whl g a m hg h1 i1 =>
  intro n hn
  obtain⟨j,rfl⟩:∃j,n=j+2:=⟨n-2,by omega⟩
  obtain⟨t1,e1,o1,d1,s1,r1⟩:=i1 (j+1) (by omega)
  obtain⟨t0,e0,o0,d0,s0⟩:=eP j hg
  refine⟨.loop t0 t1,?_,⟨o0,o1⟩,by show max t0.depth t1.depth+1<=_;omega,by show t0.size+t1.size+1<=_;omega,by simp[St.ders];omega⟩
  rw[g_zn,aC rfl]
  show fin (kK (gF (j+1)) [.v (.tup [.str "while",g,a])])=_
  have j0:fIx (.tup [.str "while",g,a]) (.int 0)= .ok (.str "while"):=rfl
  have j1:fIx (.tup [.str "while",g,a]) (.int 1)= .ok g:=rfl
  have j2:fIx (.tup [.str "while",g,a]) (.int 2)= .ok a:=rfl
  have n1:(("while":Str) == "skip")=false:=by decide +kernel
  have n2:(("while":Str) == "stop")=false:=by decide +kernel
  have n3:(("while":Str) == "deed")=false:=by decide +kernel
  have n4:(("while":Str) == "row")=false:=by decide +kernel
  have n5:(("while":Str) == "if")=false:=by decide +kernel
  unfold kK
  simp[j0,j1,j2, -cS,n1,n2,n3,n4,n5,e0,e1,St.pv]
theorem iH(n:Nat)(ns:List Int)(k:Nat):∃z,gF (n+1) 17 [.lst .(I),.int (k:Int)]= .ok (.int z):=by
 rw[g_zh,aC rfl]
 show ∃z,fin (sS (gF n) [.v .(D),.v .(AA)])= .ok (.int z)
 unfold sS
 by_cases h:k<ns.length
 ·have hi:gN .(I) (k:Int)=some (PV.int ns[k]):=by
   rw[dE (by rw[List.getElem?_map,List.getElem?_eq_getElem h];rfl)]
  exact⟨ns[k],by simp[h,hi]⟩
 ·exact⟨0,by simp[h]⟩
end M63
end
noncomputable section
namespace M63
open PySem L2 DN
theorem kz(n:Nat)(z k:Int)(h0:0<=k):∃y,gF (n+1) 18 [.int z,.int k]= .ok (.int y):=by
 rw[g_zi,aC rfl]
 have ei:ol [false,false] 3 [.int z,.int k]=[.v (.int z),.v (.int k),.no]:=rfl
 rw[ei]
 unfold wT
 generalize hw:(Builtin.bitAnd z 2147483647+7919*k+1)*48271 % 2147483647=w
 have w1:0<=w/\w<2147483647:=by omega
 generalize hv:w*(w / 1009+69621) % 2147483647=v
 have v1:0<=v/\v<2147483647:=by omega
 have b1:(-18446744073709551616<w/\w<18446744073709551616):=by omega
 have b2:(-18446744073709551616<v/\v<18446744073709551616):=by omega
 have b3:0<=31*k+31:=by omega
 exact⟨_,by simp[hw,b1,hv,b2,b3];rfl⟩
theorem iI(n:Nat)(z:Int):∃t:Tr,(∃g,gF (n+1) 19 [.int z]= .ok g/\gF (n+1) 20 [g]= .ok t.pv)/\t.ok/\t.depth<=2:=by
 obtain⟨g,e,hg⟩:=ky n z
 obtain⟨t,e2,h1,h2,_⟩:=eP n hg
 exact⟨t,⟨g,e,e2⟩,h1,h2⟩
theorem tU(n:Nat)(z:Int):∃y:Sy,gF (n+2) 24 [.int z]= .ok y.pv/\y.ok 3:=by
 obtain⟨a,⟨ga,ea1,ea2⟩,oa,da⟩:=iI n (z / 4)
 obtain⟨b,⟨gb,eb1,eb2⟩,ob,db⟩:=iI n (z / 384)
 obtain⟨c,ec,hc⟩:=kx (j:=z / 36864 % 5) (by omega) (by omega)
 rw[g_zo,aC rfl]
 show ∃y:Sy,fin (sX (gF (n+1)) [.v (.int z),.no,.no,.no])=_/\_
 unfold sX
 by_cases h0:z % 4=0
 ·exact⟨.nowhere a,by simp[ea1,ea2,eb1,eb2,ec,h0];rfl,by simp[Sy.ok, *];omega⟩
 ·have q0:(z % 4 == 0)=false:=by simpa using h0
  by_cases h1:z % 4=1
  ·exact⟨.through a c,by simp[ea1,ea2,eb1,eb2,ec,q0,h1];rfl,by simp[Sy.ok, *];omega⟩
  ·have q1:(z % 4 == 1)=false:=by simpa using h1
   exact⟨.behind a c b,by simp[ea1,ea2,eb1,eb2,ec,q0,q1];rfl,by simp[Sy.ok, *];omega⟩
theorem pZ(n:Nat)(l:List Int)(hl:l.length<=1000)(m:Int):∃ys:List Sy,gF (n+3) 25 [.lst .(AI),.int m]= .ok .(B)/\(∀y∈ys,y.ok 3)/\ys.length<=l.length:=by
 obtain⟨ms,em,hm⟩:=ix l none (some m)
 have hml:ms.length<=l.length:=by omega
 have hf:∀z:Int,∃y:Sy,gF (n+2) 24 [.int z]= .ok y.pv/\y.ok 3:=tU n
 refine⟨ms.map fun z=>Classical.choose (hf z),?_,?_,by simpa using hml⟩
 ·rw[g_zp,aC rfl]
  show fin (sY (gF (n+2)) [.v (.lst .(AI)),.v (.int m)])=_
  unfold sY
  have hc:dComp ["_law_cell"] [] (aI (dOfN (cJ (dSee 0) hG (gp (ae 1))))) (ar 0) bM (dCall (gF (n+2) 24) .(Ao)) [.v (.lst .(AI)),.v (.int m)]= .ok (ms.map fun z=>(Classical.choose (hf z)).pv):=by
   unfold dComp
   have hi:aI (dOfN (cJ (dSee 0) hG (gp (ae 1)))) [.v (.lst .(AI)),.v (.int m)]= .ok (ms.map PV.int):=by
    have:aI (dOfN (cJ (dSee 0) hG (gp (ae 1)))) [.v (.lst .(AI)),.v (.int m)]= .ok (kG .(AI) none (some m)):=rfl
    rw[this,em]
   rw[hi,ao,if_pos (by rw[List.length_map];show _<=16777216;omega)]
   refine bC (ps0:=[]) PV.int (fun z=>(Classical.choose (hf z)).pv) ms .no fun z _=> ?_
   exact(Classical.choose_spec (hf z)).1
  rw[iw,dA,hc,List.map_map]
  rfl
 ·intro y hy
  obtain⟨z,_,rfl⟩:=List.mem_map.mp hy
  exact(Classical.choose_spec (hf z)).2
def Kv(bef:Tr)(t:St)(fit:Tr)(ys:List Sy):Prop:=bef.ok/\bef.depth<=2/\fit.ok/\fit.depth<=2/\t.ok/\t.depth<=13/\t.ders.length<=11/\(∀y∈ys,y.ok 3)/\ys.length<=8
theorem xo(n:Nat)(hn:20<=n)(ns:List Int)(h63:ns.length<=63):∃bef t fit ys,gF (n+4) 26 [.lst .(I)]= .ok (.tup [bef.pv,t.pv,fit.pv,.lst .(H)])/\Kv bef t fit ys:=by
 obtain⟨zs,ez,hz⟩:=ix ns (some 2) (some 7)
 have hz5:zs.length<=5:=by
  have e2:HT.sIx ns.length ns.length (some 7)<=7:=by unfold HT.sIx;simp <;> omega
  have e1:HT.sIx ns.length 0 (some 2)=min 2 ns.length:=by unfold HT.sIx;simp <;> omega
  rw[e1]at hz
  omega
 obtain⟨v,m,et,hv,hm⟩:=zi (n+1) zs (by omega)
 obtain⟨t,em,o1,d1,s1,r1⟩:=zj hv (n+3) (by omega)
 obtain⟨z0,c0⟩:=iH (n+2) ns 0
 obtain⟨z1,c1⟩:=iH (n+2) ns 1
 have c0:gF (n+3) 17 [.lst .(I),.int 0]= .ok (.int z0):=c0
 have c1:gF (n+3) 17 [.lst .(I),.int 1]= .ok (.int z1):=c1
 obtain⟨z,ez9⟩:=kz (n+2) z0 9 (by decide)
 obtain⟨a,⟨ga,ea1,ea2⟩,oa,da⟩:=iI (n+2) (z / 4)
 obtain⟨b,⟨gb,eb1,eb2⟩,ob,db⟩:=iI (n+2) (z / 384)
 have hmx:∀k:Nat,∃y,gF (n+3) 18 [.int z1,.int (k:Int)]= .ok (.int y):=fun k=>kz (n+2) z1 k (by omega)
 obtain⟨bef,ob',db',eb'⟩:∃bef:Tr,bef.ok/\bef.depth<=2/\bef=if z / 36864 % 3=0 then .yes else a:=⟨_,by split;exact True.intro;exact oa,by split;exact Nat.zero_le _;exact da,rfl⟩
 obtain⟨ys,es,oy,ly⟩:=pZ n ((List.range 3).map fun k=>Classical.choose (hmx k)) (by simp) (z % 4)
 rw[List.map_map]at es
 rw[g_zq,aC rfl]
 show ∃bef t fit ys,fin (sZ (gF (n+3)) [.v .(D),.no,.no,.no,.no,.no,.no])=_/\_
 unfold sZ
 have s1:aF 1 (dCall (gF (n+3) 23) (dCons (dCall (gF (n+3) 22) (dCons (dOfN (cJ (dSee 0) (gp (dC (.int 2))) (gp (dC (.int 7))))) dNil)) dNil)) [.v .(D),.no,.no,.no,.no,.no,.no]= .nx [.v .(D),.v t.pv,.no,.no,.no,.no,.no]:=by
  simp[ez,et,em]
 have s2:aF 2 (dCall (gF (n+3) 18) (dCons (dCall (gF (n+3) 17) (dCons (ae 0) (dCons (dC (.int 0)) dNil))) (dCons (dC (.int 9)) dNil))) [.v .(D),.v t.pv,.no,.no,.no,.no,.no]= .nx [.v .(D),.v t.pv,.v (.int z),.no,.no,.no,.no]:=by
  simp[c0,ez9]
 have s3:aF 3 (dCall (gF (n+3) 20) (dCons (dCall (gF (n+3) 19) (dCons (d2 cP (dSee 2) (dC (.int 4))) dNil)) dNil)) [.v .(D),.v t.pv,.v (.int z),.no,.no,.no,.no]= .nx [.v .(D),.v t.pv,.v (.int z),.v a.pv,.no,.no,.no]:=by
  simp[ea1,ea2]
 have s4:aF 4 (dCall (gF (n+3) 20) (dCons (dCall (gF (n+3) 19) (dCons (d2 cP (dSee 2) (dC (.int 384))) dNil)) dNil)) [.v .(D),.v t.pv,.v (.int z),.v a.pv,.no,.no,.no]= .nx [.v .(D),.v t.pv,.v (.int z),.v a.pv,.v b.pv,.no,.no]:=by
  simp[eb1,eb2]
 have s5:cG (aS (d2 cB (d2 fMod (d2 cP (dSee 2) (dC (.int 36864))) (dC (.int 3))) (dC (.int 0)))) (aF 3 (dC (.obj 1 []))) aJ [.v .(D),.v t.pv,.v (.int z),.v a.pv,.v b.pv,.no,.no]= .nx [.v .(D),.v t.pv,.v (.int z),.v bef.pv,.v b.pv,.no,.no]:=by
  subst eb'
  by_cases h:z / 36864 % 3=0
  ·simp[h];rfl
  ·have hb:(z / 36864 % 3 == 0)=false:=by simpa using h
   simp[hb,h]
 have hc:dComp ["_law_k"] [("_law_script",0)] (bA (dCons (dC (.int 3)) dNil)) (ar 0) bM (dCall (gF (n+3) 18) (dCons (dCall (gF (n+3) 17) (dCons (ae 1) (dCons (dC (.int 1)) dNil))) .(Ao))) [.v .(D),.v t.pv,.v (.int z),.v bef.pv,.v b.pv,.no,.no]= .ok ((List.range 3).map (PV.int ∘ fun k=>Classical.choose (hmx k))):=by
  unfold dComp
  rw[n0 (k:=3) rfl (by decide),ao,if_pos (by rw[List.length_map];decide)]
  refine bC (ps0:=[.v .(D)]) (fun(i:Nat)=>PV.int (i:Int)) (PV.int ∘ fun k=>Classical.choose (hmx k)) (List.range 3) .no fun k _=> ?_
  have h0:dCall (gF (n+3) 17) (dCons (ae 1) (dCons (dC (.int 1)) dNil)) [.v .(AA),.v .(D)]= .ok (.int z1):=c1
  rw[cL,cb,h0]
  exact Classical.choose_spec (hmx k)
 have s6:aF 5 (dCall (gF (n+3) 25) (dCons (dOfN (dComp ["_law_k"] [("_law_script",0)] (bA (dCons (dC (.int 3)) dNil)) (ar 0) bM (dCall (gF (n+3) 18) (dCons (dCall (gF (n+3) 17) (dCons (ae 1) (dCons (dC (.int 1)) dNil))) .(Ao))))) (dCons (d2 fMod (dSee 2) (dC (.int 4))) dNil))) [.v .(D),.v t.pv,.v (.int z),.v bef.pv,.v b.pv,.no,.no]= .nx [.v .(D),.v t.pv,.v (.int z),.v bef.pv,.v b.pv,.v .(B),.no]:=by
  rw[fK,cL,cb,dA,hc]
  show(((dCons (d2 fMod (dSee 2) (dC (.int 4))) dNil [.v .(D),.v t.pv,.v (.int z),.v bef.pv,.v b.pv,.no,.no]).bind fun x=>Rx.ok (PV.lst ((List.range 3).map (PV.int ∘ fun k=>Classical.choose (hmx k)))::x)).bind _).st _=_
  have:dCons (d2 fMod (dSee 2) (dC (.int 4))) dNil [.v .(D),.v t.pv,.v (.int z),.v bef.pv,.v b.pv,.no,.no]= .ok [.int (z % 4)]:=by simp
  rw[this,ao,ao,es]
  rfl
 rw[ay,s1,aj,ay,s2,aj,ay,s3,aj,ay,s4,aj,ay,s5,aj,ay,s6,aj,ay]
 have hly:ys.length<=3:=by simpa using ly
 by_cases h:z / 110592 % 4=1
 ·refine⟨bef,t,b,[.nowhere .no,.through .yes "P",.behind .no "Q" bef,.behind b "R" .yes]++[.through .no "T"]++ys,?_,ob',db',ob,db,o1,by omega,by omega,?_,by simp;omega⟩
  ·have hz1:(5:Nat)<=sizeLine:=by decide
   have hz2:5+ys.length<=sizeLine:=by show _<=16777216;omega
   have hz3:ys.length+1+1+1+1+1<=sizeLine:=by show _<=16777216;omega
   simp[h,hz1,hz2,hz3,Nat.add_comm,Nat.add_left_comm];exact⟨rfl,rfl,rfl,rfl,rfl⟩
  ·intro y hy
   simp only[List.append_assoc,List.cons_append,List.nil_append,List.mem_cons]at hy
   rcases hy with rfl|rfl|rfl|rfl|rfl|hy
   ·exact⟨True.intro,by decide⟩
   ·exact⟨⟨True.intro,by decide⟩,.inl rfl⟩
   ·exact⟨⟨True.intro,by decide⟩,.inr (.inl rfl),ob',by omega⟩
   ·exact⟨⟨ob,by omega⟩,.inr (.inr (.inl rfl)),True.intro,by decide⟩
   ·exact⟨⟨True.intro,by decide⟩,.inr (.inr (.inr (.inr rfl)))⟩
   ·exact oy y hy
 ·have hb:(z / 110592 % 4 == 1)=false:=by simpa using h
  refine⟨bef,t,b,ys,?_,ob',db',ob,db,o1,by omega,by omega,oy,by omega⟩
  simp[hb]
end M63
end
noncomputable section
namespace M63
open PySem L2 DN
theorem xp(l:List Nat){i x:Nat}(h:l[i]? =some x):fIx (bJ l) (.int (i:Int))= .ok (.int (x:Int)):=by
 show(match gN (l.map fun(i:Nat)=>PV.int (i:Int)) (i:Int)with|some w=>Rx.ok w|none=> .bad)=_
 rw[dE (v:=PV.int (x:Int)) (by rw[List.getElem?_map,h];rfl)]
theorem rm(l:List Nat):bLen [bJ l]= .ok (.int (l.length:Int)):=by
 show Rx.ok (PV.int (((l.map fun(i:Nat)=>PV.int (i:Int)).length:Nat):Int))=_
 rw[List.length_map]
theorem Jz(l:List Nat)(h:l≠[])(z:Int):∃x,x∈l/\0<(l.length:Int)/\fIx (bJ l) (.int (z % (l.length:Int)))= .ok (.int (x:Int)):=by
 have hl:0<l.length:=List.length_pos_iff.mpr h
 have h0:0<=z % (l.length:Int):=Int.emod_nonneg _ (by omega)
 have h1:z % (l.length:Int)<(l.length:Int):=Int.emod_lt_of_pos _ (by omega)
 obtain⟨j,hj⟩:∃j:Nat,z % (l.length:Int)=(j:Int):=⟨(z % (l.length:Int)).toNat,by omega⟩
 have hj':j<l.length:=by omega
 refine⟨l[j],List.getElem_mem hj',by omega,?_⟩
 rw[hj]
 exact xp l (List.getElem?_eq_getElem hj')
theorem rn(l:List Nat)(x:Nat):fIx (bJ (l++[x])) (.int (-1))= .ok (.int (x:Int)):=by
 have:=nt (l.map fun(i:Nat)=>(i:Int)) (x:Int)
 have e:bJ (l++[x])=iL ((l.map fun(i:Nat)=>(i:Int))++[(x:Int)]):=by
  simp[bJ,iL]
 rw[e,this]
theorem lT:∀l:List Nat,aN (l.map fun(i:Nat)=>PV.int (i:Int))=0
 |[]=>rfl
 |x::l=>by rw[List.map_cons,aN,lT l];rfl
theorem xq{w:Str}(h:isEnd w):cK false (.str w) .(Ax)= .ok (.bl true):=by
 rcases h with rfl|rfl|rfl <;> rfl
theorem q8{w:Str}(h:bL w):cK false (.str w) .(Ax)= .ok (.bl false):=by
 rcases h with rfl|rfl|rfl|rfl|rfl <;> rfl
noncomputable section
variable(n:Nat)(t:St)(ho:t.ok)(ys:List Sy)
abbrev lU(S:PV)(bg:PV)(z:Int)(ss:List Nat)(y:Str)(r:Nat)(s8 s9 s10 s11:Sl):aT:=[.v S,.v (az (Dr t 0)),.v (ap ys),.v bg,.v (.int z),.own (.lst (ss.map fun(i:Nat)=>PV.int (i:Int))),.v (.str y),.v .(Ak),s8,s9,s10,s11]
include ho in
theorem lV(S bg:PV)(z:Int):∀(ks:List Nat) (s0:List Nat) (x:Nat) (y:Str) (r:Nat) (s8 s9 s10 s11:Sl),x<16->r<t.ders.length+1->s0.length+ks.length<=1000->y.length+ks.length<=1000 ->
  ∃(l:List Nat) (y':Str),fin ((forD (ar 8) (pJ (gF (n+2))) (ks.map fun(i:Nat)=>PV.int (i:Int)) (lU t ys S bg z (s0++[x]) y r s8 s9 s10 s11)).next (g7 (iU (bI (gU 5) (bI (bS (ae 6)) iT)))))= .ok (.tup [bJ l,.str y'])/\l≠[]/\l.length<=s0.length+1+ks.length/\y'.length<=y.length+ks.length
 |[],s0,x,y,r,s8,s9,s10,s11,_,_,_,_=>⟨s0++[x],y,rfl,by simp,by simp,Nat.le_refl _⟩
 |k::ks,s0,x,y,r,s8,s9,s10,s11,hx,hr,hl,hyl=>by
  have hM:=fO t ho ys .yes
  have hl:s0.length+(ks.length+1)<=1000:=hl
  have hyl:y.length+(ks.length+1)<=1000:=hyl
  have e1:=kt t hr
  have e2:=xz (rwN t r) (s:=(x:Int)) (by omega) (by omega)
  have hz:=(iE t ho (s:=x) hr).1
  have hd:kL (rwN t r (x:Int))= .tup [.str ((mzOf t ys .yes).what r x),.int ((mzOf t ys .yes).there r x:Nat)]:=by
   show PV.tup [.str (rwN t r (x:Int)).1,.int (rwN t r (x:Int)).2]= .tup [.str (rwN t r (x:Int)).1,.int ((rwN t r (x:Int)).2.toNat:Nat)]
   rw[<-hz]
  have kd:isEnd ((mzOf t ys .yes).what r x)\/(bL ((mzOf t ys .yes).what r x)/\(mzOf t ys .yes).there r x<t.ders.length+1):=hM.kind r x hr hx
  generalize (mzOf t ys .yes).what r x=W at *
  generalize (mzOf t ys .yes).there r x=T at *
  have eg:ar 8 (PV.int (k:Int)) (lU t ys S bg z (s0++[x]) y r s8 s9 s10 s11)= .ok (lU t ys S bg z (s0++[x]) y r (.v .(AA)) s9 s10 s11):=rfl
  have la:d2 fIx (dSee 5) (gz (dC (.int 1))) (lU t ys S bg z (s0++[x]) y r (.v .(AA)) s9 s10 s11)= .ok (.int (x:Int)):=rn s0 x
  have a1:gX (bY 2 (aE (ar 10) (aE (ar 11) bX))) (d2 fIx (d2 fIx (dSee 1) (dSee 7)) (d2 fIx (dSee 5) (gz (dC (.int 1))))) (lU t ys S bg z (s0++[x]) y r (.v .(AA)) s9 s10 s11)= .nx .(V):=by
   rw[EF,v5,la]
   show(((fIx (az (Dr t 0)) .(Ak)).bind fun x1=>fIx x1 (.int (x:Int))).st _)=_
   rw[e1,ao,e2,bn,hd]
   rfl
  rw[List.map_cons,forD,eg,bn]
  unfold pJ
  rw[ay,a1,aj,ay,cq]
  rcases kd with he|⟨hD,hT⟩
  ·have tt:aS (d2 (cK false) (dSee 10) (bW (dCons (dC (.str "done")) (dCons (dC (.str "stopped")) (dCons (dC (.str "hung")) dNil))))) .(V)= .ok true:=by
    show((cK false (.str W) .(Ax)).bind _)=_
    rw[xq he];rfl
   rw[tt]
   exact⟨s0++[x],y,rfl,by simp,by simp,by omega⟩
  ·have tt:aS (d2 (cK false) (dSee 10) (bW (dCons (dC (.str "done")) (dCons (dC (.str "stopped")) (dCons (dC (.str "hung")) dNil))))) .(V)= .ok false:=by
    show((cK false (.str W) .(Ax)).bind _)=_
    rw[q8 hD];rfl
   have e4:=iC ys (n+1) hD hx
   have e5:=jA (n+1) (letm ys W x &&& gdS ys)
   have la2:d2 fIx (dSee 5) (gz (dC (.int 1))) .(V)= .ok (.int (x:Int)):=rn s0 x
   have s9e:aF 9 (dCall (gF (n+2) 27) (dCons (aM bQ (gF (n+2)) (ae 2) (dCons (ae 10) (dCons (d2 fIx (dSee 5) (gz (dC (.int 1)))) dNil))) dNil)) .(V)= .nx (lU t ys S bg z (s0++[x]) y r (.v .(AA)) (.v (bJ (bits (letm ys W x &&& gdS ys)))) (.v (.str W)) .(At)):=by
    have m1:aM bQ (gF (n+2)) (ae 2) (dCons (ae 10) (dCons (d2 fIx (dSee 5) (gz (dC (.int 1)))) dNil)) .(V)= .ok (.int ((letm ys W x &&& gdS ys:Nat):Int)):=by
     rw[mE,cb,cb,la2]
     exact e4
    rw[fK,cL,cb,m1,eW,bO,ao,e5]
    rfl
   rw[tt,eV,eL,aj,ay,s9e,aj,ay,cq]
   have eqn:=xn (xs:=(bits (letm ys W x &&& gdS ys)).map fun(i:Nat)=>PV.int (i:Int)) (by rw[lT];decide)
   have t2:aS (d2 cB (dSee 9) (dOfN dNil)) (lU t ys S bg z (s0++[x]) y r (.v .(AA)) (.v (bJ (bits (letm ys W x &&& gdS ys)))) (.v (.str W)) .(At))= .ok (((bits (letm ys W x &&& gdS ys)).map fun(i:Nat)=>PV.int (i:Int)).isEmpty):=by
    show((cB (.lst ((bits (letm ys W x &&& gdS ys)).map fun(i:Nat)=>PV.int (i:Int))) (.lst [])).bind _)=_
    rw[eqn];rfl
   rw[t2]
   by_cases hb:bits (letm ys W x &&& gdS ys)=[]
   ·have h2:((bits (letm ys W x &&& gdS ys)).map fun(i:Nat)=>PV.int (i:Int)).isEmpty=true:=by rw[hb];rfl
    rw[h2]
    exact⟨s0++[x],y,rfl,by simp,by simp,by omega⟩
   ·have h2:((bits (letm ys W x &&& gdS ys)).map fun(i:Nat)=>PV.int (i:Int)).isEmpty=false:=by simpa using hb
    obtain⟨w,ew⟩:=kz (n+1) z (k:Int) (by omega)
    obtain⟨x',hx',hp,ep⟩:=Jz _ hb w
    have el:=rm (bits (letm ys W x &&& gdS ys))
    have hx16:=(bq.mp hx').1
    have hsl:(s0++[x]).length<sizeLine:=by simp;show _<16777216;omega
    have hdl:W.length=1:=j6 hD
    have hcs:y.length+W.length<=sizeLine:=by rw[hdl];show _<=16777216;omega
    obtain⟨l,y',e,q1,q2,q3⟩:=lV S bg z ks (s0++[x]) x' (y++W) T (.v .(AA)) (.v (bJ (bits (letm ys W x &&& gdS ys)))) (.v (.str W)) .(At) hx16 hT (by simp;omega) (by rw[PySem.Str.length_append,hdl];omega)
    refine⟨l,y',?_,q1,by simp at q2 ⊢;omega,by rw[PySem.Str.length_append,hdl]at q3;simp;omega⟩
    rw[h2,eV,eL,aj]
    generalize hB:bits (letm ys W x &&& gdS ys)=BB at *
    have x1:cx (iq 5 (bS (d2 fIx (dSee 9) (d2 fMod (dCall (gF (n+2) 18) (dCons (ae 4) (dCons (ae 8) dNil))) (dCall bLen (dCons (dSee 9) dNil)))))) (lU t ys S bg z (s0++[x]) y r (.v .(AA)) (.v (bJ BB)) (.v (.str W)) .(At))= .nx (lU t ys S bg z (s0++[x]++[x']) y r (.v .(AA)) (.v (bJ BB)) (.v (.str W)) .(At)):=by
     have f3:d2 fIx (dSee 9) (d2 fMod (dCall (gF (n+2) 18) (dCons (ae 4) (dCons (ae 8) dNil))) (dCall bLen (dCons (dSee 9) dNil))) (lU t ys S bg z (s0++[x]) y r (.v .(AA)) (.v (bJ BB)) (.v (.str W)) .(At))= .ok (.int (x':Int)):=by
      simp only[v5,jV,qt,zF,cL,cb,eW,List.getElem?_cons_zero,List.getElem?_cons_succ,ao,bO,dq,ew,el,vc,hp,if_true,ep]
     rw[v8,EG]
     show((((bS _ _).bind _)).st _)=_
     rw[Bc,f3,ao,ao]
     show Rx.st (if ((s0++[x]).map fun(i:Nat)=>PV.int (i:Int)).length<sizeLine then Rx.ok (PV.non,([.v S,.v (az (Dr t 0)),.v (ap ys),.v bg,.v (.int z),.own (.lst (((s0++[x]).map fun(i:Nat)=>PV.int (i:Int))++[.int (x':Int)])),.v (.str y),.v .(Ak),.v .(AA),.v (bJ BB),.v (.str W),.v (.int (T:Nat))]:aT)) else .bad) _=_
     rw[if_pos (by rw[List.length_map];exact hsl)]
     show Rs.nx [.v S,.v (az (Dr t 0)),.v (ap ys),.v bg,.v (.int z),.own (.lst (((s0++[x]).map fun(i:Nat)=>PV.int (i:Int))++[.int (x':Int)])),.v (.str y),.v .(Ak),.v .(AA),.v (bJ BB),.v (.str W),.v (.int (T:Nat))]=_
     rw[show((s0++[x]).map fun(i:Nat)=>PV.int (i:Int))++[.int (x':Int)]=(s0++[x]++[x']).map fun(i:Nat)=>PV.int (i:Int)by simp]
    have x2:aF 6 (d2 im (dSee 6) (dSee 10)) (lU t ys S bg z (s0++[x]++[x']) y r (.v .(AA)) (.v (bJ BB)) (.v (.str W)) .(At))= .nx (lU t ys S bg z (s0++[x]++[x']) (y++W) r (.v .(AA)) (.v (bJ BB)) (.v (.str W)) .(At)):=by
     rw[fK]
     show((if y.length+W.length<=sizeLine then Rx.ok (PV.str (y++W)) else .bad).st _)=_
     rw[if_pos hcs];rfl
    have x3:aF 7 (ae 11) (lU t ys S bg z (s0++[x]++[x']) (y++W) r (.v .(AA)) (.v (bJ BB)) (.v (.str W)) .(At))= .nx (lU t ys S bg z (s0++[x]++[x']) (y++W) T (.v .(AA)) (.v (bJ BB)) (.v (.str W)) .(At)):=rfl
    rw[ay,x1,aj,ay,x2,aj,x3]
    exact e
include ho in
theorem zk(ns:List Int)(st:Nat):∃(l:List Nat) (y:Str),gF (n+3) 30 [.lst .(I),az (Dr t 0),ap ys,bJ (bits st)]= .ok (.tup [bJ l,.str y])/\l≠[]/\l.length<=9/\y.length<=8:=by
 obtain⟨z,c9⟩:=iH (n+1) ns 9
 have c9:gF (n+2) 17 [.lst .(I),.int 9]= .ok (.int z):=c9
 have hbl:=ff st
 have el:=rm (bits st)
 generalize hB:bits st=BB at *
 have hB16:∀x∈BB,x<16:=fun x hx=>by rw[<-hB]at hx;exact(bq.mp hx).1
 obtain⟨x,hx,ex⟩:∃x:Nat,x<16/\d2 fIx (dOfN (dCatL (dSee 3) (dOfN (dCons (dC (.int 3)) dNil)))) (d2 fMod (d2 fMod (dSee 4) (d2 fAdd (dCall bLen (dCons (dSee 3) dNil)) (dC (.int 1)))) (dCall bMax2 (dCons (dC (.int 1)) (dCons (dCall bLen (dCons (dSee 3) dNil)) dNil)))) [.v .(D),.v (az (Dr t 0)),.v (ap ys),.v (bJ BB),.v (.int z),.no,.no,.no,.no,.no,.no,.no]= .ok (.int (x:Int)):=by
  have hmx:bMax2 [.int 1,.int (BB.length:Int)]= .ok (.int (if (BB.length:Int)>1 then(BB.length:Int) else 1)):=rfl
  generalize hq:(if (BB.length:Int)>1 then(BB.length:Int) else 1)=q at hmx
  have hq1:0<q/\q<=(BB.length:Int)+1:=by
   rw[<-hq];split <;> omega
  have hp:(0:Int)<(BB.length:Int)+1:=by omega
  have h0:0<=z % ((BB.length:Int)+1) % q:=Int.emod_nonneg _ (by omega)
  have h1:z % ((BB.length:Int)+1) % q<q:=Int.emod_lt_of_pos _ hq1.1
  obtain⟨j,hj⟩:∃j:Nat,z % ((BB.length:Int)+1) % q=(j:Int):=⟨(z % ((BB.length:Int)+1) % q).toNat,by omega⟩
  have hj':j<(BB++[3]).length:=by simp;omega
  have e3:=xp (BB++[3]) (List.getElem?_eq_getElem hj')
  refine⟨(BB++[3])[j],?_,?_⟩
  ·rcases List.mem_append.mp (List.getElem_mem hj')with p|p
   ·exact hB16 _ p
   ·rw[List.mem_singleton.mp p];decide
  ·have ec:dCatL (dSee 3) (dOfN (dCons (dC (.int 3)) dNil)) [.v .(D),.v (az (Dr t 0)),.v (ap ys),.v (bJ BB),.v (.int z),.no,.no,.no,.no,.no,.no,.no]= .ok ((BB++[3]).map fun(i:Nat)=>PV.int (i:Int)):=by
    show(if (BB.map fun(i:Nat)=>PV.int (i:Int)).length+1<=sizeLine then Rx.ok ((BB.map fun(i:Nat)=>PV.int (i:Int))++[.int 3]) else .bad)=_
    rw[if_pos (by rw[List.length_map];show _<=16777216;omega),List.map_append];rfl
   rw[v5,dA,ec]
   simp only[ao,v5,jV,zF,cL,cb,eW,List.getElem?_cons_zero,List.getElem?_cons_succ,bO,dq,el,vb,vc,hp,if_true,hmx,hq1.1,hj]
   exact e3
 obtain⟨l,y,e,q1,q2,q3⟩:=lV n t ho ys .(D) (bJ BB) z (List.range 8) [] x "" 0 .no .no .no .no hx (Nat.succ_pos _) (by simp) (by rw[show(("":Str)).length=0 by decide +kernel];simp)
 rw[show(("":Str)).length=0 by decide +kernel]at q3
 refine⟨l,y,?_,q1,by simpa using q2,by simpa using q3⟩
 rw[g_zu,aC rfl]
 show fin (tj (gF (n+2)) [.v .(D),.v (az (Dr t 0)),.v (ap ys),.v (bJ BB),.no,.no,.no,.no,.no,.no,.no,.no])=_
 unfold tj
 have w1:aF 4 (dCall (gF (n+2) 17) (dCons (ae 0) (dCons (dC (.int 9)) dNil))) [.v .(D),.v (az (Dr t 0)),.v (ap ys),.v (bJ BB),.no,.no,.no,.no,.no,.no,.no,.no]= .nx [.v .(D),.v (az (Dr t 0)),.v (ap ys),.v (bJ BB),.v (.int z),.no,.no,.no,.no,.no,.no,.no]:=by
  simp[c9]
 rw[ay,w1,aj,ay,zG,cb,ex]
 exact e
end
theorem nv{y:Str}{j:Int}(h0:0<=j)(h1:j<=y.cps.toList.length):(PySem.StrLaws.sliceText y none (some j)).length<=y.length:=by
 have hyl:y.length=y.cps.toList.length:=by simp[Str.length]
 rw[PySem.StrLaws.sliceText_to ⟨h0,h1⟩,hyl]
 simp[Str.length]
 omega
theorem kA{y:Str}{j:Int}(h0:0<=j)(h1:j<=y.cps.toList.length):(PySem.StrLaws.sliceText y (some j) none).length<=y.length:=by
 have hyl:y.length=y.cps.toList.length:=by simp[Str.length]
 rw[PySem.StrLaws.sliceText_from ⟨h0,h1⟩,hyl]
 simp[Str.length]
 omega
theorem Cq{j:Int}(h0:0<=j)(h1:j<7):∃c,fIx (.str "PQRSTUp") (.int j)= .ok (.str c)/\c.length=1:=by
 have:j=0\/j=1\/j=2\/j=3\/j=4\/j=5\/j=6:=by omega
 rcases this with rfl|rfl|rfl|rfl|rfl|rfl|rfl
 ·exact⟨⟨#[80]⟩,rfl,rfl⟩
 ·exact⟨⟨#[81]⟩,rfl,rfl⟩
 ·exact⟨⟨#[82]⟩,rfl,rfl⟩
 ·exact⟨⟨#[83]⟩,rfl,rfl⟩
 ·exact⟨⟨#[84]⟩,rfl,rfl⟩
 ·exact⟨⟨#[85]⟩,rfl,rfl⟩
 ·exact⟨⟨#[112]⟩,rfl,rfl⟩
theorem Cr{y:Str}(h:0<y.length):(y == ("":Str))=false:=by
 rw[beq_eq_false_iff_ne]
 intro q
 rw[q]at h
 revert h;decide +kernel
theorem qb(n:Nat)(l:List Int)(hl:l≠[])(hll:l.length<=20000)(y:Str)(hy:y.length<=20000)(z:Int):∃(l':List Int) (y':Str),gF (n+1) 31 [iL l,.str y,.int z]= .ok (.tup [iL l',.str y'])/\l'.length<=20001/\y'.length<=20001:=by
 have hp0:0<l.length:=List.length_pos_iff.mpr hl
 have hp:(0:Int)<(l.length:Int):=by omega
 have hyl:y.length=y.cps.toList.length:=by simp[Str.length]
 have el:bLen [.lst .(AI)]= .ok (.int (l.length:Int)):=by
  show Rx.ok (PV.int ((.(AI).length:Nat):Int))=_
  rw[List.length_map]
 have ely:bLen [.str y]= .ok (.int (y.length:Int)):=by
  show(if y.length<=sizeLine then Rx.ok (PV.int (y.length:Int)) else .bad)=_
  rw[if_pos (by show _<=16777216;omega)]
 rw[g_zv,aC rfl]
 show ∃(l':List Int) (y':Str),fin (tm (gF n) [.v (.lst .(AI)),.v (.str y),.v (.int z),.no,.no])=_/\_
 have s3:aF 3 (d2 fMod (d2 cP (dSee 2) (dC (.int 8))) (dCall bLen (dCons (dSee 0) dNil))) [.v (.lst .(AI)),.v (.str y),.v (.int z),.no,.no]= .nx [.v (.lst .(AI)),.v (.str y),.v (.int z),.v (.int (z / 8 % (l.length:Int))),.no]:=by
  simp only[fK,v5,jV,zF,cL,cb,eW,List.getElem?_cons_zero,List.getElem?_cons_succ,ao,bO,dq,el,vc,Int.reduceLT,and_self,if_true,hp,bn]
  rfl
 have s4:∀A,aF 4 (d2 fMod (dSee 2) (dC (.int 8))) [.v (.lst .(AI)),.v (.str y),.v (.int z),.v (.int A),.no]= .nx [.v (.lst .(AI)),.v (.str y),.v (.int z),.v (.int A),.v (.int (z % 8))]:=fun A=>by simp
 unfold tm
 rw[ay,s3,aj,ay,s4,aj]
 generalize hA:z / 8 % (l.length:Int)=A
 have hA0:0<=A:=by rw[<-hA];exact Int.emod_nonneg _ (by omega)
 obtain⟨m1,k1,q1⟩:=ix l none (some A)
 obtain⟨m2,k2,q2⟩:=ix l (some (A+1)) none
 have hA1:A<(l.length:Int):=by rw[<-hA];exact Int.emod_lt_of_pos _ hp
 have i1:HT.sIx l.length l.length (some A)=A.toNat:=by unfold HT.sIx;dsimp only;rw[if_neg (by omega)];omega
 have i2:HT.sIx l.length 0 (some (A+1))=A.toNat+1:=by unfold HT.sIx;dsimp only;rw[if_neg (by omega)];omega
 have i3:HT.sIx l.length 0 none=0:=rfl
 have i4:HT.sIx l.length l.length none=l.length:=rfl
 rw[i1,i3]at q1
 rw[i2,i4]at q2
 have l1:m1.length+m2.length+1=l.length:=by omega
 have z1:m1.length+1<=sizeLine:=by show _<=16777216;omega
 have z2:m1.length+1+m2.length<=sizeLine:=by show _<=16777216;omega
 have z3:m1.length+m2.length<=sizeLine:=by show _<=16777216;omega
 have z4:l.length+1<=sizeLine:=by show _<=16777216;omega
 by_cases w1:z % 8=1
 ·refine⟨m1++[z / 104 % 18-1]++m2,y,?_,by simp;omega,by omega⟩
  simp[w1,k1,k2,z1,z2,iL]
 have b1:(z % 8 == 1)=false:=by simpa using w1
 by_cases w2:z % 8=2/\0<y.length
 ·obtain⟨w2,hy0⟩:=w2
  have hn:=Cr hy0
  have hyp:(0:Int)<(y.length:Int):=by omega
  generalize hC:A % (y.length:Int)=C
  have hC0:0<=C:=by rw[<-hC];exact Int.emod_nonneg _ (by omega)
  have hC1:C<(y.length:Int):=by rw[<-hC];exact Int.emod_lt_of_pos _ hyp
  obtain⟨c,ec,hc⟩:=Cq (j:=z / 104 % 7) (by omega) (by omega)
  have u1:=nv (y:=y) hC0 (by omega)
  have u2:=kA (y:=y) (j:=C+1) (by omega) (by omega)
  have v0:(PySem.StrLaws.sliceText y none (some C)).length<=sizeLine:=by show _<=16777216;omega
  have v0':(PySem.StrLaws.sliceText y (some (C+1)) none).length<=sizeLine:=by show _<=16777216;omega
  have v1:(PySem.StrLaws.sliceText y none (some C)).length+c.length<=sizeLine:=by show _<=16777216;omega
  have v2:(PySem.StrLaws.sliceText y none (some C)++c).length+(PySem.StrLaws.sliceText y (some (C+1)) none).length<=sizeLine:=by rw[PySem.Str.length_append];show _<=16777216;omega
  have hsum:(PySem.StrLaws.sliceText y none (some C)).length+(PySem.StrLaws.sliceText y (some (C+1)) none).length<=y.length:=by
   have e1:=PySem.StrLaws.sliceText_to (x:=y) (j:=C) ⟨hC0,by omega⟩
   have e2:=PySem.StrLaws.sliceText_from (x:=y) (i:=C+1) ⟨by omega,by omega⟩
   rw[e1,e2,hyl]
   simp[Str.length]at hyl hC1 ⊢
   omega
  refine⟨l,PySem.StrLaws.sliceText y none (some C)++c++PySem.StrLaws.sliceText y (some (C+1)) none,?_,by omega,by rw[PySem.Str.length_append,PySem.Str.length_append];omega⟩
  have c1:im (.str (PySem.StrLaws.sliceText y none (some C))) (.str c)= .ok (.str (PySem.StrLaws.sliceText y none (some C)++c)):=if_pos v1
  have c2:im (.str (PySem.StrLaws.sliceText y none (some C)++c)) (.str (PySem.StrLaws.sliceText y (some (C+1)) none))= .ok (.str (PySem.StrLaws.sliceText y none (some C)++c++PySem.StrLaws.sliceText y (some (C+1)) none)):=if_pos v2
  simp[w2,hn,hyp,hy0,hC,ely,ec,v0,v0',c1,c2,iL]
 have b2:fY (aS (d2 cB (dSee 4) (dC (.int 2)))) (aS (d2 fJ (dSee 1) (dC (.str "")))) [.v (.lst .(AI)),.v (.str y),.v (.int z),.v (.int A),.v (.int (z % 8))]= .ok false:=by
  by_cases w:z % 8=2
  ·have:y="":=by
    have:y.length=0:=by
     rcases Nat.eq_zero_or_pos y.length with q|q
     ·exact q
     ·exact absurd ⟨w,q⟩ w2
    exact PySem.Str.ext' (by
     rw[<-Array.toList_inj]
     rw[hyl]at this
     exact List.eq_nil_of_length_eq_zero this)
   subst this
   simp[w]
  ·have b:(z % 8 == 2)=false:=by simpa using w
   simp[b]
 have t1:aS (d2 cB (dSee 4) (dC (.int 1))) [.v (.lst .(AI)),.v (.str y),.v (.int z),.v (.int A),.v (.int (z % 8))]= .ok false:=by simp[b1]
 rw[ay,cq,t1,eV,eL,aj,ay,cq,b2,eV,eL,aj]
 by_cases w3:z % 8=3
 ·refine⟨m1++m2,y,?_,by simp;omega,by omega⟩
  simp[w3,k1,k2,z3,iL]
 have b3:(z % 8 == 3)=false:=by simpa using w3
 by_cases w4:z % 8=4
 ·refine⟨l++[z / 104 % 16],y,?_,by simp;omega,by omega⟩
  simp[w4,z4,iL]
 have b4:(z % 8 == 4)=false:=by simpa using w4
 by_cases w5:z % 8=5
 ·obtain⟨c,ec,hc⟩:=kx (j:=z / 104 % 5) (by omega) (by omega)
  have hc1:=j6 hc
  have c1:im (.str y) (.str c)= .ok (.str (y++c)):=if_pos (by rw[hc1];show _<=16777216;omega)
  refine⟨l,y++c,?_,by omega,by rw[PySem.Str.length_append];omega⟩
  simp[w5,ec,c1,iL]
 have b5:(z % 8 == 5)=false:=by simpa using w5
 by_cases w6:z % 8=6
 ·obtain⟨m3,k3,q3⟩:=ix l none (some 1)
  refine⟨m3,"",?_,by omega,by decide +kernel⟩
  simp[w6,k3,iL]
 have b6:(z % 8 == 6)=false:=by simpa using w6
 refine⟨l,y,?_,by omega,by omega⟩
 simp[b3,b4,b5,b6,iL]
end M63
end
noncomputable section
namespace M63
open PySem L2 DN
theorem xr{t:St}(ho:t.ok){ys:List Sy}{fit:Tr}{st:Nat}{l:List Int}{cs:List Nat}(h:.(A).full st l cs=true)(hn:.(A).Near (eO st) none):False:=by
 unfold Mz.full at h
 rw[Bool.and_eq_true]at h
 cases l with
 |nil=>cases h.2
 |cons s ts =>
  have h2:(kB st s && .(A).wrd 0 s.toNat ts (cs.map sg))=true:=h.2
  rw[Bool.and_eq_true]at h2
  have h3:=h2.1
  unfold kB at h3
  rw[Bool.and_eq_true,decide_eq_true_eq]at h3
  have hm:(0,s.toNat)∈eO st:=List.mem_map.mpr ⟨s.toNat,bq.mpr ⟨by omega,h3.2⟩,rfl⟩
  obtain⟨j,v,hp,hb⟩:=qU (fO t ho ys fit) ts (cs.map sg) 0 0 s.toNat (nr t ys fit st _ hm) (B:=eO st) hm (fun d hd=>by
   obtain⟨c,_,rfl⟩:=List.mem_map.mp hd
   exact nu) h2.2
  rw[hn (j+1) j v (Nat.lt_succ_self j) hp]at hb
  cases hb
noncomputable section
variable(n:Nat)(hn:30<=n){bef:Tr}{t:St}{fit:Tr}{ys:List Sy}(hD:Kv bef t fit ys)
abbrev lW(S F:PV)(bef:Tr)(t:St)(fit:Tr)(ys:List Sy)(z:Int)(s6 s7 s8 s9:Sl)(W Y:PV):aT:=[.v S,.v F,.v (az (Dr t 0)),.v (ap ys),.v (bJ (bits .(Z))),.v (.int z),s6,s7,s8,s9,.v bef.pv,.v t.pv,.v fit.pv,.v .(B),.v W,.v Y]
include hD hn in
theorem tV(l:List Int)(hl:l.length<=20001)(y:Str)(hy:y.length<=20001):bp dW (gF (n+9)) (.obj 19 [iL l,.str y]) [bef.pv,t.pv,fit.pv,.lst .(H)]= .ok (.bl (.(A).full .(Z) l y.cps.toList)):=by
 obtain⟨h1,h2,h3,h4,h5,h6,h7,h8,h9⟩:=hD
 have e1:=ku (n+7) t h5 (by omega) (by omega)
 have e2:=kq 3 ys h8 (by omega) (n+3) (by omega)
 have e3:=iF (n+6) t ys bef fit h1 h3 (by omega) (by omega)
 have e4:=tS (n+5) t h5 ys fit l (by omega) y (by omega) .(Z)
 have a1:bp dW (gF (n+9)) (.obj 19 [iL l,.str y]) [bef.pv,t.pv,fit.pv,.lst .(H)]=gF (n+9) 45 [.obj 19 [iL l,.str y],bef.pv,t.pv,fit.pv,.lst .(H)]:=rfl
 rw[a1,g_zJ,aC rfl]
 show fin (tH (gF (n+8)) [.v (.obj 19 [iL l,.str y]),.v bef.pv,.v t.pv,.v fit.pv,.v .(B)])=_
 unfold tH
 have c1:dCall (gF (n+8) 16) (dCons (ae 1) (dCons (dCall (gF (n+8) 52) (dCons (ae 2) dNil)) (dCons (ae 3) (dCons (dCall (gF (n+8) 51) (dCons (ae 4) dNil)) dNil)))) [.v (.obj 19 [iL l,.str y]),.v bef.pv,.v t.pv,.v fit.pv,.v .(B)]= .ok (bi t ys fit .(Z)):=by
  simp[e1,e2,e3]
 rw[iw,mE,c1,ao]
 show fin ((bp eZ (gF (n+8)) (bi t ys fit .(Z)) [iL l,.str y]).st _)=_
 rw[e4]
 rfl
def xt(g:Nat->List PV->Rx PV):DS :=
 (al (gW 6 (fZ jQ (dCons (dSee 14) dNil)))
 (al (aF 7 (dCall (g 54) (dCons (dSee 6) (dCons (ae 15) dNil))))
 (al (cx (sw 6))
 (al (aF 8 (aM dW g (ae 7) (dCons (ae 10) (dCons (ae 11) .(Aq)))))
 (al (aF 9 (dCall (g 29) (dCons (ae 14) (dCons (ae 15) (dCons (ae 2) (dCons (ae 3) (dCons (ae 4) (dCons (ae 12) dNil))))))))
 (aG (io (gQ i_bool (dSee 8)) (io (d2 cB (dSee 8) (dSee 9)) (uQ (jP (ae 9)) (d2 xw (dSee 5) (dC (.int 0))))))))))))
include hD hn in
theorem zl(S F:PV)(z:Int)(l:List Int)(hl:l.length<=20001)(y:Str)(hy:y.length<=20001)(hz:.(A).full .(Z) l y.cps.toList=true->0<=z):fin (xt (gF (n+9)) (lW S F bef t fit ys z .no .no .no .no (iL l) (.str y)))= .ok (.bl true):=by
 have e1:=lO (n+8) l y
 have e2:=tV n hn hD l hl y hy
 obtain⟨h1,h2,h3,h4,h5,h6,h7,h8,h9⟩:=hD
 have e3:=tR (n+6) t h5 ys fit h3 (by omega) l y (by omega) .(Z)
 generalize (mzOf t ys fit).full .(Z) l y.cps.toList=q at *
 unfold xt
 have o6:gW 6 (fZ jQ (dCons (dSee 14) dNil)) (lW S F bef t fit ys z .no .no .no .no (iL l) (.str y))= .nx (lW S F bef t fit ys z (.own (.lst .(AI))) .no .no .no (iL l) (.str y)):=rfl
 have o7:aF 7 (dCall (gF (n+9) 54) (dCons (dSee 6) (dCons (ae 15) dNil))) (lW S F bef t fit ys z (.own (.lst .(AI))) .no .no .no (iL l) (.str y))= .nx (lW S F bef t fit ys z (.own (.lst .(AI))) (.v (.obj 19 [iL l,.str y])) .no .no (iL l) (.str y)):=by
  show((gF (n+9) 54 [.lst .(AI),.str y]).st _)=_
  rw[e1]
  rfl
 have o8:cx (sw 6) (lW S F bef t fit ys z (.own (.lst .(AI))) (.v (.obj 19 [iL l,.str y])) .no .no (iL l) (.str y))= .nx (lW S F bef t fit ys z (.own (.lst [])) (.v (.obj 19 [iL l,.str y])) .no .no (iL l) (.str y)):=rfl
 have o9:aF 8 (aM dW (gF (n+9)) (ae 7) (dCons (ae 10) (dCons (ae 11) .(Aq)))) (lW S F bef t fit ys z (.own (.lst [])) (.v (.obj 19 [iL l,.str y])) .no .no (iL l) (.str y))= .nx (lW S F bef t fit ys z (.own (.lst [])) (.v (.obj 19 [iL l,.str y])) (.v (.bl q)) .no (iL l) (.str y)):=by
  show((bp dW (gF (n+9)) (.obj 19 [iL l,.str y]) [bef.pv,t.pv,fit.pv,.lst .(H)]).st _)=_
  rw[e2]
  rfl
 have o10:aF 9 (dCall (gF (n+9) 29) (dCons (ae 14) (dCons (ae 15) (dCons (ae 2) (dCons (ae 3) (dCons (ae 4) (dCons (ae 12) dNil))))))) (lW S F bef t fit ys z (.own (.lst [])) (.v (.obj 19 [iL l,.str y])) (.v (.bl q)) .no (iL l) (.str y))= .nx (lW S F bef t fit ys z (.own (.lst [])) (.v (.obj 19 [iL l,.str y])) (.v (.bl q)) (.v (.bl q)) (iL l) (.str y)):=by
  show((gF (n+9) 29 [iL l,.str y,az (Dr t 0),ap ys,bJ (bits .(Z)),fit.pv]).st _)=_
  rw[e3]
  rfl
 rw[ay,o6,aj,ay,o7,aj,ay,o8,aj,ay,o9,aj,ay,o10,aj]
 cases q with
 |false=>rfl
 |true =>
  have h0:=hz rfl
  have ge:xw (.int z) (.int 0)= .ok (.bl true):=by
   show Rx.ok (PV.bl (decide (0<=z)))=_
   rw[decide_eq_true h0]
  show fin ((xw (.int z) (.int 0)).st _)=_
  rw[ge]
  rfl
def FY(g:Nat->List PV->Rx PV):DS :=
 (al (gX (bY 2 (aE (ar 14) (aE (ar 15) bX))) (dCall (g 31) (dCons (ae 14) (dCons (ae 15) (dCons (d2 cP (dCall (g 17) (dCons (ae 0) (dCons (dC (.int 8)) dNil))) (dC (.int 2))) dNil)))))
 (xt g))
include hD hn in
theorem qc(ns:List Int)(F:PV)(z:Int)(l:List Int)(hl0:l≠[])(hl:l.length<=20000)(y:Str)(hy:y.length<=20000)(hz:0<=z\/.(A).Near (eO .(Z)) none):fin (FY (gF (n+9)) (lW .(D) F bef t fit ys z .no .no .no .no (iL l) (.str y)))= .ok (.bl true):=by
 obtain⟨c,e8⟩:=iH (n+8) ns 8
 have e8:gF (n+9) 17 [.lst .(I),.int 8]= .ok (.int c):=e8
 obtain⟨l',y',e,q1,q2⟩:=qb (n+8) l hl0 hl y hy (c / 2)
 have tl:=zl n hn hD .(D) F z l' q1 y' q2 (fun h=>by
  rcases hz with q|q
  ·exact q
  ·exact(xr hD.2.2.2.2.1 h q).elim)
 have a1:gX (bY 2 (aE (ar 14) (aE (ar 15) bX))) (dCall (gF (n+9) 31) (dCons (ae 14) (dCons (ae 15) (dCons (d2 cP (dCall (gF (n+9) 17) (dCons (ae 0) (dCons (dC (.int 8)) dNil))) (dC (.int 2))) dNil)))) (lW .(D) F bef t fit ys z .no .no .no .no (iL l) (.str y))= .nx (lW .(D) F bef t fit ys z .no .no .no .no (iL l') (.str y')):=by
  simp[e8,e]
 unfold FY
 rw[ay,a1,aj]
 exact tl
end
theorem Cs(n:Nat)(hn:30<=n)(ns:List Int)(h63:ns.length<=63):gF (n+10) 32 [.lst .(I)]= .ok (.bl true):=by
 obtain⟨bef,t,fit,ys,e1,hD⟩:=xo (n+5) (by omega) ns h63
 have hD':=hD
 obtain⟨h1,h2,h3,h4,h5,h6,h7,h8,h9⟩:=hD'
 obtain⟨F,e2,hT⟩:=tQ (n+3) t h5 ys fit (by omega) (by omega) 3 h8 (by omega) (by omega) bef h1 (by omega) h3 (by omega)
 have e3:=ku (n+8) t h5 (by omega) (by omega)
 have e4:=kq 3 ys h8 (by omega) (n+4) (by omega)
 obtain⟨z,e5,hz⟩:=pY (n+6) t h5 ys fit h3 (by omega) (by omega) .(Z)
 obtain⟨wl,wy,e6,w1,w2,w3⟩:=zk (n+6) t h5 ys ns .(Z)
 obtain⟨c,e8⟩:=iH (n+8) ns 8
 have e8:gF (n+9) 17 [.lst .(I),.int 8]= .ok (.int c):=e8
 rw[g_zw,aC rfl]
 show fin (tw (gF (n+9)) [.v .(D),.no,.no,.no,.no,.no,.no,.no,.no,.no,.no,.no,.no,.no,.no,.no])=_
 have a1:gX (bY 4 (aE (ar 10) (aE (ar 11) (aE (ar 12) (aE (ar 13) bX))))) (dCall (gF (n+9) 26) .(Ao)) [.v .(D),.no,.no,.no,.no,.no,.no,.no,.no,.no,.no,.no,.no,.no,.no,.no]= .nx [.v .(D),.no,.no,.no,.no,.no,.no,.no,.no,.no,.v bef.pv,.v t.pv,.v fit.pv,.v .(B),.no,.no]:=by
  show((gF (n+9) 26 [.lst .(I)]).st _)=_
  rw[e1];rfl
 have a2:aF 1 (dCall (gF (n+9) 15) (dCons (ae 10) (dCons (ae 11) .(Aq)))) [.v .(D),.no,.no,.no,.no,.no,.no,.no,.no,.no,.v bef.pv,.v t.pv,.v fit.pv,.v .(B),.no,.no]= .nx [.v .(D),.v F,.no,.no,.no,.no,.no,.no,.no,.no,.v bef.pv,.v t.pv,.v fit.pv,.v .(B),.no,.no]:=by
  show((gF (n+9) 15 [bef.pv,t.pv,fit.pv,.lst .(H)]).st _)=_
  rw[e2];rfl
 have a3:aF 2 (ba cT (dCall (gF (n+9) 52) (dCons (ae 11) dNil))) [.v .(D),.v F,.no,.no,.no,.no,.no,.no,.no,.no,.v bef.pv,.v t.pv,.v fit.pv,.v .(B),.no,.no]= .nx [.v .(D),.v F,.v (az (Dr t 0)),.no,.no,.no,.no,.no,.no,.no,.v bef.pv,.v t.pv,.v fit.pv,.v .(B),.no,.no]:=by
  show(((gF (n+9) 52 [t.pv]).bind _).st _)=_
  rw[e3];rfl
 have a4:aF 3 (dCall (gF (n+9) 51) (dCons (ae 13) dNil)) [.v .(D),.v F,.v (az (Dr t 0)),.no,.no,.no,.no,.no,.no,.no,.v bef.pv,.v t.pv,.v fit.pv,.v .(B),.no,.no]= .nx [.v .(D),.v F,.v (az (Dr t 0)),.v (ap ys),.no,.no,.no,.no,.no,.no,.v bef.pv,.v t.pv,.v fit.pv,.v .(B),.no,.no]:=by
  show((gF (n+9) 51 [.lst .(H)]).st _)=_
  rw[e4];rfl
 have hbits:(bits (gdS ys)).filter (fun s=>bef.f s)=bits .(Z):=by
  unfold bits
  rw[List.filter_filter]
  apply List.filter_congr
  intro s hs
  rw[Nat.testBit_and,Ku bef (List.mem_range.mp hs),Bool.and_comm]
 have a5:aF 4 (dOfN (dComp ["_law_setting"] [("_law_before",10)] (aI (dCall (gF (n+9) 27) (dCons (aM gh (gF (n+9)) (ae 3) dNil) dNil))) (ar 0) (aS (aM aL (gF (n+9)) (ae 1) .(Ao))) (ae 0))) [.v .(D),.v F,.v (az (Dr t 0)),.v (ap ys),.no,.no,.no,.no,.no,.no,.v bef.pv,.v t.pv,.v fit.pv,.v .(B),.no,.no]= .nx [.v .(D),.v F,.v (az (Dr t 0)),.v (ap ys),.v (bJ (bits .(Z))),.no,.no,.no,.no,.no,.v bef.pv,.v t.pv,.v fit.pv,.v .(B),.no,.no]:=by
  have hc:dComp ["_law_setting"] [("_law_before",10)] (aI (dCall (gF (n+9) 27) (dCons (aM gh (gF (n+9)) (ae 3) dNil) dNil))) (ar 0) (aS (aM aL (gF (n+9)) (ae 1) .(Ao))) (ae 0) [.v .(D),.v F,.v (az (Dr t 0)),.v (ap ys),.no,.no,.no,.no,.no,.no,.v bef.pv,.v t.pv,.v fit.pv,.v .(B),.no,.no]= .ok ((bits .(Z)).map fun(i:Nat)=>PV.int (i:Int)):=by
   unfold dComp
   have hi:aI (dCall (gF (n+9) 27) (dCons (aM gh (gF (n+9)) (ae 3) dNil) dNil)) [.v .(D),.v F,.v (az (Dr t 0)),.v (ap ys),.no,.no,.no,.no,.no,.no,.v bef.pv,.v t.pv,.v fit.pv,.v .(B),.no,.no]= .ok ((bits (gdS ys)).map fun(i:Nat)=>PV.int (i:Int)):=by
    have q1:aM gh (gF (n+9)) (ae 3) dNil [.v .(D),.v F,.v (az (Dr t 0)),.v (ap ys),.no,.no,.no,.no,.no,.no,.v bef.pv,.v t.pv,.v fit.pv,.v .(B),.no,.no]= .ok (.int (gdS ys:Nat)):=rfl
    rw[qu,cL,cb,q1,eW,bO,ao,jA (n+8)]
    rfl
   rw[hi,ao,if_pos (by rw[List.length_map];have:=ff (gdS ys);show _<=16777216;omega),<-hbits]
   refine g9 (ps0:=[.v bef.pv]) (fun(i:Nat)=>PV.int (i:Int)) (fun s=>bef.f s) (fun(i:Nat)=>PV.int (i:Int)) (bits (gdS ys)) .no fun s hs=>⟨?_,fun _=>rfl⟩
   have:=bR bef (n+9) (s:Int) h1 (by omega)
   show((bp aL (gF (n+9)) bef.pv [.int (s:Int)]).bind _)=_
   rw[this];rfl
  rw[fK,dA,hc]
  rfl
 have a6:aF 5 (dCall (gF (n+9) 28) (dCons (ae 2) (dCons (ae 3) (dCons (ae 4) (dCons (ae 12) dNil))))) [.v .(D),.v F,.v (az (Dr t 0)),.v (ap ys),.v (bJ (bits .(Z))),.no,.no,.no,.no,.no,.v bef.pv,.v t.pv,.v fit.pv,.v .(B),.no,.no]= .nx [.v .(D),.v F,.v (az (Dr t 0)),.v (ap ys),.v (bJ (bits .(Z))),.v (.int z),.no,.no,.no,.no,.v bef.pv,.v t.pv,.v fit.pv,.v .(B),.no,.no]:=by
  show((gF (n+9) 28 [az (Dr t 0),ap ys,bJ (bits .(Z)),fit.pv]).st _)=_
  rw[e5];rfl
 have a8:gX (bY 2 (aE (ar 14) (aE (ar 15) bX))) (dCall (gF (n+9) 30) (dCons (ae 0) (dCons (ae 2) (dCons (ae 3) (dCons (ae 4) dNil))))) [.v .(D),.v F,.v (az (Dr t 0)),.v (ap ys),.v (bJ (bits .(Z))),.v (.int z),.no,.no,.no,.no,.v bef.pv,.v t.pv,.v fit.pv,.v .(B),.no,.no]= .nx (lW .(D) F bef t fit ys z .no .no .no .no (bJ wl) (.str wy)):=by
  show((gF (n+9) 30 [.lst .(I),az (Dr t 0),ap ys,bJ (bits .(Z))]).st _)=_
  rw[e6];rfl
 unfold tw
 rw[ay,a1,aj,ay,a2,aj,ay,a3,aj,ay,a4,aj,ay,a5,aj,ay,a6,aj,ay]
 have hwl:(wl.map fun(i:Nat)=>(i:Int))≠[]:=by simpa using w1
 rcases hT with⟨v,rfl,hg,hnr,hdp⟩|⟨⟨x,rfl⟩,hnr⟩
 ·have hzv:z=(v.dep:Int):=by
   rcases hz with⟨j,rfl,hj⟩|⟨_,hj⟩
   ·have:=n6 hnr hj;cases this;rfl
   ·have:=n6 hnr hj;cases this
  have ge:xw (.int z) (.int 0)= .ok (.bl true):=by
   show Rx.ok (PV.bl (decide (0<=z)))=_
   rw[decide_eq_true (by omega)]
  have t7:aS (d2 fJ (gQ i_z0d (dSee 1)) (d2 xw (dSee 5) (dC (.int 0)))) [.v .(D),.v (.obj 19 [bJ v.ss,.str (jh v.ds)]),.v (az (Dr t 0)),.v (ap ys),.v (bJ (bits .(Z))),.v (.int z),.no,.no,.no,.no,.v bef.pv,.v t.pv,.v fit.pv,.v .(B),.no,.no]= .ok false:=by
   show(((xw (.int z) (.int 0)).bind fun y=>fJ (.bl true) y).bind _)=_
   rw[ge];rfl
  have hdl:v.ds.length=v.dep:=by simp[Vs.ds,pV]
  have hdd:∀d∈v.ds,bL d:=fun d hd=>nq v hg d (List.mem_reverse.mp hd)
  have hcl:=ra v.ds hdd
  have lb:bLen [.str (jh v.ds)]= .ok (.int z):=by
   show(if (jh v.ds).length<=sizeLine then Rx.ok (PV.int ((jh v.ds).length:Int)) else .bad)=_
   rw[if_pos (by rw[hcl];show _<=16777216;omega),hcl,hdl,hzv]
  have t9:aS (d2 fJ (dCall bLen (dCons (ba gv (ae 1)) dNil)) (dSee 5)) (lW .(D) (.obj 19 [bJ v.ss,.str (jh v.ds)]) bef t fit ys z .no .no .no .no (bJ wl) (.str wy))= .ok false:=by
   show(((bLen [.str (jh v.ds)]).bind fun x=>fJ x (.int z)).bind _)=_
   rw[lb]
   show(Rx.ok (PV.bl (!(z == z)))).bind _=_
   simp
  rw[cq,t7,eV,eL,aj,ay,a8,aj,ay]
  have ti:aS (gQ i_z0d (dSee 1)) (lW .(D) (.obj 19 [bJ v.ss,.str (jh v.ds)]) bef t fit ys z .no .no .no .no (bJ wl) (.str wy))= .ok true:=rfl
  rw[cq,ti,on,ay,cq,t9,eV,eL,aj]
  have hz0:0<=z:=by omega
  have m1:=qc n hn hD ns (.obj 19 [bJ v.ss,.str (jh v.ds)]) z (wl.map fun(i:Nat)=>(i:Int)) hwl (by simp;omega) wy (by omega) (.inl hz0)
  have m2:=qc n hn hD ns (.obj 19 [bJ v.ss,.str (jh v.ds)]) z (v.ss.map fun(i:Nat)=>(i:Int)) (by
   intro q
   have:=congrArg List.length q
   simp[Vs.ss,pU]at this) (by simp[Vs.ss,pU];omega) (jh v.ds) (by rw[hcl,hdl];omega) (.inl hz0)
  rw[show iL (wl.map fun(i:Nat)=>(i:Int))=bJ wl from(jB wl).symm]at m1
  rw[show iL (v.ss.map fun(i:Nat)=>(i:Int))=bJ v.ss from(jB v.ss).symm]at m2
  by_cases hc:c % 2=0
  ·have tc:aS (d2 cB (d2 fMod (dCall (gF (n+9) 17) (dCons (ae 0) (dCons (dC (.int 8)) dNil))) (dC (.int 2))) (dC (.int 0))) (lW .(D) (.obj 19 [bJ v.ss,.str (jh v.ds)]) bef t fit ys z .no .no .no .no (bJ wl) (.str wy))= .ok true:=by
    simp[e8,hc]
   rw[cq,tc,on]
   exact m2
  ·have tc:aS (d2 cB (d2 fMod (dCall (gF (n+9) 17) (dCons (ae 0) (dCons (dC (.int 8)) dNil))) (dC (.int 2))) (dC (.int 0))) (lW .(D) (.obj 19 [bJ v.ss,.str (jh v.ds)]) bef t fit ys z .no .no .no .no (bJ wl) (.str wy))= .ok false:=by
    have hb:(c % 2 == 0)=false:=by simpa using hc
    simp[e8,hb]
   rw[cq,tc,eV]
   exact m1
 ·have hzv:z= -1:=by
   rcases hz with⟨j,rfl,hj⟩|⟨q,_⟩
   ·have:=n6 hnr hj;cases this
   ·exact q
  subst hzv
  have t7:aS (d2 fJ (gQ i_z0d (dSee 1)) (d2 xw (dSee 5) (dC (.int 0)))) [.v .(D),.v (.obj 18 [x]),.v (az (Dr t 0)),.v (ap ys),.v (bJ (bits .(Z))),.v (.int (-1)),.no,.no,.no,.no,.v bef.pv,.v t.pv,.v fit.pv,.v .(B),.no,.no]= .ok false:=rfl
  have ti:aS (gQ i_z0d (dSee 1)) (lW .(D) (.obj 18 [x]) bef t fit ys (-1) .no .no .no .no (bJ wl) (.str wy))= .ok false:=rfl
  have m1:=qc n hn hD ns (.obj 18 [x]) (-1) (wl.map fun(i:Nat)=>(i:Int)) hwl (by simp;omega) wy (by omega) (.inr hnr)
  rw[show iL (wl.map fun(i:Nat)=>(i:Int))=bJ wl from(jB wl).symm]at m1
  rw[cq,t7,eV,eL,aj,ay,a8,aj,ay,cq,ti,eV,eL,aj]
  exact m1
theorem main(ns:List Int)(h:ns.length<=63):gF 110 32 [.lst .(I)]= .ok (.bl true):=Cs 100 (by decide) ns h
end M63
end
noncomputable section
namespace M63
open PySem L2 DN
def GH(C0 C1 C2 C3 C4 C5 C6 C7 C8 C9 C10 C11 C12 C13 C14 C15 C16 C17 C18 C19 C20 C21 C22 C23:Addr):Nat->Addr
 |0=>C0
 |1=>C1
 |2=>C2
 |3=>C3
 |4=>C4
 |5=>C5
 |6=>C6
 |7=>C7
 |8=>C8
 |9=>C9
 |10=>C10
 |11=>C11
 |12=>C12
 |13=>C13
 |14=>C14
 |15=>C15
 |16=>C16
 |17=>C17
 |18=>C18
 |19=>C19
 |20=>C20
 |21=>C21
 |22=>C22
 |23=>C23
 |_=>0
abbrev FZ:Stmt:=aP (top 10) 0
abbrev G0:Stmt:=aP (top 11) 0
abbrev G1:Stmt:=aP (top 12) 0
abbrev Cu:Stmt:=aP (top 13) 0
abbrev Cv:Stmt:=aP (top 23) 0
abbrev Cw:Stmt:=aP (top 24) 0
abbrev Cy:Stmt:=aP (top 25) 0
abbrev Cz:Stmt:=aP (top 26) 0
abbrev CA:Stmt:=aP (top 35) 0
abbrev CB:Stmt:=aP (top 55) 0
abbrev CC:Stmt:=aP (top 56) 0
abbrev CD:Stmt:=aP (top 57) 0
theorem JC{l:PySem.W.OpenLaw}{w:World}{K:Fg}{mg:Str->Option Value}{fa:Addr}{h:Heap}{ts:List Addr}{nDEEDS:Nat}{slDEEDS:Array (Option Value)}{nENDS:Nat}{slENDS:Array (Option Value)}{nLETTERS:Nat}{slLETTERS:Array (Option Value)}{C0 C1 C2 C3 C4 C5 C6 C7 C8 C9 C10 C11 C12 C13 C14 C15 C16 C17 C18 C19 C20 C21 C22 C23 i3 i4 i5 i6 i10 i11 i12 i13 i14 i15 i16 i18 i19 i21 i22 i23 d0 d1 d2 d3 d4 d5 d6 d7 d8 d9 d10 d11 d12 d13 d14 d15 d16 d17 d18 d19 d20 d21 d22 d23 d24 d25 d26 d27 d28 d29 d30 d31 d32 d33 d34 d35 d36 d37 d38 d39 d40 d41 d42 d43 d44 d45 d46 d47 d48 d49 d50 tDEEDS tENDS tLETTERS:Addr}{kDEEDS0 kDEEDS1 kDEEDS2 kDEEDS3 kDEEDS4 kDONE kENDS0 kENDS1 kENDS2 kEVERY kFOUND kHUNG kLETTERS0 kLETTERS1 kLETTERS2 kLETTERS3 kSETTINGS kSTOPPED:Tok}(X:K.In h)(G:h.Ns mainGlobals mg)(hfa:mg "law"=some (.ref fa))
  (a0:.(ns C0 "Test"))
  (a1:.(ns C1 "Yes"))
  (a2:.(ns C2 "No"))
  (a3:.(ns C3 "Named"))
  (a4:.(ns C4 "Not"))
  (a5:.(ns C5 "Both"))
  (a6:.(ns C6 "Either"))
  (a7:.(ns C7 "Step"))
  (a8:.(ns C8 "Skip"))
  (a9:.(ns C9 "Stop"))
  (a10:.(ns C10 "Deed"))
  (a11:.(ns C11 "Row"))
  (a12:.(ns C12 "Choice"))
  (a13:.(ns C13 "Loop"))
  (a14:.(ns C14 "Bonds"))
  (a15:.(ns C15 "Maze"))
  (a16:.(ns C16 "Rooms"))
  (a17:.(ns C17 "Finding"))
  (a18:.(ns C18 "Kept"))
  (a19:.(ns C19 "Broken"))
  (a20:.(ns C20 "Saying"))
  (a21:.(ns C21 "Nowhere"))
  (a22:.(ns C22 "Behind"))
  (a23:.(ns C23 "Through"))
  (c0:bu K C0)
  (c1:bu K C1)
  (c2:bu K C2)
  (c3:bu K C3)
  (c4:bu K C4)
  (c5:bu K C5)
  (c6:bu K C6)
  (c7:bu K C7)
  (c8:bu K C8)
  (c9:bu K C9)
  (c10:bu K C10)
  (c11:bu K C11)
  (c12:bu K C12)
  (c13:bu K C13)
  (c14:bu K C14)
  (c15:bu K C15)
  (c16:bu K C16)
  (c17:bu K C17)
  (c18:bu K C18)
  (c19:bu K C19)
  (c20:bu K C20)
  (c21:bu K C21)
  (c22:bu K C22)
  (c23:bu K C23)
  (o1:PySem.W.findIn K (.ref C1) "__init__"=some (some (.builtin "object.__init__")))
  (o2:PySem.W.findIn K (.ref C2) "__init__"=some (some (.builtin "object.__init__")))
  (e3:.(fi C3 "__init__" i3))
  (f3:.(fx i3))
  (I3:cz K i3 "__init__" "Named.__init__" FZ)
  (n3_0:.(fo C3 "name"))
  (e4:.(fi C4 "__init__" i4))
  (f4:.(fx i4))
  (I4:cz K i4 "__init__" "Not.__init__" G0)
  (n4_0:.(fo C4 "inner"))
  (e5:.(fi C5 "__init__" i5))
  (f5:.(fx i5))
  (I5:cz K i5 "__init__" "Both.__init__" G1)
  (n5_0:.(fo C5 "left"))
  (n5_1:.(fo C5 "right"))
  (e6:.(fi C6 "__init__" i6))
  (f6:.(fx i6))
  (I6:cz K i6 "__init__" "Either.__init__" Cu)
  (n6_0:.(fo C6 "left"))
  (n6_1:.(fo C6 "right"))
  (o8:PySem.W.findIn K (.ref C8) "__init__"=some (some (.builtin "object.__init__")))
  (o9:PySem.W.findIn K (.ref C9) "__init__"=some (some (.builtin "object.__init__")))
  (e10:.(fi C10 "__init__" i10))
  (f10:.(fx i10))
  (I10:cz K i10 "__init__" "Deed.__init__" Cv)
  (n10_0:.(fo C10 "name"))
  (e11:.(fi C11 "__init__" i11))
  (f11:.(fx i11))
  (I11:cz K i11 "__init__" "Row.__init__" Cw)
  (n11_0:.(fo C11 "head"))
  (n11_1:.(fo C11 "tail"))
  (e12:.(fi C12 "__init__" i12))
  (f12:.(fx i12))
  (I12:cz K i12 "__init__" "Choice.__init__" Cy)
  (n12_0:.(fo C12 "test"))
  (n12_1:.(fo C12 "yes"))
  (n12_2:.(fo C12 "no"))
  (e13:.(fi C13 "__init__" i13))
  (f13:.(fx i13))
  (I13:cz K i13 "__init__" "Loop.__init__" Cz)
  (n13_0:.(fo C13 "test"))
  (n13_1:.(fo C13 "body"))
  (e14:.(fi C14 "__init__" i14))
  (f14:.(fx i14))
  (I14:cz K i14 "__init__" "Bonds.__init__" wI)
  (n14_0:.(fo C14 "unbarred"))
  (n14_1:.(fo C14 "let_by"))
  (n14_2:.(fo C14 "lasting"))
  (e15:.(fi C15 "__init__" i15))
  (f15:.(fx i15))
  (I15:cz K i15 "__init__" "Maze.__init__" CA)
  (n15_0:.(fo C15 "bonds"))
  (n15_1:.(fo C15 "begin"))
  (n15_2:.(fo C15 "starts"))
  (n15_3:.(fo C15 "door"))
  (e16:.(fi C16 "__init__" i16))
  (f16:.(fx i16))
  (I16:cz K i16 "__init__" "Rooms.__init__" wJ)
  (n16_0:.(fo C16 "step"))
  (n16_1:.(fo C16 "doors"))
  (e18:.(fi C18 "__init__" i18))
  (f18:.(fx i18))
  (I18:cz K i18 "__init__" "Kept.__init__" wK)
  (n18_0:.(fo C18 "marks"))
  (e19:.(fi C19 "__init__" i19))
  (f19:.(fx i19))
  (I19:cz K i19 "__init__" "Broken.__init__" wL)
  (n19_0:.(fo C19 "settings"))
  (n19_1:.(fo C19 "deeds"))
  (e21:.(fi C21 "__init__" i21))
  (f21:.(fx i21))
  (I21:cz K i21 "__init__" "Nowhere.__init__" CB)
  (n21_0:.(fo C21 "test"))
  (e22:.(fi C22 "__init__" i22))
  (f22:.(fx i22))
  (I22:cz K i22 "__init__" "Behind.__init__" CC)
  (n22_0:.(fo C22 "before"))
  (n22_1:.(fo C22 "deed"))
  (n22_2:.(fo C22 "after"))
  (e23:.(fi C23 "__init__" i23))
  (f23:.(fx i23))
  (I23:cz K i23 "__init__" "Through.__init__" CD)
  (n23_0:.(fo C23 "test"))
  (n23_1:.(fo C23 "deed"))
  (b0:.(ns d0 "is_in"))
  (D0:cz K d0 "is_in" "is_in" vF)
  (b1:.(ns d1 "settings_in"))
  (D1:cz K d1 "settings_in" "settings_in" vG)
  (b2:.(ns d2 "unbarred_by"))
  (D2:cz K d2 "unbarred_by" "unbarred_by" vH)
  (b3:.(ns d3 "let_by_all"))
  (D3:cz K d3 "let_by_all" "let_by_all" vI)
  (b4:.(ns d4 "later_by_all"))
  (D4:cz K d4 "later_by_all" "later_by_all" vJ)
  (b5:.(ns d5 "lasting_within"))
  (D5:cz K d5 "lasting_within" "lasting_within" vK)
  (b6:.(ns d6 "word_to"))
  (D6:cz K d6 "word_to" "word_to" vL)
  (b7:.(ns d7 "is_within"))
  (D7:cz K d7 "is_within" "is_within" vM)
  (b8:.(ns d8 "doors_of"))
  (D8:cz K d8 "doors_of" "doors_of" vN)
  (b9:.(ns d9 "ended"))
  (D9:cz K d9 "ended" "ended" vO)
  (b10:.(ns d10 "row_doors"))
  (D10:cz K d10 "row_doors" "row_doors" vP)
  (b11:.(ns d11 "choice_doors"))
  (D11:cz K d11 "choice_doors" "choice_doors" vQ)
  (b12:.(ns d12 "loop_doors"))
  (D12:cz K d12 "loop_doors" "loop_doors" vR)
  (b13:.(ns d13 "loop_door"))
  (D13:cz K d13 "loop_door" "loop_door" vS)
  (b14:.(ns d14 "gone_on"))
  (D14:cz K d14 "gone_on" "gone_on" vT)
  (b15:.(ns d15 "marked"))
  (D15:cz K d15 "marked" "marked" vU)
  (b16:.(ns d16 "breaks_of"))
  (D16:Kn K d16 "breaks_of" "breaks_of" oE ts)
  (b17:.(ns d17 "_law_cell_at"))
  (D17:cz K d17 "_law_cell_at" "_law_cell_at" vV)
  (b18:.(ns d18 "_law_mixed"))
  (D18:cz K d18 "_law_mixed" "_law_mixed" vW)
  (b19:.(ns d19 "_law_guard"))
  (D19:cz K d19 "_law_guard" "_law_guard" vX)
  (b20:.(ns d20 "_law_guard_test"))
  (D20:cz K d20 "_law_guard_test" "_law_guard_test" vY)
  (b21:.(ns d21 "_law_leaf"))
  (D21:cz K d21 "_law_leaf" "_law_leaf" vZ)
  (b22:.(ns d22 "_law_tree"))
  (D22:cz K d22 "_law_tree" "_law_tree" w8)
  (b23:.(ns d23 "_law_made"))
  (D23:cz K d23 "_law_made" "_law_made" w9)
  (b24:.(ns d24 "_law_saying"))
  (D24:cz K d24 "_law_saying" "_law_saying" wa)
  (b25:.(ns d25 "_law_sayings"))
  (D25:cz K d25 "_law_sayings" "_law_sayings" wb)
  (b26:.(ns d26 "_law_drawn"))
  (D26:cz K d26 "_law_drawn" "_law_drawn" wc)
  (b27:.(ns d27 "_law_bits"))
  (D27:cz K d27 "_law_bits" "_law_bits" wd)
  (b28:.(ns d28 "_law_nearest"))
  (D28:cz K d28 "_law_nearest" "_law_nearest" we)
  (b29:.(ns d29 "_law_breaks"))
  (D29:cz K d29 "_law_breaks" "_law_breaks" wf)
  (b30:.(ns d30 "_law_walk"))
  (D30:cz K d30 "_law_walk" "_law_walk" wj)
  (b31:.(ns d31 "_law_changed"))
  (D31:cz K d31 "_law_changed" "_law_changed" wm)
  (b32:.(ns d32 "law"))
  (D32:cz K d32 "law" "law" oF)
  (m33_0:.(fi C0 "mask" d33))
  (m33_1:.(fi C1 "mask" d33))
  (m33_2:.(fi C2 "mask" d33))
  (m33_3:.(fi C3 "mask" d33))
  (m33_4:.(fi C4 "mask" d33))
  (m33_5:.(fi C5 "mask" d33))
  (m33_6:.(fi C6 "mask" d33))
  (g33:.(fx d33))
  (D33:cz K d33 "mask" "Test.mask" wn)
  (m34_1:.(fi C1 "holds" d34))
  (g34:.(fx d34))
  (D34:cz K d34 "holds" "Yes.holds" wo)
  (m35_2:.(fi C2 "holds" d35))
  (g35:.(fx d35))
  (D35:cz K d35 "holds" "No.holds" wp)
  (m36_3:.(fi C3 "holds" d36))
  (g36:.(fx d36))
  (D36:cz K d36 "holds" "Named.holds" wq)
  (m37_4:.(fi C4 "holds" d37))
  (g37:.(fx d37))
  (D37:cz K d37 "holds" "Not.holds" wt)
  (m38_5:.(fi C5 "holds" d38))
  (g38:.(fx d38))
  (D38:cz K d38 "holds" "Both.holds" wu)
  (m39_6:.(fi C6 "holds" d39))
  (g39:.(fx d39))
  (D39:cz K d39 "holds" "Either.holds" wv)
  (m40_14:.(fi C14 "good" d40))
  (g40:.(fx d40))
  (D40:cz K d40 "good" "Bonds.good" ww)
  (m41_14:.(fi C14 "ways" d41))
  (g41:.(fx d41))
  (D41:cz K d41 "ways" "Bonds.ways" wx)
  (m42_15:.(fi C15 "search" d42))
  (g42:.(fx d42))
  (D42:cz K d42 "search" "Maze.search" wz)
  (m43_15:.(fi C15 "is_word" d43))
  (g43:.(fx d43))
  (D43:cz K d43 "is_word" "Maze.is_word" wA)
  (m44_17:.(fi C17 "stands" d44))
  (g44:.(fx d44))
  (D44:cz K d44 "stands" "Finding.stands" wB)
  (m45_19:.(fi C19 "stands" d45))
  (g45:.(fx d45))
  (D45:cz K d45 "stands" "Broken.stands" wC)
  (m46_20:.(fi C20 "bars" d46))
  (m46_22:.(fi C22 "bars" d46))
  (m46_23:.(fi C23 "bars" d46))
  (g46:.(fx d46))
  (D46:cz K d46 "bars" "Saying.bars" wD)
  (m47_20:.(fi C20 "later_mask" d47))
  (m47_21:.(fi C21 "later_mask" d47))
  (g47:.(fx d47))
  (D47:cz K d47 "later_mask" "Saying.later_mask" wE)
  (m48_21:.(fi C21 "bars" d48))
  (g48:.(fx d48))
  (D48:cz K d48 "bars" "Nowhere.bars" wF)
  (m49_22:.(fi C22 "later_mask" d49))
  (g49:.(fx d49))
  (D49:cz K d49 "later_mask" "Behind.later_mask" wG)
  (m50_23:.(fi C23 "later_mask" d50))
  (g50:.(fx d50))
  (D50:cz K d50 "later_mask" "Through.later_mask" wH)
  (wBroken:mP K (.ref C19) .(AT) i_z0d)
  (wChoice:mP K (.ref C12) .(AT) i_z06)
  (wDeed:mP K (.ref C10) .(AT) i_z04)
  (wRow:mP K (.ref C11) .(AT) i_z05)
  (wSkip:mP K (.ref C8) .(AT) i_z02)
  (wStop:mP K (.ref C9) .(AT) i_z03)
  (wbool:mP K (.type "bool") .(AT) i_bool)
  (bxDEEDS:.(ns tDEEDS "DEEDS"))
  (lxDEEDS:K.lookup tDEEDS=some ⟨.type "tuple",none,.seq #[.str "P" kDEEDS0,.str "Q" kDEEDS1,.str "R" kDEEDS2,.str "S" kDEEDS3,.str "T" kDEEDS4] nDEEDS,slDEEDS⟩)
  (bxDONE:PySem.W.nsIn K mainGlobals "DONE"=some (some (.str "done" kDONE)))
  (bxENDS:.(ns tENDS "ENDS"))
  (lxENDS:K.lookup tENDS=some ⟨.type "tuple",none,.seq #[.str "done" kENDS0,.str "stopped" kENDS1,.str "hung" kENDS2] nENDS,slENDS⟩)
  (bxEVERY:PySem.W.nsIn K mainGlobals "EVERY"=some (some (.int (65535) kEVERY)))
  (bxFOUND:PySem.W.nsIn K mainGlobals "FOUND"=some (some (.str "found" kFOUND)))
  (bxHUNG:PySem.W.nsIn K mainGlobals "HUNG"=some (some (.str "hung" kHUNG)))
  (bxLETTERS:.(ns tLETTERS "LETTERS"))
  (lxLETTERS:K.lookup tLETTERS=some ⟨.type "tuple",none,.seq #[.str "a" kLETTERS0,.str "b" kLETTERS1,.str "c" kLETTERS2,.str "d" kLETTERS3] nLETTERS,slLETTERS⟩)
  (bxSETTINGS:PySem.W.nsIn K mainGlobals "SETTINGS"=some (some (.int (16) kSETTINGS)))
  (bxSTOPPED:PySem.W.nsIn K mainGlobals "STOPPED"=some (some (.str "stopped" kSTOPPED)))
  (zall:.(no "all"))
  (zany:.(no "any"))
  (zbool:.(no "bool"))
  (zenumerate:.(no "enumerate"))
  (zisinstance:.(no "isinstance"))
  (zlen:.(no "len"))
  (zlist:.(no "list"))
  (zmax:.(no "max"))
  (zrange:.(no "range")) :
  ∃(cA:Nat->Addr) (fd:FuncData),(∀(s:Shared) (v:Value),BindsTo s fd ⟨[v],[]⟩ [("_law_script",v)])/\ ∀base:Bs,K.In base->base.Ns mainGlobals mg->base.tabs=ts->cN l.prog w K mg base fS (220+3) fa fd ["_law_script"] (tX K (pg cA) [false] (gF 110 32)):=by
 have e:=hfa.symm.trans (.(mg b32))
 cases e
 exact .(obq fD0 D0)
 exact .(obq fD1 D1)
 exact .(obq fD2 D2)
 exact .(obq fD3 D3)
 exact .(obq fD4 D4)
 exact .(obq fD5 D5)
 exact .(obq fD6 D6)
 exact .(obq fD7 D7)
 exact .(obq fD8 D8)
 exact .(obq fD9 D9)
 exact .(obq fD10 D10)
 exact .(obq fD11 D11)
 exact .(obq fD12 D12)
 exact .(obq fD13 D13)
 exact .(obq fD14 D14)
 exact .(obq fD15 D15)
 obtain⟨fD16,cD16,pD16,D16,TD16⟩:=D16
 exact .(obq fD17 D17)
 exact .(obq fD18 D18)
 exact .(obq fD19 D19)
 exact .(obq fD20 D20)
 exact .(obq fD21 D21)
 exact .(obq fD22 D22)
 exact .(obq fD23 D23)
 exact .(obq fD24 D24)
 exact .(obq fD25 D25)
 exact .(obq fD26 D26)
 exact .(obq fD27 D27)
 exact .(obq fD28 D28)
 exact .(obq fD29 D29)
 exact .(obq fD30 D30)
 exact .(obq fD31 D31)
 exact .(obq fD32 D32)
 exact .(obq fD33 D33)
 exact .(obq fD34 D34)
 exact .(obq fD35 D35)
 exact .(obq fD36 D36)
 exact .(obq fD37 D37)
 exact .(obq fD38 D38)
 exact .(obq fD39 D39)
 exact .(obq fD40 D40)
 exact .(obq fD41 D41)
 exact .(obq fD42 D42)
 exact .(obq fD43 D43)
 exact .(obq fD44 D44)
 exact .(obq fD45 D45)
 exact .(obq fD46 D46)
 exact .(obq fD47 D47)
 exact .(obq fD48 D48)
 exact .(obq fD49 D49)
 exact .(obq fD50 D50)
 exact .(obq fI3 I3)
 exact .(obq fI4 I4)
 exact .(obq fI5 I5)
 exact .(obq fI6 I6)
 exact .(obq fI10 I10)
 exact .(obq fI11 I11)
 exact .(obq fI12 I12)
 exact .(obq fI13 I13)
 exact .(obq fI14 I14)
 exact .(obq fI15 I15)
 exact .(obq fI16 I16)
 exact .(obq fI18 I18)
 exact .(obq fI19 I19)
 exact .(obq fI21 I21)
 exact .(obq fI22 I22)
 exact .(obq fI23 I23)
 have F:Fs K mg (GH C0 C1 C2 C3 C4 C5 C6 C7 C8 C9 C10 C11 C12 C13 C14 C15 C16 C17 C18 C19 C20 C21 C22 C23) ts:={
  F_z0:=.(fr fD0 D0 .(AM) b0)
  F_z1:=.(fr fD1 D1 .(AL) b1)
  F_z2:=.(fr fD2 D2 .(AL) b2)
  F_z3:=.(fr fD3 D3 .(AL) b3)
  F_z4:=.(fr fD4 D4 .(AN) b4)
  F_z5:=.(fr fD5 D5 .(AM) b5)
  F_z6:=.(fr fD6 D6 .(AL) b6)
  F_z7:=.(fr fD7 D7 .(AM) b7)
  F_z8:=.(fr fD8 D8 .(AM) b8)
  F_z9:=.(fr fD9 D9 .(AL) b9)
  F_za:=.(fr fD10 D10 .(AM) b10)
  F_zb:=.(fr fD11 D11 .(AM) b11)
  F_zc:=.(fr fD12 D12 .(AM) b12)
  F_zd:=.(fr fD13 D13 .(AM) b13)
  F_ze:=.(fr fD14 D14 .(AM) b14)
  F_zf:=.(fr fD15 D15 .(AO) b15)
  F_zg:=⟨_,fD16,cD16,pD16,⟨D16,D16.binds .(AO),.(mg b16)⟩,TD16⟩
  F_zh:=.(fr fD17 D17 .(AM) b17)
  F_zi:=.(fr fD18 D18 .(AM) b18)
  F_zj:=.(fr fD19 D19 .(AL) b19)
  F_zk:=.(fr fD20 D20 .(AL) b20)
  F_zl:=.(fr fD21 D21 .(AL) b21)
  F_zm:=.(fr fD22 D22 .(AL) b22)
  F_zn:=.(fr fD23 D23 .(AL) b23)
  F_zo:=.(fr fD24 D24 .(AL) b24)
  F_zp:=.(fr fD25 D25 .(AM) b25)
  F_zq:=.(fr fD26 D26 .(AL) b26)
  F_zr:=.(fr fD27 D27 .(AL) b27)
  F_zs:=.(fr fD28 D28 .(AO) b28)
  F_zt:=.(fr fD29 D29 .(AQ) b29)
  F_zu:=.(fr fD30 D30 .(AO) b30)
  F_zv:=.(fr fD31 D31 .(AN) b31)
  F_zw:=.(fr fD32 D32 .(AL) b32)
  F_zx:=⟨_,fD33,D33,D33.binds .(AL),.(mt D33 g33 m33_0),.(mt D33 g33 m33_1),.(mt D33 g33 m33_2),.(mt D33 g33 m33_3),.(mt D33 g33 m33_4),.(mt D33 g33 m33_5),.(mt D33 g33 m33_6)⟩
  F_zy:=⟨_,fD34,D34,D34.binds .(AM),.(mt D34 g34 m34_1)⟩
  F_zz:=⟨_,fD35,D35,D35.binds .(AM),.(mt D35 g35 m35_2)⟩
  F_zA:=⟨_,fD36,D36,D36.binds .(AM),.(mt D36 g36 m36_3)⟩
  F_zB:=⟨_,fD37,D37,D37.binds .(AM),.(mt D37 g37 m37_4)⟩
  F_zC:=⟨_,fD38,D38,D38.binds .(AM),.(mt D38 g38 m38_5)⟩
  F_zD:=⟨_,fD39,D39,D39.binds .(AM),.(mt D39 g39 m39_6)⟩
  F_zE:=⟨_,fD40,D40,D40.binds .(AL),.(mt D40 g40 m40_14)⟩
  F_zF:=⟨_,fD41,D41,D41.binds .(AN),.(mt D41 g41 m41_14)⟩
  F_zG:=⟨_,fD42,D42,D42.binds .(AL),.(mt D42 g42 m42_15)⟩
  F_zH:=⟨_,fD43,D43,D43.binds .(AN),.(mt D43 g43 m43_15)⟩
  F_zI:=⟨_,fD44,D44,D44.binds .(AP),.(mt D44 g44 m44_17)⟩
  F_zJ:=⟨_,fD45,D45,D45.binds .(AP),.(mt D45 g45 m45_19)⟩
  F_zK:=⟨_,fD46,D46,D46.binds .(AM),.(mt D46 g46 m46_20),.(mt D46 g46 m46_22),.(mt D46 g46 m46_23)⟩
  F_zL:=⟨_,fD47,D47,D47.binds .(AN),.(mt D47 g47 m47_20),.(mt D47 g47 m47_21)⟩
  F_zM:=⟨_,fD48,D48,D48.binds .(AM),.(mt D48 g48 m48_21)⟩
  F_zN:=⟨_,fD49,D49,D49.binds .(AN),.(mt D49 g49 m49_22)⟩
  F_zO:=⟨_,fD50,D50,D50.binds .(AN),.(mt D50 g50 m50_23)⟩
  F_zP:=⟨_,fI14,I14,I14.binds .(AM),.(cf c14 e14 f14)⟩
  F_zQ:=⟨_,fI16,I16,I16.binds .(AM),.(cf c16 e16 f16)⟩
  F_zR:=⟨_,fI18,I18,I18.binds .(AM),.(cf c18 e18 f18)⟩
  F_zS:=⟨_,fI19,I19,I19.binds .(AN),.(cf c19 e19 f19)⟩
 }
 obtain⟨⟨oc,od,kV,dc,pm,an,cd,ct,osl,rfl,ll,cc⟩,kk⟩:=id D32
 refine⟨(GH C0 C1 C2 C3 C4 C5 C6 C7 C8 C9 C10 C11 C12 C13 C14 C15 C16 C17 C18 C19 C20 C21 C22 C23),PySem.W.fnOf "law" "law" (dZ oF) (bz oF) (ah oF) .none kV dc pm an cd ct,fun s v=> .of_eq rfl,fun base _ _ htb=> ?_⟩
 have hC:∀c,c<24->og K ((pg (GH C0 C1 C2 C3 C4 C5 C6 C7 C8 C9 C10 C11 C12 C13 C14 C15 C16 C17 C18 C19 C20 C21 C22 C23)).cA c):=fun c h=>match c,h with|0,_=>ci c0|1,_=>ci c1|2,_=>ci c2|3,_=>ci c3|4,_=>ci c4|5,_=>ci c5|6,_=>ci c6|7,_=>ci c7|8,_=>ci c8|9,_=>ci c9|10,_=>ci c10|11,_=>ci c11|12,_=>ci c12|13,_=>ci c13|14,_=>ci c14|15,_=>ci c15|16,_=>ci c16|17,_=>ci c17|18,_=>ci c18|19,_=>ci c19|20,_=>ci c20|21,_=>ci c21|22,_=>ci c22|23,_=>ci c23|n+24,h=>absurd h (Nat.not_lt.2 (Nat.le_add_left 24 n))
 have C:Ct l.prog w K mg base (GH C0 C1 C2 C3 C4 C5 C6 C7 C8 C9 C10 C11 C12 C13 C14 C15 C16 C17 C18 C19 C20 C21 C22 C23) ts:={
  tb:=htb
  c_zU:=.(mg a0)
  l_zU:=c0
  c_zV:=.(mg a1)
  l_zV:=c1
  c_zW:=.(mg a2)
  l_zW:=c2
  c_zX:=.(mg a3)
  l_zX:=c3
  c_zY:=.(mg a4)
  l_zY:=c4
  c_zZ:=.(mg a5)
  l_zZ:=c5
  c_z00:=.(mg a6)
  l_z00:=c6
  c_z01:=.(mg a7)
  l_z01:=c7
  c_z02:=.(mg a8)
  l_z02:=c8
  c_z03:=.(mg a9)
  l_z03:=c9
  c_z04:=.(mg a10)
  l_z04:=c10
  c_z05:=.(mg a11)
  l_z05:=c11
  c_z06:=.(mg a12)
  l_z06:=c12
  c_z07:=.(mg a13)
  l_z07:=c13
  c_z08:=.(mg a14)
  l_z08:=c14
  c_z09:=.(mg a15)
  l_z09:=c15
  c_z0a:=.(mg a16)
  l_z0a:=c16
  c_z0b:=.(mg a17)
  l_z0b:=c17
  c_z0c:=.(mg a18)
  l_z0c:=c18
  c_z0d:=.(mg a19)
  l_z0d:=c19
  c_z0e:=.(mg a20)
  l_z0e:=c20
  c_z0f:=.(mg a21)
  l_z0f:=c21
  c_z0g:=.(mg a22)
  l_z0g:=c22
  c_z0h:=.(mg a23)
  l_z0h:=c23
  n_z0g:=⟨.(mg a22),c22.cls,i22,fI22,_,.(cf c22 e22 f22),nW I22 rfl .q c22.cls n22_0 n22_1 n22_2 (by decide) (by decide) (by decide) (by decide) (by decide) (by decide) .(Ab) .(Ab) .(Ab),I22.binds .(AO)⟩
  n_zZ:=⟨.(mg a5),c5.cls,i5,fI5,_,.(cf c5 e5 f5),fW I5 rfl .q c5.cls n5_0 n5_1 (by decide) (by decide) (by decide) (by decide) .(Ab),I5.binds .(AN)⟩
  n_z06:=⟨.(mg a12),c12.cls,i12,fI12,_,.(cf c12 e12 f12),nW I12 rfl .q c12.cls n12_0 n12_1 n12_2 (by decide) (by decide) (by decide) (by decide) (by decide) (by decide) .(Ab) .(Ab) .(Ab),I12.binds .(AO)⟩
  n_z04:=⟨.(mg a10),c10.cls,i10,fI10,_,.(cf c10 e10 f10),il I10 rfl .q c10.cls n10_0 (by decide) (by decide) ,I10.binds .(AM)⟩
  n_z00:=⟨.(mg a6),c6.cls,i6,fI6,_,.(cf c6 e6 f6),fW I6 rfl .q c6.cls n6_0 n6_1 (by decide) (by decide) (by decide) (by decide) .(Ab),I6.binds .(AN)⟩
  n_z07:=⟨.(mg a13),c13.cls,i13,fI13,_,.(cf c13 e13 f13),fW I13 rfl .q c13.cls n13_0 n13_1 (by decide) (by decide) (by decide) (by decide) .(Ab),I13.binds .(AN)⟩
  n_z09:=⟨.(mg a15),c15.cls,i15,fI15,_,.(cf c15 e15 f15),vE I15 rfl .q c15.cls n15_0 n15_1 n15_2 n15_3 (by decide) (by decide) (by decide) (by decide) (by decide) (by decide) (by decide) (by decide) .(Ab) .(Ab) .(Ab) .(Ab) .(Ab) .(Ab),I15.binds .(AP)⟩
  n_zX:=⟨.(mg a3),c3.cls,i3,fI3,_,.(cf c3 e3 f3),il I3 rfl .q c3.cls n3_0 (by decide) (by decide) ,I3.binds .(AM)⟩
  k_zW:=⟨c2.mks,o2,c2.kp⟩
  n_zY:=⟨.(mg a4),c4.cls,i4,fI4,_,.(cf c4 e4 f4),il I4 rfl .q c4.cls n4_0 (by decide) (by decide) ,I4.binds .(AM)⟩
  n_z0f:=⟨.(mg a21),c21.cls,i21,fI21,_,.(cf c21 e21 f21),il I21 rfl .q c21.cls n21_0 (by decide) (by decide) ,I21.binds .(AM)⟩
  n_z05:=⟨.(mg a11),c11.cls,i11,fI11,_,.(cf c11 e11 f11),fW I11 rfl .q c11.cls n11_0 n11_1 (by decide) (by decide) (by decide) (by decide) .(Ab),I11.binds .(AN)⟩
  k_z02:=⟨c8.mks,o8,c8.kp⟩
  k_z03:=⟨c9.mks,o9,c9.kp⟩
  n_z0h:=⟨.(mg a23),c23.cls,i23,fI23,_,.(cf c23 e23 f23),fW I23 rfl .q c23.cls n23_0 n23_1 (by decide) (by decide) (by decide) (by decide) .(Ab),I23.binds .(AN)⟩
  k_zV:=⟨c1.mks,o1,c1.kp⟩
  x_Bonds_unbarred:=n14_0
  x_Bonds_let_by:=n14_1
  x_Bonds_lasting:=n14_2
  x_Broken_settings:=n19_0
  x_Broken_deeds:=n19_1
  x_Kept_marks:=n18_0
  x_Rooms_step:=n16_0
  x_Rooms_doors:=n16_1
  f_after:=(.(fl c22 n22_2 22 bB))
  f_before:=(.(fl c22 n22_0 22 bB))
  f_begin:=(.(fl c15 n15_1 15 bB))
  f_body:=(.(fl c13 n13_1 13 bB))
  f_bonds:=(.(fl c15 n15_0 15 bB))
  f_deed:=(.(fl c22 n22_1 22 (.(fl c23 n23_1 23 bB))))
  f_deeds:=(.(fl c19 n19_1 19 bB))
  f_door:=(.(fl c15 n15_3 15 bB))
  f_doors:=(.(fl c16 n16_1 16 bB))
  f_head:=(.(fl c11 n11_0 11 bB))
  f_inner:=(.(fl c4 n4_0 4 bB))
  f_lasting:=(.(fl c14 n14_2 14 bB))
  f_left:=(.(fl c5 n5_0 5 (.(fl c6 n6_0 6 bB))))
  f_let_by:=(.(fl c14 n14_1 14 bB))
  f_name:=(.(fl c3 n3_0 3 (.(fl c10 n10_0 10 bB))))
  f_no:=(.(fl c12 n12_2 12 bB))
  f_right:=(.(fl c5 n5_1 5 (.(fl c6 n6_1 6 bB))))
  f_settings:=(.(fl c19 n19_0 19 bB))
  f_starts:=(.(fl c15 n15_2 15 bB))
  f_tail:=(.(fl c11 n11_1 11 bB))
  f_test:=(.(fl c12 n12_0 12 (.(fl c13 n13_0 13 (.(fl c21 n21_0 21 (.(fl c23 n23_0 23 bB))))))))
  f_unbarred:=(.(fl c14 n14_0 14 bB))
  f_yes:=(.(fl c12 n12_1 12 bB))
  i_z0d:=eB hC wBroken rfl (by decide)
  i_z06:=eB hC wChoice rfl (by decide)
  i_z04:=eB hC wDeed rfl (by decide)
  i_z05:=eB hC wRow rfl (by decide)
  i_z02:=eB hC wSkip rfl (by decide)
  i_z03:=eB hC wStop rfl (by decide)
  i_bool:=eB hC wbool rfl (by decide)
  e_DEEDS:=⟨tDEEDS,.(mg bxDEEDS),mj lxDEEDS (by show 5<=sizeLine;decide) (.cons ⟨_,rfl⟩ (.cons ⟨_,rfl⟩ (.cons ⟨_,rfl⟩ (.cons ⟨_,rfl⟩ (.cons ⟨_,rfl⟩ (.nil))))))⟩
  e_DONE:=⟨kDONE,.(mg bxDONE)⟩
  e_ENDS:=⟨tENDS,.(mg bxENDS),mj lxENDS (by show 3<=sizeLine;decide) (.cons ⟨_,rfl⟩ (.cons ⟨_,rfl⟩ (.cons ⟨_,rfl⟩ (.nil))))⟩
  e_EVERY:=⟨kEVERY,.(mg bxEVERY)⟩
  e_FOUND:=⟨kFOUND,.(mg bxFOUND)⟩
  e_HUNG:=⟨kHUNG,.(mg bxHUNG)⟩
  e_LETTERS:=⟨tLETTERS,.(mg bxLETTERS),mj lxLETTERS (by show 4<=sizeLine;decide) (.cons ⟨_,rfl⟩ (.cons ⟨_,rfl⟩ (.cons ⟨_,rfl⟩ (.cons ⟨_,rfl⟩ (.nil)))))⟩
  e_SETTINGS:=⟨kSETTINGS,.(mg bxSETTINGS)⟩
  e_STOPPED:=⟨kSTOPPED,.(mg bxSTOPPED)⟩
  z_all:=.(mz zall)
  z_any:=.(mz zany)
  z_bool:=.(mz zbool)
  z_enumerate:=.(mz zenumerate)
  z_isinstance:=.(mz zisinstance)
  z_len:=.(mz zlen)
  z_list:=.(mz zlist)
  z_max:=.(mz zmax)
  z_range:=.(mz zrange)
 }
 obtain⟨f',fd',ps',e1,e2,e3,e4⟩:=(pM C F 110).h_zw.ex
 exact uU D32 cH rfl fun _ _ _ _ _ _ hr=>FP C (pM C F 109) hr
end M63
#synth .(tw [4058633754394044255,9880872353511461345,6050598725097955080,339584856519748867,9452986495665501004,1084943438734892253,11984897923981711329,17403264821161494823,5284003902748875452,15625118237125598046,1818838335510163918,13478092501335277050,12860775949234533319,18131164270775531134,9947268593487343836,13613745571236726665,3340798865493535522,13537868594880765588,8077634996636806469,7201945349730435787,15531337912280527370,12393115798817526056,5301954822625906818,2892609484168629445,6230902663875501782,16831374398251685687,12237534287215857013,14917134369529810331,7271344061880358236,13336817812571576395,11948010892450112439,12577329149045918097,4243258331465901304,12820518821335784083,13170724562360263162,15579707392503651742,3657657824582712195,13117810800913407091,7975751300619397686,6096258378675824938,4429790430308402464,8195388075108453483,7315526715366506173,9915771259692633439,14741049452610767914,17241145743522683160,9597190367512891720,8680175845155746543,11227584208736723555,17079698680691120563,17315336557322198115,5122946593047284748,16893356449257436132,15660470295544985111,13911598460210464214,9133547411103939126,1480150606109085131,10842455036115982283,2250347604716927340,12019002024660810352,914615894108050745,9379358617609357179,8672086518810512947,15296706463156257355,7777006066181396241,12450131605113675720,4099143516597238884,6383461067092203190,3445472388827269112,5236962526411509386,11013732533063181377,18069225700825920018,17502958029601465192,9325665613805148334,847916637994779288,17152144258096047095,975075112434779351,2014171073227064794,13009925252328836292,13703826812340301693,14907081920594242651,9408205221071216398,16574131187046609325,6536077510452159399,5440266269690321710,1843055830425511386,3056909290533265960,13226604834153904679,16722817027096030469,7938286827121396806,2790134563928965207,692305466878651957,12811387478378054154,14220316241000973878,7374134335640805753,10663669600107561416,159182686968289069,3258840801112579573,7011901227339782885,9370464656867779016,14130864830284061884,15492316681384284292,13620089627536814587,11193091540093837752,7768295880692083279,1105202804826790603,7017970738546799790,15649291281871689824,15128750128045571995,3307511992296652116,8268934235308051040,5353223754420954497,17029497076745344296,10053595543772955292,4267423061693436803,17372049702109043255,2390411786155628507,10681836617415406664,7893463051457963285,869954123445178910,3781324410650633718,3150259386585137323,7668173617343145414,11840585896234907649,10024897786241358558,4521104201731652454,11330938506282624580,8239597692119620363,12257714425701662060,8815049642204633207,14675720115384428661,8402875398324441833,12377669670762877044,7428446778023516756,11093130239892532883,15349317146763277639,14940325518290538097,10946088895412410947,15369799981597418925,3794093933857582248,10404116175533925556,14247555892099406745,12652458044323663597,7572728535839084524,5012876777061826699,17987028737046572813,8620677748717395323,6224866311498303441,1654773482579791705,185505280728570382,12854879687157970705,5617163305920758873,9650756876705552137,8460164075249580083,15824974326397337741,17971514335218039113,17179130074272770650,14719973704373078182,12917241565905129855,8683437030777286562,600059450854163917,14880891582570823085,13119367695572282319,7926987908503858827,17486158421214951497,17699993517780004564,15641158778527093544,964140694300386780,12923934152513764755,9733679943186127261,9818121765755352124,12858820348236032805,9883326998701622354,2232980281260571449,6993120883336021711,15973005428032546978,1797913155066637506,13790858009938493277,12725597258863372959,15102888177912707723,4410438161107440146,14363155936905952235,1766928392699482801,12195511545945878377,1168632772343934109,6904232658441656731,17253903263385616177,4500200655797358614,10546457532541519503,17103161681456397810,7342582999712591056,8192915333124771433,11573116639933051378,11434049494752830660,14818039836094422406,13825239555435406368,11949219063845517129,17517767457959862738,11991314074790170807,624809538621282435,12881408336947868195,10145534538848235358,14100311509035381494,778113316974269495,2995121456748511495,17212717484301257707,6386810168971414307,5849596236157597823,2014831206492461562,5547104946514566368,7085212094538903828,18124352764271856653,5709463385269919223,385075641586402453,3223457383493337456,10143336148182865199,18224282427880798538,9032212698100921556,14826937047325976850,12238646209334348747,18162421987105496039,16821828663051213758,4293170511380034958,6687046213864005271,10370144116110428998,13757833896220099387,823117800311011311,16166585023230872849,4524935664658105034,18304018782124935673,17558506314652954865,14397362231938006102,12717911350172421046,11912782102869550058,10132478557733241302,9836299175684901330,9402798963159021461,18412609342968906033,9451498493979404318,5302669975735357478,3473949776323763734,628874398421569367,8599698416022135798,8815319510117514200,16207473865853781843,11381254274519626016,14643571063289142461,5350238652680400985,7695970820854153138,17284919630003971077,17273409347267755374,15678792721467820228,15128909325630965704,3984841143257145768,8827367324989356338,1653036231395186877,14959463308520269862,13112645826676297525,3773640300423191647,11141404034212301184,12033769706178168863,2840796918622379253,7187399431056236911,14910453050320866347,10095557207825431299,16766157106221545658,15138264800462135992,7661317896278904102,12691568321831681001,1984436332460360428,8131592170094387952,16116614861292793011,14910125654598742086,1362229290117529871,2897199352674392893,14060605001760973723,12906531640156696382,1964617100297528043,11629561594917137379,9491406072051492578,13248575702799354372,17000402283147262622,1511967790004340644,13470587428683795129,3734128950672937494,1387999762184312591,17090074764615360730,13153305380534334718,17042249241710735875,8485218247744027146,2248625944689469478,9491864449391294980,17501119579204708735,11915660295130273817,3732583741669012861,15342193535824909715,3358782347594431703,14300124524335998104,16841553931393355285,12436460541808712714])
open PySem PySem.W PyProof.Rows
set_option maxRecDepth 100000 in
set_option maxHeartbeats 0 in
theorem PySem.Challenge.cw_anymeaning_k63_words_that_break_holds : PySem.Challenge.rw_anymeaning_k63_words_that_break.Holds := by
 w_on;o_law;k_head;(case hw=>w_witness2)
 k_fill
 refine L2.DR (l:=PySem.Challenge.rw_anymeaning_k63_words_that_break) (n:=63) (k:=220+3) (x:="_law_script") (CX:=L2.fS) (sp:=fun K=>DN.KM K M63.fN M63.nF (M63.gF 110 32)) rfl (by decide) rfl ⟨rfl,by decide,by decide⟩ (fun w h Y=>PySem.W.km_in_of Y) (fun w h Y=>DN.Ko Y (by kernel_rfl)) ?F (fun K H a ns hl hO hS cA=>DN.Hv hO hS (M63.main ns hl)) (fun _ _ _ _ z=>z)
 case F =>
  intro w mg fa h KX G hmg
  refine DN.Hw ?_
  refine' M63.JC KX G hmg ?a0 ?a1 ?a2 ?a3 ?a4 ?a5 ?a6 ?a7 ?a8 ?a9 ?a10 ?a11 ?a12 ?a13 ?a14 ?a15 ?a16 ?a17 ?a18 ?a19 ?a20 ?a21 ?a22 ?a23 ?c0 ?c1 ?c2 ?c3 ?c4 ?c5 ?c6 ?c7 ?c8 ?c9 ?c10 ?c11 ?c12 ?c13 ?c14 ?c15 ?c16 ?c17 ?c18 ?c19 ?c20 ?c21 ?c22 ?c23 ?o1 ?o2 ?e3 ?f3 ?I3 ?n3_0 ?e4 ?f4 ?I4 ?n4_0 ?e5 ?f5 ?I5 ?n5_0 ?n5_1 ?e6 ?f6 ?I6 ?n6_0 ?n6_1 ?o8 ?o9 ?e10 ?f10 ?I10 ?n10_0 ?e11 ?f11 ?I11 ?n11_0 ?n11_1 ?e12 ?f12 ?I12 ?n12_0 ?n12_1 ?n12_2 ?e13 ?f13 ?I13 ?n13_0 ?n13_1 ?e14 ?f14 ?I14 ?n14_0 ?n14_1 ?n14_2 ?e15 ?f15 ?I15 ?n15_0 ?n15_1 ?n15_2 ?n15_3 ?e16 ?f16 ?I16 ?n16_0 ?n16_1 ?e18 ?f18 ?I18 ?n18_0 ?e19 ?f19 ?I19 ?n19_0 ?n19_1 ?e21 ?f21 ?I21 ?n21_0 ?e22 ?f22 ?I22 ?n22_0 ?n22_1 ?n22_2 ?e23 ?f23 ?I23 ?n23_0 ?n23_1 ?b0 ?D0 ?b1 ?D1 ?b2 ?D2 ?b3 ?D3 ?b4 ?D4 ?b5 ?D5 ?b6 ?D6 ?b7 ?D7 ?b8 ?D8 ?b9 ?D9 ?b10 ?D10 ?b11 ?D11 ?b12 ?D12 ?b13 ?D13 ?b14 ?D14 ?b15 ?D15 ?b16 ?D16 ?b17 ?D17 ?b18 ?D18 ?b19 ?D19 ?b20 ?D20 ?b21 ?D21 ?b22 ?D22 ?b23 ?D23 ?b24 ?D24 ?b25 ?D25 ?b26 ?D26 ?b27 ?D27 ?b28 ?D28 ?b29 ?D29 ?b30 ?D30 ?b31 ?D31 ?b32 ?D32 ?m33_0 ?m33_1 ?m33_2 ?m33_3 ?m33_4 ?m33_5 ?m33_6 ?g33 ?D33 ?m34_1 ?g34 ?D34 ?m35_2 ?g35 ?D35 ?m36_3 ?g36 ?D36 ?m37_4 ?g37 ?D37 ?m38_5 ?g38 ?D38 ?m39_6 ?g39 ?D39 ?m40_14 ?g40 ?D40 ?m41_14 ?g41 ?D41 ?m42_15 ?g42 ?D42 ?m43_15 ?g43 ?D43 ?m44_17 ?g44 ?D44 ?m45_19 ?g45 ?D45 ?m46_20 ?m46_22 ?m46_23 ?g46 ?D46 ?m47_20 ?m47_21 ?g47 ?D47 ?m48_21 ?g48 ?D48 ?m49_22 ?g49 ?D49 ?m50_23 ?g50 ?D50 ?wBroken ?wChoice ?wDeed ?wRow ?wSkip ?wStop ?wbool ?bxDEEDS ?lxDEEDS ?bxDONE ?bxENDS ?lxENDS ?bxEVERY ?bxFOUND ?bxHUNG ?bxLETTERS ?lxLETTERS ?bxSETTINGS ?bxSTOPPED ?zall ?zany ?zbool ?zenumerate ?zisinstance ?zlen ?zlist ?zmax ?zrange
  (case a0|a1|a2|a3|a4|a5|a6|a7|a8|a9|a10|a11|a12|a13|a14|a15|a16|a17|a18|a19|a20|a21|a22|a23|o1|o2|e3|f3|n3_0|e4|f4|n4_0|e5|f5|n5_0|n5_1|e6|f6|n6_0|n6_1|o8|o9|e10|f10|n10_0|e11|f11|n11_0|n11_1|e12|f12|n12_0|n12_1|n12_2|e13|f13|n13_0|n13_1|e14|f14|n14_0|n14_1|n14_2|e15|f15|n15_0|n15_1|n15_2|n15_3|e16|f16|n16_0|n16_1|e18|f18|n18_0|e19|f19|n19_0|n19_1|e21|f21|n21_0|e22|f22|n22_0|n22_1|n22_2|e23|f23|n23_0|n23_1|b0|b1|b2|b3|b4|b5|b6|b7|b8|b9|b10|b11|b12|b13|b14|b15|b16|b17|b18|b19|b20|b21|b22|b23|b24|b25|b26|b27|b28|b29|b30|b31|b32|m33_0|m33_1|m33_2|m33_3|m33_4|m33_5|m33_6|g33|m34_1|g34|m35_2|g35|m36_3|g36|m37_4|g37|m38_5|g38|m39_6|g39|m40_14|g40|m41_14|g41|m42_15|g42|m43_15|g43|m44_17|g44|m45_19|g45|m46_20|m46_22|m46_23|g46|m47_20|m47_21|g47|m48_21|g48|m49_22|g49|m50_23|g50|bxDEEDS|lxDEEDS|bxDONE|bxENDS|lxENDS|bxEVERY|bxFOUND|bxHUNG|bxLETTERS|lxLETTERS|bxSETTINGS|bxSTOPPED|zall|zany|zbool|zenumerate|zisinstance|zlen|zlist|zmax|zrange=>k_is)
  (case c0|c1|c2|c3|c4|c5|c6|c7|c8|c9|c10|c11|c12|c13|c14|c15|c16|c17|c18|c19|c20|c21|c22|c23=>exact⟨by k_is,by k_is,by k_is,by k_is,by k_is,by k_is,by k_is,by k_is,by k_is,by k_is⟩)
  (case I3|I4|I5|I6|I10|I11|I12|I13|I14|I15|I16|I18|I19|I21|I22|I23|D0|D1|D2|D3|D4|D5|D6|D7|D8|D9|D10|D11|D12|D13|D14|D15|D17|D18|D19|D20|D21|D22|D23|D24|D25|D26|D27|D28|D29|D30|D31|D32|D33|D34|D35|D36|D37|D38|D39|D40|D41|D42|D43|D44|D45|D46|D47|D48|D49|D50=>(refine' L2.Hi ?l ?c ?k;(case l=>k_is);(case c=>k_is);(case k=>k_is)))
  (case wBroken|wChoice|wDeed|wRow|wSkip|wStop|wbool=>(repeat refine⟨by kit_is,?_⟩);exact trivial)
  (case D16=>(refine' DN.Ip ?l ?i ?k ?cl ?cp ?ch ?ct;(case l=>k_is);(case i=>k_is);(case k=>k_is);(case cl=>k_is);(case cp=>exact rfl);(case ch=>kernel_rfl);(case ct=>decide)))
#print axioms PySem.Challenge.cw_anymeaning_k63_words_that_break_holds
end
