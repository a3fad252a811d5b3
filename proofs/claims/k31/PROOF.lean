import PyProof.Rows.All
import Wide.All
import OpenK.AllK
import Wide.FinOn
import Lean
import PyProof.EqAt
import PyProof.EqKinds
import PyProof.TupleCall
import PyProof.CompFree
import PyProof.NeKinds
import PyProof.Rows.SumAny
import KE.KNest
import KE.KLam
import KE.KNestM
import KE.LcSums
import PyProof.EnumFor
import PyProof.EnumMake
import PyProof.EnumStmt
import PyProof.CompUse
import PyProof.RulesTry
import PyProof.StrCalls2
import PyProof.StrCalls5
import PyProof.StrLawsTight
import PyProof.Rows.StrNews2
import PyProof.Rows.StrItems
import KE.KRevIter
import PyProof.PureStr
import PyProof.SliceStr2
import PyProof.StrLawsIdx
import PyProof.WalkInts
import PyProof.SeqI3
import PyProof.IsRules
import PyProof.StationsW
import PyProof.ExcClass2
import PyProof.ExcArgs
import PyProof.ExcArgsOwn
import PyProof.PassesOwn
import PyProof.Rows.Catch
import PyProof.Rows.CatchOwn
import OpenK.KOwn
import PyProof.Draws
import PyProof.AttrMiss
import PyProof.DictItems
import PyProof.FactsAll.enumerate
import KE.KDictOf
import KE.KItemsList
import KE.KPairComp
import KE.KEqDict
import PyProof.MeetsDictList
import PyProof.RulesAs
import PyProof.NsDelKeeps
import KE.KTryMore
import PyProof.StrBlock2
import PySem.Challenge.RW_anymeaning_k31_doors
set_option Elab.async false
set_option linter.all false
set_option maxRecDepth 100000
set_option maxHeartbeats 4000000
set_option hygiene false
local macro_rules|`(.(A))=>`((p_at (b_var 0) (b_of p_int) (fun _ _=>rfl)))|`(.(B))=>`((.tup [.str "choice",.tup [.int k,.int i,.int j],a.pv,b.pv]))|`(.(C))=>`([.int k,.int i,.int j])|`(.(D))=>`((fun _ _=>rfl))|`(.(E))=>`((eN X scope hp3.objs.size (bE own caps) { s2 with heap:=hp3 } H3 fp))|`(.(G))=>`((.int (p.st.ders.length:Int)))|`(.(H))=>`((p.st.ders.length:Int))|`(.(I))=>`((dCons (aa 2) dNil))|`(.(J))=>`((model X.prog X.w))|`(.(K))=>`((.tup [.str "row",a.pv,b.pv]))|`(.(L))=>`([.v L,.v (.int z),.v p.pv,.no,.no,.no,.v (.int ((0:Int) + (k:Int))),.no])|`(.(M))=>`((d2 fIx (dSee 0) (dC (.int 0))))
local macro_rules|`(.(N))=>`((a_cons (p_var 1) a_nil))|`(.(O))=>`((x == ("__debug__":Str)))|`(.(P))=>`((dCons (aa 3) dNil))|`(.(Q))=>`((d2 fIx (dSee 0) (dC (.int 2))))|`(.(R))=>`((dCons (aa 1) dNil))|`(.(S))=>`([.v L,.v (.int z),.v p1.pv,.v p1.st.pv,.no,.no,t6,.no])|`(.(T))=>`([.v (rpv q.fst),.v q.pv,.v (.int (0 + (s:Int))),.v (eX (q.fst (0 + (s:Int))))])|`(.(U))=>`(("__debug__":Str))|`(.(V))=>`(⟨rfl,by decide +kernel,by decide +kernel,⟨⟨rfl,rfl,Or.inl rfl⟩,True.intro⟩,rfl⟩)|`(.(W))=>`((s.heap.objs.size + 1))|`(.(X))=>`((eN X scope C (bE own caps) s₀ H₀ fp))|`(.(Y))=>`((d2 fIx (dSee 0) (dC (.int 1))))
local macro_rules|`(.(Z))=>`((backTo pos (starEach es X.env)))|`(.(Aa))=>`((I7.pin (b,o) (List.mem_append_right _ (List.mem_append_right _ (bN hb e)))))|`(.(Ab))=>`((.Call (.Name x p) (e :: es) [] pos))|`(.(Ac))=>`((d2 fIx (dSee 1) (dC (.int 0))))|`(.(Ad))=>`((d2 fIx (aK (dCons (aS (dCons (dC (.str "deed")) (dCons (d2 fIx (dC (.str "PQRST")) (d2 fMod (d2 fDiv (dSee 0) (dC (.int 4))) (dC (.int 5)))) dNil))) (dCons (aS (dCons (dC (.str "skip")) dNil)) (dCons (aS (dCons (dC (.str "stop")) dNil)) (dCons (aS (dCons (dC (.str "deed")) (dCons (dC (.str "P")) dNil))) dNil))))) (d2 fMod (dSee 0) (dC (.int 4)))))|`(.(Ae))=>`([.v L,.v (.int z),.v (aQ p 0).pv,.v p.st.pv,.no,.v (rmP p.st),s6,s7])|`(.(Af))=>`((false,eval e X.env))|`(.(Ag))=>`((.obj 6 [g.pv,b.pv]))|`(.(Ah))=>`(⟨⟨rfl,rfl,Or.inl rfl⟩,True.intro⟩)|`(.(Ai))=>`([.v L,.v (.int z),.v (aQ p 0).pv,.v p.st.pv,.v (rmP p.st),.v (rmP p.st),s6,s7])|`(.(Aj))=>`((aK (cr (dSee 2) (f7 (dC (.int 1))) gB)))|`(.(Ak))=>`((dCons (dC (.int 0)) dNil))
local macro_rules|`(.(Al))=>`((s.heap.push PySem.W.emptyDict))|`(.(Am))=>`((d2 fMod (d2 fDiv (dSee 1) (dC (.int 320))) (dC (.int 3))))|`(.(An))=>`(((0:Int) + (k:Int)))|`(.(Ao))=>`((ns.map fun (n,k)=>if (k == NameKind.free && env.scope.kind == .function && env.kindOf n == some .cell) then (n,NameKind.cell) else (n,k)))|`(.(Ap))=>`((.Subscript (.Attribute (.Name x p) f p2) (.Constant (.int 0) j p3) p4))|`(.(Aq))=>`(["self","setting"])|`(.(Ar))=>`((f7 (dC (.int 1))))|`(.(As))=>`((a_cons (p_var 2) a_nil))|`(.(At))=>`((PySem.W.instObj C s.heap.objs.size))|`(.(Au))=>`(⟨c,ow,ps,x,R,e1,fun v H' s r=> ?_⟩)|`(.(Av))=>`((dC (.str "row")))|`(.(Aw))=>`([.v L,.v (.int z),.v (aQ p 0).pv,.v p.st.pv,.rgn (rmP p.st),.v (rmP p.st),s6,s7])
local macro_rules|`(.(Ax))=>`((dTr (d2 iG (ad dS (dCons (ax aC (aa 0)) dNil)) (d2 bZ (dSee 2) (dC (.int 1))))))|`(.(Ay))=>`((dCons (aa 0) dNil))|`(.(Az))=>`([.v L,.v (.int z),.v (Lp.row p1 p1).pv,.v (Lp.row p1 p1).st.pv,.no,.no,t6,.no])|`(.(AA))=>`((eX (q.fst (0 + (s:Int)))))|`(.(AB))=>`((a_cons (p_var 3) a_nil))|`(.(AC))=>`((.ListComp elt [⟨tg,iter,ifs,0⟩] scope pos))|`(.(AD))=>`((Nat.le_refl _))|`(.(AE))=>`((List.range 16))|`(.(AF))=>`((.str "choice"))|`(.(AG))=>`((.obj 4 [h.pv,t.pv]))|`(.(AH))=>`((.int (0 + (s:Int))))|`(.(AI))=>`((s2.heap.push { cls:= .type "list",data:= .seq ([]:List Value).toArray }))
local macro_rules|`(.(hr $x $s))=>`(bf (2*n+4) (A.deeper (PyProof.Rows.envOfC $x (ag $s) s.heap.objs.size f cdv)))
local macro_rules|`(.(bo $l $x $s $d))=>`(lL (io fS P w K mg base $l $x (ag $s) f cdv A outer s H E).nox (pg cA) (bw $s) ($d (gF n)))
local macro_rules|`(.(ha $e $c $b))=>`(($e).at (mC ($e).F $c rfl fun _ _ _ _ _ _ hr=>$b C I hr))
local macro_rules|`(.(fk $e $c $b))=>`(mC $e $c rfl fun _ _ _ _ _ _ hr=>$b C I hr)
local macro_rules|`(.(nf $x $k))=>`(show ($x : Str)∉fN $k by decide+kernel)
local macro_rules|`(.(mc $l $m $o $b))=>`(⟨($l).cls,_,_,_,$m,$o,$b⟩)
local macro_rules|`(.(gn $l))=>`(fun _ _ _ _=>(bv (i:=0) (show ($l : List Str).Nodup by decide+kernel) rfl (Or.inl rfl)))
local macro_rules|`(.(ta $x $l $k))=>`(p9 P w K mg base fS (2*n+3) $x (mv K (pg cA) $l (gF n $k)))
local macro_rules|`(.(df $x $s $l))=>`(∃ f fd,rz K mg $x $s $l f fd)
local macro_rules|`(.(ns $a $s))=>`(PySem.W.nsIn K mainGlobals $s = some (some (.ref $a)))
local macro_rules|`(.(no $s))=>`(PySem.W.nsIn K mainGlobals $s = some none)
local macro_rules|`(.(fi $c $s $a))=>`(PySem.W.findIn K (.ref $c) $s = some (some (.ref $a)))
local macro_rules|`(.(fo $c $s))=>`(PySem.W.findIn K (.ref $c) $s = some none)
local macro_rules|`(.(fx $a))=>`(PySem.W.isFn K (.ref $a) = true)
local macro_rules|`(.(mg $b))=>`(PySem.W.mg_of X G $b)
local macro_rules|`(.(mz $b))=>`(PySem.W.mg_none_of X G $b)
local macro_rules|`(.(fr $f $d $n $b))=>`(⟨_,$f,$d,($d).binds $n,PySem.W.mg_of X G $b⟩)
local macro_rules|`(.(cf $k $e $f))=>`(⟨($k).mks,$e,$f,($k).kp⟩)
local macro_rules|`(.(mt $d $g $m))=>`(⟨$m,$g,($d).kp⟩)
local macro_rules|`(.(fl $k $n $c $r))=>`(pE ($k).cls $n (show (fN $c).Nodup by decide+kernel) rfl $r)
local macro_rules|`(.(AJ))=>`(fun _ _ _ _ _ _ us hl=>by rcases us with _ | ⟨_,_ | ⟨_,_⟩⟩ <;> first | (cases hl; done) | rfl)
local macro_rules|`(.(AK))=>`(fun _ _ _ _ _ _ us hl=>by rcases us with _ | ⟨_,_ | ⟨_,_ | ⟨_,_⟩⟩⟩ <;> first | (cases hl; done) | rfl)
local macro_rules|`(.(AL))=>`(fun _ _ _ _ _ _ us hl=>by rcases us with _ | ⟨_,_ | ⟨_,_ | ⟨_,_ | ⟨_,_⟩⟩⟩⟩ <;> first | (cases hl; done) | rfl)
local macro_rules|`(.(AM))=>`(fun _ _ _ _ _ _ us hl=>by rcases us with _ | ⟨_,_ | ⟨_,_ | ⟨_,_ | ⟨_,_ | ⟨_,_⟩⟩⟩⟩⟩ <;> first | (cases hl; done) | rfl)
local macro_rules|`(.(AN))=>`(fun _ _ _ _ _ _ us hl=>by rcases us with _ | ⟨_,_ | ⟨_,_ | ⟨_,_ | ⟨_,_ | ⟨_,_ | ⟨_,_⟩⟩⟩⟩⟩⟩ <;> first | (cases hl; done) | rfl)
local macro_rules|`(.(AO))=>`(fun _ _ _ _ _ _ us hl=>by rcases us with _ | ⟨_,_ | ⟨_,_ | ⟨_,_ | ⟨_,_ | ⟨_,_ | ⟨_,_ | ⟨_,_⟩⟩⟩⟩⟩⟩⟩ <;> first | (cases hl; done) | rfl)
local macro_rules|`(.(AP))=>`(fun _ _ _ _ _ _ us hl=>by rcases us with _ | ⟨_,_ | ⟨_,_ | ⟨_,_ | ⟨_,_ | ⟨_,_ | ⟨_,_ | ⟨_,_ | ⟨_,_⟩⟩⟩⟩⟩⟩⟩⟩ <;> first | (cases hl; done) | rfl)
local macro_rules|`(.(AQ))=>`(fun _ _ _ _ _ _ us hl=>by rcases us with _ | ⟨_,_ | ⟨_,_ | ⟨_,_ | ⟨_,_ | ⟨_,_ | ⟨_,_ | ⟨_,_ | ⟨_,_ | ⟨_,_⟩⟩⟩⟩⟩⟩⟩⟩⟩ <;> first | (cases hl; done) | rfl)
local macro_rules|`(.(AR))=>`(([(.type "NoneType"),(.type "bool"),(.type "int"),(.type "str"),(.type "tuple"),(.type "list"),(.type "dict"),(.ref C0),(.ref C1),(.ref C2),(.ref C3),(.ref C4),(.ref C5),(.ref C6),(.ref C7),(.ref C8),(.ref C9),(.ref C10),(.ref C11),(.ref C12),(.ref C13)] : List Value))
local macro_rules|`(command|#synth .(gq $i:ident $k:num $r $d))=>`(theorem $i (n : Nat) (ws : List PV) : gF (n+1) $k ws = $r ($d (gF n)) ws:=rfl)
local macro_rules|`(tactic|exact .(obq $f:ident $d:ident))=>`(tactic| obtain ⟨$f:ident,$d:ident⟩:=$d)
local macro_rules|`(command|#synth .(is $i:ident $a:num $n:num [$ks,*] [$cs,*]))=>do{let mut r:Array Lean.Syntax:=#[];for q in[0:a.getNat] do{let b:=Lean.mkIdent (if(ks.getElems.map fun x=>x.raw.isNatLit?).contains (some q) then`true else`false);let m:=Lean.mkIdent (.mkSimple s!"{i.getId}_{q}");r:=r.push (<-`(@[simp]theorem $m :gI $i $(Lean.quote q)= .ok (.bl $b):=rfl))};for q in[0:n.getNat] do{let b:=Lean.mkIdent (if(cs.getElems.map fun x=>x.raw.isNatLit?).contains (some q) then`true else`false);let m:=Lean.mkIdent (.mkSimple s!"{i.getId}_{q}_");r:=r.push (<-`(@[simp]theorem $m :gI $i ($(Lean.quote q)+10)= .ok (.bl $b):=rfl))};return Lean.mkNullNode r}
local macro_rules|`(command|#synth .(tw [$ks,*]))=>do{let mut r:Array Lean.Syntax:=#[];for k in ks.getElems do{let m:=Lean.mkIdent (.str `PySem.W.Fast s!"tw{k.raw.isNatLit?.getD 0}");r:=r.push (<-`(noncomputable def $m :Nat:=0))};return Lean.mkNullNode r}
set_option hygiene true
noncomputable section
abbrev Fg:=PySem.W.Frag
section
namespace L2
open PySem PySem.Spec PyProof.Rows
abbrev Key:=Sum Int Str
noncomputable def pU:Key->Value->Bool
 |.inl k,v=>Value.isInt k v
 |.inr x,v=>Value.isStrOf x v
def wZ(w:World):Key->Int
 |.inl k=>hashInt k
 |.inr x=>hashStr w x
theorem aX:∀{k:Key} {v:Value},pU k v=true->(∃i t,k=Sum.inl i/\v=Value.int i t)\/(∃x t,k=Sum.inr x/\v=Value.str x t)
 |.inl i,v,h=>by
  obtain⟨t,e⟩:=Value.isInt_shape (k:=i) (v:=v) h
  exact .inl ⟨i,t,rfl,e⟩
 |.inr x,v,h=>by
  obtain⟨t,e⟩:=Value.isStrOf_shape (x:=x) (v:=v) h
  exact .inr ⟨x,t,rfl,e⟩
theorem qy(a b:Int):decide ((Sum.inl a:Key)=Sum.inl b)=(a == b):=by
 by_cases e:a=b
 ·subst e;simp
 ·have h:¬(Sum.inl a:Key)=Sum.inl b:=fun q=>e (Sum.inl.inj q)
  rw[decide_eq_false h]
  exact(beq_eq_false_iff_ne.mpr e).symm
theorem qz(a b:Str):decide ((Sum.inr a:Key)=Sum.inr b)=decide (a=b):=by
 by_cases e:a=b
 ·subst e;simp
 ·have h:¬(Sum.inr a:Key)=Sum.inr b:=fun q=>e (Sum.inr.inj q)
  rw[decide_eq_false h,decide_eq_false e]
theorem qA(a:Int)(b:Str):decide ((Sum.inl a:Key)=Sum.inr b)=false:=decide_eq_false (fun q=>nomatch q)
theorem qB(a:Str)(b:Int):decide ((Sum.inr a:Key)=Sum.inl b)=false:=decide_eq_false (fun q=>nomatch q)
noncomputable def ki(prog:Program)(w:World):PySem.KeyKind prog w Key where
 is:=pU
 hash:=wZ w
 inj:=fun v a b ha hb=>by
  rcases aX ha with⟨i,t,rfl,rfl⟩|⟨x,t,rfl,rfl⟩
  ·rcases aX hb with⟨j,u,rfl,e⟩|⟨y,u,rfl,e⟩
   ·injection e with e1 _;rw[e1]
   ·exact nomatch e
  ·rcases aX hb with⟨j,u,rfl,e⟩|⟨y,u,rfl,e⟩
   ·exact nomatch e
   ·injection e with e1 _;rw[e1]
 byValue:=fun k v h=>by
  rcases aX h with⟨i,t,rfl,rfl⟩|⟨x,t,rfl,rfl⟩ <;> rfl
 pyHash:=fun hv h=>by
  rcases aX hv with⟨i,t,rfl,rfl⟩|⟨x,t,rfl,rfl⟩
  ·exact wpAny_pyHash_int h
  ·exact wpAny_pyHash_str h
 eqBool:=fun hu hv h=>by
  rcases aX hu with⟨i,t,rfl,rfl⟩|⟨x,t,rfl,rfl⟩
  ·rcases aX hv with⟨j,u,rfl,rfl⟩|⟨y,u,rfl,rfl⟩
   ·rw[qy]at h;exact wpAny_eqBool_int h
   ·rw[qA]at h;exact SeqAt.EqAt.int_str i t y u _ _ _ _ h
  ·rcases aX hv with⟨j,u,rfl,rfl⟩|⟨y,u,rfl,rfl⟩
   ·rw[qB]at h;exact SeqAt.EqAt.str_int x t j u _ _ _ _ h
   ·rw[qz]at h;exact wpAny_eqBool_str h
 «strs» :=fun k x t v h=>by
  rcases aX h with⟨i,u,rfl,e⟩|⟨y,u,rfl,e⟩
  ·exact nomatch e
  ·injection e with e1 _
   subst e1
   cases v <;> rfl
inductive V where
 |non|bl (b:Bool)|int (i:Int)|str (x:Str)|byt (b:Array UInt8)|flt (b:UInt64)|ref (a:Addr)|ty (n:String)
 deriving DecidableEq
def aP:V->Value->Prop
 |.non,u=>u=Value.none
 |.bl b,u=>u=Value.bool b
 |.int i,u=>∃t,u=Value.int i t
 |.str x,u=>∃t,u=Value.str x t
 |.byt b,u=>∃t,u=Value.bytes b t
 |.flt b,u=>∃t,u=Value.float b t
 |.ref a,u=>u=Value.ref a
 |.ty n,u=>u=Value.type n
abbrev aG:List V->List Value->Prop:=Paired aP
theorem aG.length{xs:List V}{us:List Value}(r:aG xs us):xs.length=us.length:=Paired.length r
theorem aG.get:∀{xs:List V} {us:List Value} {i:Nat} {x:V},aG xs us->xs[i]? =some x->∃u,us[i]? =some u/\aP x u
 |_,_,_,_,.nil,e=>by simp at e
 |_,_,0,_,.cons r _,e=>by simp at e;subst e;exact⟨_,rfl,r⟩
 |_,_,i+1,x,.cons _ t,e=>by
  obtain⟨u,h1,h2⟩:=aG.get (i:=i) (x:=x) t (by simpa using e)
  exact⟨u,by simpa using h1,h2⟩
theorem aG.append:∀{xs ys:List V} {us ws:List Value},aG xs us->aG ys ws->aG (xs++ys) (us++ws)
 |_,_,_,_,.nil,s=>s
 |_,_,_,_,.cons r t,s=> .cons r (aG.append t s)
theorem aG.take:∀{xs:List V} {us:List Value} (n:Nat),aG xs us->aG (xs.take n) (us.take n)
 |_,_,0,_=> .nil
 |_,_,_+1,.nil=> .nil
 |_,_,n+1,.cons r t=> .cons r (aG.take n t)
theorem aG.drop:∀{xs:List V} {us:List Value} (n:Nat),aG xs us->aG (xs.drop n) (us.drop n)
 |_,_,0,r=>r
 |_,_,_+1,.nil=> .nil
 |_,_,n+1,.cons _ t=>aG.drop n t
def gC:Option V->Option Value->Prop
 |some v,some u=>aP v u
 |none,none=>True
 |_,_=>False
def KV{κ :Type}:List (κ×V)->List (κ×Value)->Prop:=Paired fun(p: κ×V) (q: κ×Value)=>p.1=q.1/\aP p.2 q.2
def kV:Key->V
 |.inl i=> .int i
 |.inr x=> .str x
inductive HO where
  |lst (xs:List V)
  |tup (xs:List V)
  |dK (kvs:List (Key×V)) (ep:Nat)|dT (kvs:List (List Key×V)) (ep:Nat)
  |set (S:Int->Bool) (n:Nat)
  |ins (C dx:Addr) (fs:List (Str×V))
  |own (x:Addr)
  |xd (fs:List (Str×V))
  |met (f x:Addr)
  |rng (lo hi:Int)
  |frz (o:Obj) (u:HO)
  |tbl (q:Nat)
  |ext (φ :Heap->Prop)
abbrev Hp:=Addr->Option HO
def upd(H:Hp)(a:Addr)(o:HO):Hp:=fun b=>if b=a then some o else H b
theorem aE{H:Hp}{a:Addr}{o:HO}:upd H a o a=some o:=by unfold upd;rw[if_pos rfl]
theorem ay{H:Hp}{a b:Addr}{o:HO}(h:b≠a):upd H a o b=H b:=by unfold upd;rw[if_neg h]
theorem fP{H:Hp}{a:Addr}{o u:HO}:upd (upd H a o) a u=upd H a u:=by
 funext b;unfold upd;split <;> rfl
theorem aU{H:Hp}{a b:Addr}{o:HO}(h:H a=some o)(h':H b=none):a≠b:=by
 intro e;subst e;rw[h]at h';cases h'
def pV(o:Obj):Prop:=∃(vs:Array Value) (q:Str) (t:Tok),o.data= .fields vs/\vs[1]? =some (.str q t)
section
variable(P:Program)(w:World)
def bF(H:Hp)(h:Heap)(a:Addr):HO->Prop
 |.lst xs=>xs.length<=sizeLine/\ ∃(its:List Value) (n:Nat),aG xs its/\h.get? a=some { cls:= .type "list",data:= .seq its.toArray n }
 |.tup xs=>xs.length<=sizeLine/\ ∃its:List Value,aG xs its/\IsTup h a its.toArray
 |.dK kvs ep=>kvs.length<=sizeLine/\(a == sysModules)=false/\ ∃vs,KV kvs vs/\h.DictAt (ki P w) a vs ep
 |.dT kvs ep=>kvs.length<=sizeLine/\(a == sysModules)=false/\ ∃xs:List (List Key×Addr×Value),
   Paired (fun(p:List Key×V) (q:List Key×Addr×Value)=>p.1=q.1/\H q.2.1=some (.tup (p.1.map kV))/\aP p.2 q.2.2) kvs xs /\
   ∃o es,h.get? a=some o/\o.ExactDict/\o.data= .dict es ep/\es.toList=xs.map (entryOfKey (tupleKind (ki P w)))/\(xs.map (·.1)).Nodup
 |.set S n=>h.SetOf (intKind P w) a S n
 |.ins C dx fs=>H dx=some (.own a)/\fs.length<=1000/\dx≠a/\h.get? a=some (PySem.W.instObj C dx) /\
   ∃mA,h.Ns1 dx mA/\(∀f,gC (fs.lookup f) (mA f))/\PySem.Within mA (fs.map (·.1))
 |.own _=>∃o,h.get? a=some o
 |.xd fs=>∃mA,h.Ns1 a mA/\ ∀f,gC (fs.lookup f) (mA f)
 |.rng lo hi=>∃t u v,h.get? a=some { cls:= .type "range",data:= .fields #[.int lo t,.int hi u,.int 1 v] }
 |.frz o u=>h.get? a=some o/\bF H h a u
 |.tbl _=>∃ps:Array Value,h.get? a=some (PySem.W.tabObj ps)/\TriplesOk ps.toList/\ ∀pos cv,codeAmong pos ps.toList=some cv->∃c oc u,cv= .ref c/\H c=some (.frz oc u)/\pV oc
 |.met f x=>h.get? a=some (PySem.W.methodObj (.ref f) (.ref x))
 |.ext φ => φ h/\(∃o,h.get? a=some o)/\ ∀h1 h2:Heap, φ h1->(∀o,h1.get? a=some o->h2.get? a=some o)-> φ h2
def fE(H:Hp)(h:Heap):Prop:=∀a o,H a=some o->bF P w H h a o
end
section
variable{P:Program}{w:World}{H H':Hp}{h h':Heap}{a:Addr}{o:HO}
theorem bF.lt(x:bF P w H h a o):a<h.objs.size:=by
 cases o with
 |lst xs=>obtain⟨_,_,_,_,e⟩:=x;exact Heap.lt_size e
 |tup xs=>obtain⟨_,_,_,p⟩:=x;exact p.lt
 |dK kvs ep=>obtain⟨_,_,_,_,o,_,e,_⟩:=x;exact Heap.lt_size e
 |dT kvs ep=>obtain⟨_,_,_,_,o,_,e,_⟩:=x;exact Heap.lt_size e
 |set S n=>obtain⟨o,_,_,_,e,_⟩:=x;exact Heap.lt_size e
 |ins C dx fs=>obtain⟨_,_,_,e,_⟩:=x;exact Heap.lt_size e
 |own y=>obtain⟨_,e⟩:=x;exact Heap.lt_size e
 |xd fs=>obtain⟨_,⟨_,_,_,e,_⟩,_⟩:=x;exact Heap.lt_size e
 |rng lo hi=>obtain⟨_,_,_,e⟩:=x;exact Heap.lt_size e
 |frz ob u=>obtain⟨e,_⟩:=x;exact Heap.lt_size e
 |tbl q=>obtain⟨_,e,_⟩:=x;exact Heap.lt_size e
 |met f y=>exact Heap.lt_size (show h.get? a=some _ from x)
 |ext φ =>obtain⟨_,⟨_,e⟩,_⟩:=x;exact Heap.lt_size e
theorem Paired.mapP{α β :Type}{F G: α -> β ->Prop}:∀{l₁:List α} {l₂:List β},Paired F l₁ l₂->(∀a b,F a b->G a b)->Paired G l₁ l₂
 |_,_,.nil,_=> .nil
 |_,_,.cons r t,f=> .cons (f _ _ r) (Paired.mapP t f)
theorem bF.stay(x:bF P w H h a o)(k:∀b u,(b=a\/H b=some (.own a))->h.get? b=some u->h'.get? b=some u)
  (ho:∀b,H b=some (.own a)->H' b=some (.own a)) (ht:∀b xs,H b=some (.tup xs)->H' b=some (.tup xs)) (hz:∀b o u,H b=some (.frz o u)->H' b=some (.frz o u)):bF P w H' h' a o:=by
 induction o with
 |lst xs=>obtain⟨z,its,n,r,e⟩:=x;exact⟨z,its,n,r,k _ _ (.inl rfl) e⟩
 |tup xs=>obtain⟨z,its,r,ob,e,c⟩:=x;exact⟨z,its,r,ob,k _ _ (.inl rfl) e,c⟩
 |dK kvs ep=>obtain⟨z,y,vs,r,ob,es,e,c⟩:=x;exact⟨z,y,vs,r,ob,es,k _ _ (.inl rfl) e,c⟩
 |dT kvs ep =>
  obtain⟨z,y,xs,r,ob,es,e,c⟩:=x
  exact⟨z,y,xs,Paired.mapP r fun p q z=>⟨z.1,ht _ _ z.2.1,z.2.2⟩,ob,es,k _ _ (.inl rfl) e,c⟩
 |set S n=>obtain⟨ob,es,ep,t,e,c⟩:=x;exact⟨ob,es,ep,t,k _ _ (.inl rfl) e,c⟩
 |ins C dx fs =>
  obtain⟨d,z,ne,e,mA,⟨od,es,ep,e2,c⟩,r⟩:=x
  exact⟨ho _ d,z,ne,k _ _ (.inl rfl) e,mA,⟨od,es,ep,k _ _ (.inr d) e2,c⟩,r⟩
 |own y=>obtain⟨ob,e⟩:=x;exact⟨ob,k _ _ (.inl rfl) e⟩
 |xd fs=>obtain⟨mA,⟨od,es,ep,e,c⟩,r⟩:=x;exact⟨mA,⟨od,es,ep,k _ _ (.inl rfl) e,c⟩,r⟩
 |rng lo hi=>obtain⟨t,u,v,e⟩:=x;exact⟨t,u,v,k _ _ (.inl rfl) e⟩
 |frz ob u ih=>obtain⟨e,q⟩:=x;exact⟨k _ _ (.inl rfl) e,ih q⟩
 |tbl q =>
  obtain⟨ps,e,t,r⟩:=x
  exact⟨ps,k a _ (.inl rfl) e,t,fun pos cv z=>let ⟨c,oc,u,e1,e2,e3⟩:=r pos cv z;⟨c,oc,u,e1,hz _ _ _ e2,e3⟩⟩
 |met f y =>
  have e:h.get? a=some (PySem.W.methodObj (.ref f) (.ref y)):=x
  show h'.get? a=some (PySem.W.methodObj (.ref f) (.ref y))
  exact k a _ (.inl rfl) e
 |ext φ =>obtain⟨p,⟨o,e⟩,st⟩:=x;exact⟨st _ _ p fun o q=>k _ _ (.inl rfl) q,⟨o,k _ _ (.inl rfl) e⟩,st⟩
theorem fE.lt(x:fE P w H h)(e:H a=some o):a<h.objs.size:=(x a o e).lt
theorem fE.fresh(x:fE P w H h)(e:h.objs.size<=a):H a=none:=by
 cases q:H a with
 |none=>rfl
 |some u=>exact absurd (Nat.lt_of_lt_of_le (x.lt q) e) (Nat.lt_irrefl _)
theorem fE.kept(x:fE P w H h)(k:∀b u,h.get? b=some u->h'.get? b=some u):fE P w H h':=fun a o e =>
 (x a o e).stay (fun b u _ q=>k b u q) (fun _ q=>q) (fun _ _ q=>q) fun _ _ _ q=>q
theorem fE.laid(x:fE P w H h)(k:∀b u,h.get? b=some u->h'.get? b=some u)(hp:h.objs.size<=a)(new:bF P w (upd H a o) h' a o):fE P w (upd H a o) h':=fun b u e=>by
 have hn:=x.fresh hp
 by_cases hb:b=a
 ·subst hb;rw[aE]at e;cases e;exact new
 ·rw[ay hb]at e
  exact(x b u e).stay (fun c v _ q=>k c v q) (fun c q=>by rw[ay (aU q hn)];exact q) (fun c xs q=>by rw[ay (aU q hn)];exact q) fun c o u q=>by rw[ay (aU q hn)];exact q
end
def Rd(H:Hp)(a:Addr)(u:HO):Prop:=H a=some u\/ ∃o,H a=some (.frz o u)
theorem Rd.ok{P:Program}{w:World}{H:Hp}{h:Heap}{a:Addr}{u:HO}(r:Rd H a u)(x:fE P w H h):bF P w H h a u:=by
 rcases r with r|⟨o,r⟩
 ·exact x a u r
 ·obtain⟨_,q⟩:=x a _ r
  exact q
def wc:Option HO->Prop
 |some (.lst _)=>True
 |some (.dK _ _)=>True
 |some (.dT _ _)=>True
 |some (.set _ _)=>True
 |some (.ins _ _ _)=>True
 |some (.ext _)=>True
 |_=>False
section
variable{P:Program}{w:World}{H:Hp}{h h':Heap}{x e:Addr}{o':HO}
theorem fE.write(ok:fE P w H h)(mu:wc (H x))(he:e=x\/H e=some (.own x))(k:∀b u,b≠e->h.get? b=some u->h'.get? b=some u)(heo:∃u,h'.get? e=some u)
  (new:bF P w (upd H x o') h' x o'):fE P w (upd H x o') h':=fun b u q=>by
 have nown:∀c y,H c=some (.own y)->c≠x:=fun c y r z=>by subst z;rw[r]at mu;exact mu
 have nfrz:∀c o u,H c=some (.frz o u)->c≠x:=fun c o u r z=>by subst z;rw[r]at mu;exact mu
 have ntup:∀c xs,H c=some (.tup xs)->c≠x:=fun c xs r z=>by subst z;rw[r]at mu;exact mu
 by_cases hb:b=x
 ·subst hb;rw[aE]at q;cases q;exact new
 ·rw[ay hb]at q
  by_cases hbe:b=e
  ·have q':H b=some (.own x):=by
    rcases he with z|z
    ·exact absurd (hbe.trans z) hb
    ·rw[hbe];exact z
   rw[q]at q';cases q'
   obtain⟨v,hv⟩:=heo
   exact⟨v,by rw[hbe];exact hv⟩
  ·refine(ok b u q).stay (fun c v hc r=>k c v ?_ r) (fun c r=>by rw[ay (nown c b r)];exact r) (fun c xs r=>by rw[ay (ntup c xs r)];exact r) fun c o u r=>by rw[ay (nfrz c o u r)];exact r
   rcases hc with rfl|hc
   ·exact hbe
   ·rintro rfl
    rcases he with z|z
    ·exact nown c b hc z
    ·rw[hc]at z;cases z;exact hb rfl
end
structure Un(fs ex:List Addr)(H H':Hp)(h h':Heap):Prop where
 keep:∀b o,h.get? b=some o->H b=none->b∉fs->b∉ex->h'.get? b=some o
 slot:∀b o,h.get? b=some o->H b=none->b∈fs->b∉ex->∃sl,h'.get? b=some { o with slots:=sl }
 free:∀b o,h.get? b=some o->H b=none->b∉ex->H' b=none
 there:∀b o,h.get? b=some o->b∉ex->∃o',h'.get? b=some o'
 tups:∀b xs,H b=some (.tup xs)->H' b=some (.tup xs)
 frzs:∀b o u,H b=some (.frz o u)->H' b=some (.frz o u)
 tbls:∀b q,H b=some (.tbl q)->H' b=some (.tbl q)
section
variable{fs fs' ex ex':List Addr}{H H1 H2:Hp}{h h1 h2 h':Heap}{a x e:Addr}{o:HO}
theorem Un.any(u:Un fs ex H H1 h h1){b:Addr}{ob:Obj}(q:h.get? b=some ob)(n:H b=none)(hx:b∉ex):∃sl,h1.get? b=some { ob with slots:=sl }:=by
 by_cases hb:b∈fs
 ·exact u.slot b ob q n hb hx
 ·exact⟨ob.slots,u.keep b ob q n hb hx⟩
theorem Un.kept(k:∀b u,h.get? b=some u->h'.get? b=some u):Un fs ex H H h h' :=
 ⟨fun b ob q _ _ _=>k b ob q,fun b ob q _ _ _=>⟨ob.slots,k b ob q⟩,fun _ _ _ n _=>n,fun b ob q _=>⟨ob,k b ob q⟩,fun _ _ q=>q,fun _ _ _ q=>q,fun _ _ q=>q⟩
theorem Un.refl:Un fs ex H H h h:=Un.kept fun _ _ q=>q
theorem Un.laid(k:∀b u,h.get? b=some u->h'.get? b=some u)(hp:h.objs.size<=a)(hn:H a=none):Un fs ex H (upd H a o) h h' where
 keep:=fun b u q _ _ _=>k b u q
 slot:=fun b u q _ _ _=>⟨u.slots,k b u q⟩
 free:=fun b u q n _=>by rw[ay (Nat.ne_of_lt (Nat.lt_of_lt_of_le (Heap.lt_size q) hp))];exact n
 there:=fun b u q _=>⟨u,k b u q⟩
 tups:=fun b xs q=>by rw[ay (aU q hn)];exact q
 frzs:=fun b u xs q=>by rw[ay (aU q hn)];exact q
 tbls:=fun b ps q=>by rw[ay (aU q hn)];exact q
theorem Un.write(mu:wc (H x))(he:e=x\/H e=some (.own x))(k:∀b u,b≠e->h.get? b=some u->h'.get? b=some u)(heo:∃u,h'.get? e=some u):Un fs ex H (upd H x o) h h':=by
 have hx:∀b,H b=none->b≠x:=fun b n z=>by subst z;rw[n]at mu;exact mu
 have hb:∀b,H b=none->b≠e:=fun b n z=>by
  subst z
  rcases he with r|r
  ·exact hx b n r
  ·rw[n]at r;cases r
 have hm:∀b u,H b=some u->¬wc (some u)->b≠x:=fun b u q nm z=>by subst z;rw[q]at mu;exact nm mu
 refine⟨fun b u q n _ _=>k b u (hb b n) q,fun b u q n _ _=>⟨u.slots,k b u (hb b n) q⟩,fun b u q n _=>by rw[ay (hx b n)];exact n,fun b u q _=> ?_,
  fun b xs q=>by rw[ay (hm b _ q fun z=>z)];exact q,fun b u xs q=>by rw[ay (hm b _ q fun z=>z)];exact q,fun b ps q=>by rw[ay (hm b _ q fun z=>z)];exact q⟩
 by_cases hbe:b=e
 ·subst hbe;exact heo
 ·exact⟨u,k b u hbe q⟩
end
def wd(h:Heap)(H:Hp):List Addr:=(List.range h.objs.size).filter fun a=>(H a).isSome
def gD(h:Heap)(H:Hp):Heap:=PySem.W.hideAll h (wd h H)
theorem l0(h:Heap)(H:Hp):(gD h H).objs.size=h.objs.size:=PySem.W.hideAll_size _ _
theorem lN{h:Heap}{H:Hp}{b:Addr}{o:Obj}(e:h.get? b=some o)(n:H b=none):(gD h H).get? b=some o :=
 PySem.W.hideAll_get _ e fun hm=>by
  have q:(H b).isSome=true:=(List.mem_filter.mp hm).2
  rw[n]at q;simp at q
theorem ou{h:Heap}{H:Hp}{b:Addr}{o:Obj}(e:(gD h H).get? b=some o):h.get? b=some o/\H b=none:=by
 have e':h.get? b=some o:=PySem.W.of_hideAll (wd h H) e
 refine⟨e',?_⟩
 cases q:H b with
 |none=>rfl
 |some x =>
  have hm:b∈wd h H:=List.mem_filter.mpr ⟨List.mem_range.mpr (Heap.lt_size e'),by simp[q]⟩
  have z:(gD h H).get? b=none:=PySem.W.hideAll_none (wd h H) hm
  rw[z]at e;cases e
noncomputable def ox(g h:Heap)(L:Addr):List (Addr×Obj):=(List.range h.objs.size).filterMap fun a=>if a=L\/(g.get? a).isSome=true then none else(h.get? a).map fun o=>(a,o)
def rest(g h:Heap)(L d:Addr):List (Addr×Obj):=(ox g h L).filter fun p=>decide (p.1≠d)
structure Bs extends Heap where
 tabs:List Addr
instance:Coe Bs Heap:=⟨Bs.toHeap⟩
structure Mod(K:Fg)(mg:Str->Option Value)(base:Bs):Prop where
 kin:K.In base
 glob:base.Ns mainGlobals mg
 blt:∃mb,base.Ns builtinsNs mb/\ ∀x:Str,x ≠ "__name__"->mb x=bootBuiltins x
 nolimit:base.NoLimit
 bmain:∃bm ob,mg "__builtins__"=some (.ref bm)/\bm≠builtinsNs/\base.get? bm=some ob/\ob.cls= .type "module"/\ob.dict=some builtinsNs/\ob.data= .plain
structure Cx where
 prog:Program
 w:World
 K:PySem.W.Frag
 mg:Str->Option Value
 base:Bs
 A:Around
 N:List Str
 s₀:Shared
 H₀:Hp
 env:Env
 outer:List Env
 stack:List Env
 ex:List Addr
 fn:Str->Bool
 cw:Str->Bool
 calm:Bool
 pn:List (Addr×Obj)
 xe:Value->Shared->Prop
def lJ(l:List Env):List Addr:=l.filterMap (·.frame)
abbrev Cx.fs(X:Cx):List Addr:=lJ X.outer
def oy(sc:Scope)(x:Str):Prop:=sc.names.lookup x=some .local\/sc.names.lookup x=some .cell\/sc.names.lookup x=some .free
def oz(sc:Scope)(x:Str):Prop:=sc.names.lookup x=some .local\/sc.names.lookup x=some .cell
def x6(env:Env)(h:Heap)(m:Str->Option Value)(x:Str)(u:Value):Prop :=
 (env.kindOf x=some .local/\m x=some u)\/((env.kindOf x=some .cell\/env.kindOf x=some .free)/\ ∃c,env.cells.lookup x=some c/\h.IsCell c (some u))
structure Cx.Ok(X:Cx):Prop where
 mod:Mod X.K X.mg X.base
 kind:X.env.scope.kind= .function
 glob:X.env.globals=mainGlobals
 blt:X.env.builtins=builtinsNs
 above:X.s₀.heap.objs.size<=X.env.locals
 inj:∀x y c,X.env.cells.lookup x=some c->X.env.cells.lookup y=some c->x=y
 has:∀x,(X.env.kindOf x=some .cell\/X.env.kindOf x=some .free)->∃c,X.env.cells.lookup x=some c
 cab:∀x c,X.cw x=true->X.env.cells.lookup x=some c->X.s₀.heap.objs.size<=c
 hd:X.calm=true->X.A.handled=none
 frames:X.A.frames=some X.stack
 stk:X.stack=X.outer\/(X.stack=X.env::X.outer/\X.env.frame=some X.env.locals)
 exf:∀b∈X.ex,b≠X.env.locals/\ ∀x c,X.env.cells.lookup x=some c->c≠b
 bs:∀b o,X.base.get? b=some o->X.s₀.heap.get? b=some o/\X.H₀ b=none
 bsz:X.base.objs.size<=X.s₀.heap.objs.size
 noex:∀b o,X.base.get? b=some o->b∉X.ex
 exfs:∀b∈X.ex,b∉X.fs
 funs:X.s₀.heap.FunFrames X.base X.outer
 frf:∀b∈X.fs,X.H₀ b=none
 tab:∀P∈X.base.tabs,X.H₀ P=some (.tbl 0)
 fc:∀x,X.fn x=true->X.cw x=true
structure aw(X:Cx)(pins:List (Addr×Obj))(σ :List (Option V))(H:Hp)(s:Shared):Prop where
 ok:X.Ok
 os:s.os=X.s₀.os
 bare:AllBare s.gens
 base:Un X.fs X.ex X.H₀ H X.s₀.heap s.heap
 loc:∃m,s.heap.Ns X.env.locals m/\ ∀(i:Nat) (x:Str) (v:V),X.N[i]? =some x-> σ[i]? =some (some v)->oy X.env.scope x->∃u,aP v u/\x6 X.env s.heap m x u
 cell:∀x c,X.env.cells.lookup x=some c->∃v,s.heap.IsCell c v
 free:H X.env.locals=none
 freeC:∀x c,X.env.cells.lookup x=some c->H c=none\/(X.fn x=false/\ ∃o u,H c=some (.frz o u))
 pin:∀p∈X.pn++pins,s.heap.get? p.1=some p.2/\H p.1=none/\p.1≠X.env.locals/\p.1∉X.fs/\ ∀v,p.2.data ≠ .cell v
 hok:fE X.prog X.w H s.heap
 len: σ.length=X.N.length
section
variable{X:Cx}{pins:List (Addr×Obj)}{σ :List (Option V)}{H H':Hp}{s:Shared}{h':Heap}
theorem Cx.Ok.nofr(ok:X.Ok){b:Addr}{o:Obj}(e:X.base.get? b=some o):b∉X.fs:=fun hb=>by
 have:=(ok.funs.mem hb).1
 rw[e]at this;cases this
theorem aw.bs(I:aw X pins σ H s):∀b o,X.base.get? b=some o->s.heap.get? b=some o/\H b=none:=fun b o e =>
 ⟨I.base.keep b o (I.ok.bs b o e).1 (I.ok.bs b o e).2 (I.ok.nofr e) (I.ok.noex b o e),I.base.free b o (I.ok.bs b o e).1 (I.ok.bs b o e).2 (I.ok.noex b o e)⟩
theorem aw.bk(I:aw X pins σ H s):∀b o,X.base.get? b=some o->s.heap.get? b=some o:=fun b o e=>(I.bs b o e).1
theorem aw.mod(I:aw X pins σ H s):Mod X.K X.mg X.base:=I.ok.mod
theorem aw.kIn(I:aw X pins σ H s):X.K.In s.heap:=I.ok.mod.kin.keeps I.bk
theorem aw.lt(I:aw X pins σ H s):X.env.locals<s.heap.objs.size:=let ⟨_,hn,_⟩:=I.loc;hn.lt
theorem aw.sz(I:aw X pins σ H s):X.s₀.heap.objs.size<=s.heap.objs.size:=Nat.le_trans I.ok.above (Nat.le_of_lt I.lt)
theorem aw.nofs(I:aw X pins σ H s){a:Addr}(h:s.heap.objs.size<=a):a∉X.fs:=fun hb=>by
 obtain⟨_,o,ho,_⟩:=I.ok.funs.mem hb
 exact absurd (Nat.lt_of_lt_of_le (Heap.lt_size ho) (Nat.le_trans I.sz h)) (Nat.lt_irrefl _)
theorem aw.cne(I:aw X pins σ H s):∀x c,X.env.cells.lookup x=some c->c≠X.env.locals:=fun x c e z=>by
 obtain⟨v,o,ho,hd⟩:=I.cell x c e
 obtain⟨m,⟨o',es,ep,ho',hd',_⟩,_⟩:=I.loc
 rw[z,ho']at ho;cases ho;rw[hd']at hd;cases hd
theorem aw.funs(I:aw X pins σ H s):s.heap.FunFrames X.base X.outer:=by
 have all:∀(l:List Env),(∀b∈lJ l,b∈X.fs)->X.s₀.heap.FunFrames X.base l->s.heap.FunFrames X.base l:=by
  intro l
  induction l with
  |nil=>intro _ _;trivial
  |cons env r ih =>
   intro hs hl
   obtain⟨hk,⟨L,o,hf,hn,ho,hd⟩,hr⟩:=hl
   have hL:L∈X.fs:=hs L (by unfold lJ;rw[List.filterMap_cons,hf];exact List.mem_cons_self)
   obtain⟨sl,e⟩:=I.base.slot L o ho (I.ok.frf L hL) hL fun z=>I.ok.exfs L z hL
   exact⟨hk,⟨L,_,hf,hn,e,hd⟩,ih (fun b hb=>hs b (by unfold lJ;rw[List.filterMap_cons,hf];exact List.mem_cons_of_mem _ hb)) hr⟩
 exact all X.outer (fun _ hb=>hb) I.ok.funs
theorem aw.stack(I:aw X pins σ H s):s.heap.FunFrames X.base X.stack:=by
 rcases I.ok.stk with e|⟨e,hf⟩
 ·rw[e];exact I.funs
 ·rw[e]
  obtain⟨m,hn,_⟩:=I.loc
  refine .cons (by rw[I.ok.kind];decide) hf hn ?_ I.funs
  exact Heap.get?_none_of_le (Nat.le_trans I.ok.bsz I.ok.above)
theorem aw.stkSub(I:aw X pins σ H s):∀b∈lJ X.stack,b∈X.env.locals::X.fs:=fun b hb=>by
 rcases I.ok.stk with e|⟨e,hf⟩
 ·rw[e]at hb;exact List.mem_cons_of_mem _ hb
 ·rw[e]at hb
  unfold lJ at hb
  rw[List.filterMap_cons,hf]at hb
  exact hb
theorem aw.stkFree(I:aw X pins σ H s):∀b∈lJ X.stack,H b=none:=fun b hb=>by
 rcases List.mem_cons.mp (I.stkSub b hb)with e|hb
 ·rw[e];exact I.free
 ·obtain⟨_,o,ho,_⟩:=I.ok.funs.mem hb
  exact I.base.free b o ho (I.ok.frf b hb) fun z=>I.ok.exfs b z hb
theorem aw.step{g':Array GenState}{t':Nat}{d':Drawn}{ch:List Addr}(I:aw X pins σ H s)
  (hch:∀b∈ch,(b∈X.ex\/X.s₀.heap.objs.size<=b)/\b≠X.env.locals/\(∀x c,X.env.cells.lookup x=some c->c≠b)/\ ∀p∈X.pn++pins,p.1≠b)
  (keep:∀b o,b≠X.env.locals->b∉X.fs->b∉ch->s.heap.get? b=some o->H b=none->h'.get? b=some o)
  (slot:∀b o,b≠X.env.locals->b∈X.fs->b∉ch->s.heap.get? b=some o->H b=none->∃sl,h'.get? b=some { o with slots:=sl }) (free:∀b o,b∉ch->s.heap.get? b=some o->H b=none->H' b=none)
  (there:∀b o,b∉ch->s.heap.get? b=some o->∃o',h'.get? b=some o')
  (tups:∀b xs,H b=some (.tup xs)->H' b=some (.tup xs)) (frzs:∀b o u,H b=some (.frz o u)->H' b=some (.frz o u)) (tbls:∀b q,H b=some (.tbl q)->H' b=some (.tbl q))
  (ns:∀m,s.heap.Ns X.env.locals m->h'.Ns X.env.locals m) (hok:fE X.prog X.w H' h') (hg:AllBare g') :
  aw X pins σ H' { s with heap:=h',gens:=g',drawn:=d',toks:=t' }:=by
 have neL:∀b o,X.s₀.heap.get? b=some o->b≠X.env.locals:=fun b o e=>Nat.ne_of_lt (Nat.lt_of_lt_of_le (Heap.lt_size e) I.ok.above)
 have neC:∀b o,X.s₀.heap.get? b=some o->b∉X.ex->b∉ch:=fun b o e hx hb=>by
  rcases(hch b hb).1 with z|z
  ·exact hx z
  ·exact absurd (Nat.lt_of_lt_of_le (Heap.lt_size e) z) (Nat.lt_irrefl _)
 have cellK:∀x c,X.env.cells.lookup x=some c->∀v,s.heap.IsCell c v->h'.IsCell c v:=fun x c e v ⟨o,ho,hd⟩=>by
  have nch:c∉ch:=fun z=>(hch c z).2.2.1 x c e rfl
  rcases I.freeC x c e with fc|⟨_,ob,u,fc⟩
  ·by_cases hc:c∈X.fs
   ·obtain⟨sl,q⟩:=slot c o (I.cne x c e) hc nch ho fc
    exact⟨_,q,hd⟩
   ·exact⟨o,keep c o (I.cne x c e) hc nch ho fc,hd⟩
  ·obtain⟨e1,_⟩:=I.hok c _ fc
   obtain⟨e2,_⟩:=hok c _ (frzs c ob u fc)
   rw[e1]at ho;cases ho
   exact⟨_,e2,hd⟩
 refine⟨I.ok,I.os,hg,⟨fun b o e n hb hx=> ?_,fun b o e n hb hx=> ?_,fun b o e n hx=> ?_,fun b o e hx=> ?_,fun b xs e=>tups b xs (I.base.tups b xs e),fun b o xs e=>frzs b o xs (I.base.frzs b o xs e),fun b ps e=> ?_⟩,?_,fun x c e=> ?_,?_,fun x c e=> ?_,fun p hp=> ?_,hok,I.len⟩
 ·exact keep b o (neL b o e) hb (neC b o e hx) (I.base.keep b o e n hb hx) (I.base.free b o e n hx)
 ·obtain⟨sl,e1⟩:=I.base.slot b o e n hb hx
  obtain⟨sl',e2⟩:=slot b _ (neL b o e) hb (neC b o e hx) e1 (I.base.free b o e n hx)
  exact⟨sl',e2⟩
 ·obtain⟨o',e1⟩:=I.base.there b o e hx
  exact free b o' (neC b o e hx) e1 (I.base.free b o e n hx)
 ·obtain⟨o',e1⟩:=I.base.there b o e hx
  exact there b o' (neC b o e hx) e1
 ·exact tbls b ps (I.base.tbls b ps e)
 ·obtain⟨m,hn,hl⟩:=I.loc
  refine⟨m,ns m hn,fun i x v e1 e2 e3=> ?_⟩
  obtain⟨u,r,l⟩:=hl i x v e1 e2 e3
  refine⟨u,r,?_⟩
  rcases l with l|⟨k,c,e,z⟩
  ·exact .inl l
  ·exact .inr ⟨k,c,e,cellK x c e _ z⟩
 ·obtain⟨v,z⟩:=I.cell x c e
  exact⟨v,cellK x c e v z⟩
 ·obtain⟨m,⟨o,_,_,ho,_⟩,_⟩:=I.loc
  exact free _ o (fun z=>(hch _ z).2.1 rfl) ho I.free
 ·obtain⟨v,o,ho,hd⟩:=I.cell x c e
  rcases I.freeC x c e with fc|⟨f,ob,u,fc⟩
  ·exact .inl (free c o (fun z=>(hch c z).2.2.1 x c e rfl) ho fc)
  ·exact .inr ⟨f,ob,u,frzs c ob u fc⟩
 ·obtain⟨e,n,ne,nf,d⟩:=I.pin p hp
  have nch:p.1∉ch:=fun z=>(hch p.1 z).2.2.2 p hp rfl
  exact⟨keep p.1 p.2 ne nf nch e n,free p.1 p.2 nch e n,ne,nf,d⟩
theorem aw.un{t':Nat}(I:aw X pins σ H s)(u:Un X.fs [] H H' s.heap h')(hok:fE X.prog X.w H' h'):aw X pins σ H' { s with heap:=h',toks:=t' }:=by
 obtain⟨m,⟨o,es,ep,ho,r⟩,_⟩:=id I.loc
 obtain⟨sl,hL⟩:=u.any ho I.free (by simp)
 exact I.step (g':=s.gens) (d':=s.drawn) (ch:=[]) (fun _ z=>nomatch z) (fun b o _ hb _ e n=>u.keep b o e n hb (by simp)) (fun b o _ hb _ e n=>u.slot b o e n hb (by simp)) (fun b o _ e n=>u.free b o e n (by simp)) (fun b o _ e=>u.there b o e (by simp)) u.tups u.frzs u.tbls (fun m' hm=>by
  obtain⟨o',es',ep',ho',r'⟩:=hm
  rw[ho]at ho';cases ho'
  exact⟨_,es',ep',hL,r'⟩) hok I.bare
theorem aw.call{g':Array GenState}{t':Nat}{d':Drawn}{ch:List Addr}(I:aw X pins σ H s)(u:Un (lJ X.stack) ch H H' s.heap h')(hok:fE X.prog X.w H' h')(hg:AllBare g')
  (hch:∀b∈ch,(b∈X.ex\/X.s₀.heap.objs.size<=b)/\b≠X.env.locals/\(∀x c,X.env.cells.lookup x=some c->c≠b)/\ ∀p∈X.pn++pins,p.1≠b) :
  aw X pins σ H' { s with heap:=h',gens:=g',drawn:=d',toks:=t' }:=by
 obtain⟨m,⟨o,es,ep,ho,r⟩,_⟩:=id I.loc
 obtain⟨sl,hL⟩:=u.any ho I.free fun z=>(hch _ z).2.1 rfl
 exact I.step (ch:=ch) hch (fun b o hL hb hc e n=>u.keep b o e n (fun z=>(List.mem_cons.mp (I.stkSub b z)).elim hL hb) hc) (fun b o _ _ hc e n=>u.any e n hc) (fun b o hc e n=>u.free b o e n hc) (fun b o hc e=>u.there b o e hc) u.tups u.frzs u.tbls (fun m' hm=>by
  obtain⟨o',es',ep',ho',r'⟩:=hm
  rw[ho]at ho';cases ho'
  exact⟨_,es',ep',hL,r'⟩) hok hg
theorem aw.turned{t':Nat}{it:Addr}(I:aw X pins σ H s)(k:∀b o,b≠it->s.heap.get? b=some o->h'.get? b=some o)(hn:H it=none)(hL:it≠X.env.locals)
  (h1:it∈X.ex\/X.s₀.heap.objs.size<=it) (h2:∀x c,X.env.cells.lookup x=some c->c≠it) (h3:∀p∈X.pn++pins,p.1≠it):aw X pins σ H { s with heap:=h',toks:=t' }:=by
 have nit:∀b u,H b=some u->b≠it:=fun b u e z=>by rw[z,hn]at e;cases e
 refine I.step (g':=s.gens) (d':=s.drawn) (ch:=[it]) (fun b hb=> ?_) (fun b o _ _ hc e _=>k b o (fun z=>hc (by simp[z])) e) (fun b o _ _ hc e _=>⟨o.slots,k b o (fun z=>hc (by simp[z])) e⟩) (fun _ _ _ _ n=>n)
  (fun b o hc e=>⟨o,k b o (fun z=>hc (by simp[z])) e⟩) (fun _ _ e=>e) (fun _ _ _ e=>e) (fun _ _ e=>e) (fun m hm=> ?_) (fun b u e=> ?_) I.bare
 ·have e:b=it:=by simpa using hb
  subst e
  exact⟨h1,hL,h2,h3⟩
 ·obtain⟨o,es,ep,ho,r⟩:=hm
  exact⟨o,es,ep,k _ o (Ne.symm hL) ho,r⟩
 ·refine(I.hok b u e).stay (fun c v hc q=>k c v ?_ q) (fun _ q=>q) (fun _ _ q=>q) fun _ _ _ q=>q
  rcases hc with z|z
  ·rw[z];exact nit b u e
  ·exact nit c _ z
theorem aw.tok(I:aw X pins σ H s)(t:Nat):aw X pins σ H { s with toks:=t }:=I.un (h':=s.heap) (t':=t) Un.refl I.hok
theorem aw.kept{t':Nat}(I:aw X pins σ H s)(k:∀b u,s.heap.get? b=some u->h'.get? b=some u):aw X pins σ H { s with heap:=h',toks:=t' }:=I.un (Un.kept k) (I.hok.kept k)
theorem aw.laid{a:Addr}{o:HO}{t':Nat}(I:aw X pins σ H s)(k:∀b u,s.heap.get? b=some u->h'.get? b=some u)(hp:s.heap.objs.size<=a)(new:bF X.prog X.w (upd H a o) h' a o) :
  aw X pins σ (upd H a o) { s with heap:=h',toks:=t' }:=I.un (Un.laid k hp (I.hok.fresh hp)) (I.hok.laid k hp new)
theorem aw.write{x e:Addr}{o:HO}{t':Nat}(I:aw X pins σ H s)(mu:wc (H x))(he:e=x\/H e=some (.own x))(k:∀b u,b≠e->s.heap.get? b=some u->h'.get? b=some u)(heo:∃u,h'.get? e=some u)
  (new:bF X.prog X.w (upd H x o) h' x o):aw X pins σ (upd H x o) { s with heap:=h',toks:=t' }:=I.un (Un.write mu he k heo) (I.hok.write mu he k heo new)
theorem aw.pins_of{pins':List (Addr×Obj)}(I:aw X pins σ H s)(h:∀p∈pins',s.heap.get? p.1=some p.2/\H p.1=none/\p.1≠X.env.locals/\p.1∉X.fs/\ ∀v,p.2.data ≠ .cell v):aw X pins' σ H s :=
 ⟨I.ok,I.os,I.bare,I.base,I.loc,I.cell,I.free,I.freeC,fun p hp=>(List.mem_append.mp hp).elim (fun z=>I.pin p (List.mem_append_left _ z)) (h p),I.hok,I.len⟩
theorem iS{N:List Str}(hN:N.Nodup){i j:Nat}{x:Str}(a:N[i]? =some x)(b:N[j]? =some x):i=j:=by
 obtain⟨h1,e1⟩:=List.getElem?_eq_some_iff.mp a
 obtain⟨h2,e2⟩:=List.getElem?_eq_some_iff.mp b
 exact(List.getElem_inj hN).mp (e1.trans e2.symm)
theorem gQ{M:Model}{A:Around}{E:Value->Shared->Prop}{i:Nat}{x:Str}{v:V}{u:Value}{Q:Unit->Shared->Prop}(I:aw X pins σ H s)(hN:X.N.Nodup)(hi:X.N[i]? =some x)(hx:oz X.env.scope x)(r:aP v u)
  (h:∀s',aw X pins (σ.set i (some v)) H s'->(∃a,Heap.SameBut a s.heap s'.heap/\(a=X.env.locals\/X.env.cells.lookup x=some a))->Q () s') (hf:X.fn x=true\/X.env.scope.names.lookup x=some .local:=by first|exact .inl rfl|exact .inr rfl|assumption):wpAny M A (storeName X.env x u) Q E s:=by
 obtain⟨m,hn,hl⟩:=id I.loc
 have hcls:(X.env.scope.kind == .class || (X.env.scope.kind == .module && X.env.locals != X.env.globals))=false:=by rw[I.ok.kind];rfl
 have hiσ :i<σ.length:=by rw[I.len];exact(List.getElem?_eq_some_iff.mp hi).1
 have cne:=I.cne
 have tracked:∀{a:Addr} {h':Heap},(∃o,s.heap.get? a=some o/\H a=none)->Heap.SameBut a s.heap h'->fE X.prog X.w H h':=fun {a h'} ha hs b ob e=>by
  obtain⟨_,_,hfree⟩:=ha
  refine(I.hok b ob e).stay (fun c w' hc q=>(hs.2 c ?_).trans q) (fun _ q=>q) (fun _ _ q=>q) fun _ _ _ q=>q
  rintro rfl
  rcases hc with rfl|hc
  ·rw[hfree]at e;cases e
  ·rw[hfree]at hc;cases hc
 rcases hx with hk|hk
 ·refine wpAny_storeName_local hk hn (fun h' hn' hs=> ?_) hcls
  obtain⟨oL,_,_,hoL,_⟩:=id hn
  refine h _ ⟨I.ok,I.os,I.bare,⟨fun b o e n hb hx=> ?_,fun b o e n hb hx=> ?_,I.base.free,fun b o e hx=> ?_,I.base.tups,I.base.frzs,I.base.tbls⟩,⟨_,hn',fun j y v' e1 e2 e3=> ?_⟩,fun y c e=> ?_,I.free,I.freeC,fun p hp=> ?_,tracked ⟨oL,hoL,I.free⟩ hs,by simpa using I.len⟩ ⟨_,hs,.inl rfl⟩
  ·exact(hs.2 b (Nat.ne_of_lt (Nat.lt_of_lt_of_le (Heap.lt_size e) I.ok.above))).trans (I.base.keep b o e n hb hx)
  ·obtain⟨sl,e1⟩:=I.base.slot b o e n hb hx
   exact⟨sl,(hs.2 b (Nat.ne_of_lt (Nat.lt_of_lt_of_le (Heap.lt_size e) I.ok.above))).trans e1⟩
  ·obtain⟨o',e1⟩:=I.base.there b o e hx
   exact⟨o',(hs.2 b (Nat.ne_of_lt (Nat.lt_of_lt_of_le (Heap.lt_size e) I.ok.above))).trans e1⟩
  ·by_cases hj:j=i
   ·subst hj
    rw[hi]at e1;cases e1
    rw[List.getElem?_set_self hiσ]at e2
    cases e2
    exact⟨u,r,.inl ⟨hk,by simp⟩⟩
   ·rw[List.getElem?_set_ne (Ne.symm hj)]at e2
    obtain⟨u',r',q⟩:=hl j y v' e1 e2 e3
    refine⟨u',r',?_⟩
    rcases q with⟨k,e⟩|⟨k,c,e,z⟩
    ·refine .inl ⟨k,?_⟩
     have:y≠x:=fun e=>hj (iS hN e1 (e ▸ hi))
     simp[this,e]
    ·exact .inr ⟨k,c,e,z.sameBut hs (cne y c e)⟩
  ·obtain⟨w',z⟩:=I.cell y c e
   exact⟨w',z.sameBut hs (cne y c e)⟩
  ·obtain⟨e,n,ne,nf,d⟩:=I.pin p hp
   exact⟨(hs.2 p.1 ne).trans e,n,ne,nf,d⟩
 ·have hfn:X.fn x=true:=by
   rcases hf with z|z
   ·exact z
   ·rw[z]at hk;cases hk
  obtain⟨c,hc⟩:=I.ok.has x (.inl hk)
  obtain⟨w',z⟩:=I.cell x c hc
  refine wpAny_storeName_cell I.ok.kind hk hc z (fun h' hc' hs=> ?_)
  obtain⟨oc,hoc,hocd⟩:=id z
  have hcf:H c=none:=by
   rcases I.freeC x c hc with q|⟨q,_⟩
   ·exact q
   ·rw[hfn]at q;cases q
  refine h { s with heap:=h' } ⟨I.ok,I.os,I.bare,⟨fun b o e n hb hx=> ?_,fun b o e n hb hx=> ?_,I.base.free,fun b o e hx=> ?_,I.base.tups,I.base.frzs,I.base.tbls⟩,⟨m,hn.sameBut hs (Ne.symm (cne x c hc)),fun j y v' e1 e2 e3=> ?_⟩,fun y c' e=> ?_,I.free,I.freeC,fun p hp=> ?_,tracked ⟨oc,hoc,hcf⟩ hs,by simpa using I.len⟩ ⟨c,hs,.inr hc⟩
  ·exact(hs.2 b (Nat.ne_of_lt (Nat.lt_of_lt_of_le (Heap.lt_size e) (I.ok.cab x c (I.ok.fc x hfn) hc)))).trans (I.base.keep b o e n hb hx)
  ·obtain⟨sl,e1⟩:=I.base.slot b o e n hb hx
   exact⟨sl,(hs.2 b (Nat.ne_of_lt (Nat.lt_of_lt_of_le (Heap.lt_size e) (I.ok.cab x c (I.ok.fc x hfn) hc)))).trans e1⟩
  ·obtain⟨o',e1⟩:=I.base.there b o e hx
   exact⟨o',(hs.2 b (Nat.ne_of_lt (Nat.lt_of_lt_of_le (Heap.lt_size e) (I.ok.cab x c (I.ok.fc x hfn) hc)))).trans e1⟩
  ·by_cases hj:j=i
   ·subst hj
    rw[hi]at e1;cases e1
    rw[List.getElem?_set_self hiσ]at e2
    cases e2
    exact⟨u,r,.inr ⟨.inl hk,c,hc,hc'⟩⟩
   ·rw[List.getElem?_set_ne (Ne.symm hj)]at e2
    obtain⟨u',r',q⟩:=hl j y v' e1 e2 e3
    refine⟨u',r',?_⟩
    rcases q with q|⟨k,c',e,z'⟩
    ·exact .inl q
    ·refine .inr ⟨k,c',e,z'.sameBut hs ?_⟩
     rintro rfl
     exact hj (iS hN e1 (I.ok.inj _ _ _ e hc ▸ hi))
  ·by_cases hcc:c'=c
   ·subst hcc;exact⟨_,hc'⟩
   ·obtain⟨w2,z2⟩:=I.cell y c' e
    exact⟨w2,z2.sameBut hs hcc⟩
  ·obtain⟨e,n,ne,nf,d⟩:=I.pin p hp
   refine⟨(hs.2 p.1 ?_).trans e,n,ne,nf,d⟩
   intro q
   rw[q,hoc]at e
   have q':oc=p.2:=Option.some.inj e
   exact d w' (by rw[<-q'];exact hocd)
theorem iT{M:Model}{A:Around}{E:Value->Shared->Prop}{i:Nat}{x:Str}{v:V}{u:Value}{Q:Unit->Shared->Prop}(I:aw X pins σ H s)(hN:X.N.Nodup)(hi:X.N[i]? =some x)(hx:oz X.env.scope x)(r:aP v u)
  (h:∀s',aw X pins (σ.set i (some v)) H s'->Q () s') (hf:X.fn x=true\/X.env.scope.names.lookup x=some .local:=by first|exact .inl rfl|exact .inr rfl|assumption):wpAny M A (storeName X.env x u) Q E s :=
 gQ I hN hi hx r (fun s' I' _=>h s' I') hf
end
abbrev XK:=Value->Option Addr->Hp->Prop
abbrev St:=List (Option V)
abbrev VK:=V->Hp->Prop
abbrev TE:=St->Hp->VK->Prop
abbrev TT:=St->Hp->(Bool->Hp->Prop)->Prop
abbrev TA:=St->Hp->(List V->Hp->Prop)->Prop
structure iU where
 nx:St->Hp->Prop
 rt:VK
 bk:St->Hp->Prop:=fun _ _=>False
 ct:St->Hp->Prop:=fun _ _=>False
abbrev TS:=iU->St->Hp->Prop
structure Fin(X:Cx)(H:Hp)(s:Shared):Prop where
 os:s.os=X.s₀.os
 bare:AllBare s.gens
 base:Un X.fs X.ex X.H₀ H X.s₀.heap s.heap
 hok:fE X.prog X.w H s.heap
 loc:∃m,s.heap.Ns X.env.locals m
 free:H X.env.locals=none
theorem aw.fin{X:Cx}{pins:List (Addr×Obj)}{σ :St}{H:Hp}{s:Shared}(I:aw X pins σ H s):Fin X H s:=⟨I.os,I.bare,I.base,I.hok,let ⟨m,h,_⟩:=I.loc;⟨m,h⟩,I.free⟩
def EP(X:Cx)(pins:List (Addr×Obj))(σ :St)(Q:VK)(u:Value)(s':Shared):Prop:=∃v H',aw X pins σ H' s'/\aP v u/\Q v H'
def TP(X:Cx)(pins:List (Addr×Obj))(σ :St)(Q:Bool->Hp->Prop)(b:Bool)(s':Shared):Prop:=∃H',aw X pins σ H' s'/\Q b H'
def AP(X:Cx)(pins:List (Addr×Obj))(σ :St)(Q:List V->Hp->Prop)(us:List Value)(s':Shared):Prop:=∃vs H',aw X pins σ H' s'/\aG vs us/\Q vs H'
def SP(X:Cx)(pins:List (Addr×Obj))(D:iU)(f:Flow)(s':Shared):Prop :=
 match f with
 |.next=>∃σ' H',aw X pins σ' H' s'/\D.nx σ' H'
 |.brk=>∃σ' H',aw X pins σ' H' s'/\D.bk σ' H'
 |.cont=>∃σ' H',aw X pins σ' H' s'/\D.ct σ' H'
 |.ret u=>∃v H',Fin X H' s'/\aP v u/\D.rt v H'
def PE(X:Cx)(e:Expr)(t:TE):Prop :=
 ∀(pins:List (Addr×Obj)) (s:Shared) (σ :St) (H:Hp) (Q:VK),aw X pins σ H s->t σ H Q->wpAny .(J) X.A (eval e X.env) (EP X pins σ Q) X.xe s
def PT(X:Cx)(e:Expr)(t:TT):Prop :=
 ∀(pins:List (Addr×Obj)) (s:Shared) (σ :St) (H:Hp) (Q:Bool->Hp->Prop),aw X pins σ H s->t σ H Q->wpAny .(J) X.A (isTrue e X.env (eval e X.env)) (TP X pins σ Q) X.xe s
def PW(X:Cx)(e:Expr)(t:TT):Prop :=
 ∀(whole:Sem Value) (pins:List (Addr×Obj)) (s:Shared) (σ :St) (H:Hp) (Q:Bool->Hp->Prop),aw X pins σ H s->t σ H Q->wpAny .(J) X.A (isTrue e X.env whole) (TP X pins σ Q) X.xe s
theorem PW.pt{X:Cx}{e:Expr}{t:TT}(h:PW X e t):PT X e t:=h _
def PA(X:Cx)(es:List Expr)(t:TA):Prop :=
 ∀(pos:Pos) (pins:List (Addr×Obj)) (s:Shared) (σ :St) (H:Hp) (Q:List V->Hp->Prop),aw X pins σ H s->t σ H Q->wpAny .(J) X.A (spliced .(Z)) (AP X pins σ Q) X.xe s
def PS(X:Cx)(st:Stmt)(t:TS):Prop :=
 ∀(pins:List (Addr×Obj)) (s:Shared) (σ :St) (H:Hp) (D:iU),aw X pins σ H s->t D σ H->wpAny .(J) X.A (exec st X.env) (SP X pins D) X.xe s
def jx(X:Cx)(st:List Stmt)(t:TS):Prop :=
 ∀(pins:List (Addr×Obj)) (s:Shared) (σ :St) (H:Hp) (D:iU),aw X pins σ H s->t D σ H->wpAny .(J) X.A (execs st X.env) (SP X pins D) X.xe s
theorem bq{α :Type}{t:Sem α}{Q Q': α ->Shared->Prop}{M:Model}{A:Around}{E:Value->Shared->Prop}{s:Shared}(h:wpAny M A t Q E s)(hQ:∀a s,Q a s->Q' a s):wpAny M A t Q' E s:=wpAny_mono h hQ fun _ _ x=>x
section
variable{X:Cx}
def x7(i:Nat):TE:=fun σ H Q=>∃v, σ[i]? =some (some v)/\Q v H
def tC(v:V):TE:=fun _ H Q=>Q v H
theorem br{i:Nat}{x:Str}{pos:Pos}(hN:X.N[i]? =some x)(hv:oy X.env.scope x)(hd:.(O)=false:=by decide)(hcd:(x == ("__classdict__":Str))=false:=by decide):PE X (.Name x pos) (x7 i):=by
 intro pins s σ H Q I h
 obtain⟨v,e,h⟩:=h
 obtain⟨m,hn,hl⟩:=I.loc
 obtain⟨u,r,l⟩:=hl i x v hN e hv
 have fin:EP X pins σ Q u s:=⟨v,H,I,r,h⟩
 rcases l with⟨hk,hm⟩|⟨hk,c,hc,hcell⟩
 ·exact wpAny_Name (wpAny_loadName_local I.ok.kind hk hn hm fin) hd
 ·rcases hk with hk|hk
  ·exact wpAny_Name (wpAny_loadName_cell I.ok.kind hk hc hcell fin) hd
  ·exact wpAny_Name (wpAny_loadName_free I.ok.kind hk hc hcell fin hcd) hd
theorem lO{i j pos}:PE X (.Constant (.int i) j pos) (tC (.int i)):=fun _ _ _ H _ I h=>wpAny_Constant_int ⟨.int i,H,I.tok _,⟨_,rfl⟩,h⟩
theorem tF{b j pos}:PE X (.Constant (.bool b) j pos) (tC (.bl b)):=fun _ _ _ H _ I h=>Constant_bool ⟨.bl b,H,I,rfl,h⟩
theorem qC{j pos}:PE X (.Constant .none j pos) (tC .non):=fun _ _ _ H _ I h=>Constant_none ⟨.non,H,I,rfl,h⟩
theorem qD{x j pos}:PE X (.Constant (.str x) j pos) (tC (.str x)):=fun _ _ _ H _ I h=>Calls.Constant_str ⟨.str x,H,I.tok _,⟨_,rfl⟩,h⟩
def Gl(X:Cx)(x:Str):Prop:=X.env.kindOf x=some .globalImplicit
theorem eI{E:Value->Shared->Prop}{pins:List (Addr×Obj)}{s:Shared}{σ :St}{H:Hp}{x:Str}{u:Value}{pos:Pos}{Q:Value->Shared->Prop}(I:aw X pins σ H s)(hg:Gl X x)(hm:X.mg x=some u)(h:Q u s)
  (hd:.(O)=false:=by decide):wpAny .(J) X.A (eval (.Name x pos) X.env) Q E s :=
 Calls.Name_function_global I.ok.kind hg (Calls.loadGlobal_global (by rw[I.ok.glob];exact I.mod.glob.keeps I.bk) hm h) hd
theorem ik{E:Value->Shared->Prop}{pins:List (Addr×Obj)}{s:Shared}{σ :St}{H:Hp}{x:Str}{u:Value}{pos:Pos}{Q:Value->Shared->Prop}(I:aw X pins σ H s)(hg:Gl X x)(hm:X.mg x=none)(hv:bootBuiltins x=some u)(h:Q u s)
  (hn:x ≠ "__name__":=by decide) (hd:.(O)=false:=by decide):wpAny .(J) X.A (eval (.Name x pos) X.env) Q E s:=by
 obtain⟨mb,h1,h2⟩:=I.mod.blt
 exact Calls.Name_function_global I.ok.kind hg (Calls.loadGlobal_builtin (by rw[I.ok.glob];exact I.mod.glob.keeps I.bk) hm (by rw[I.ok.blt];exact h1.keeps I.bk) ((h2 x hn).trans hv) h) hd
theorem il{x:Str}{v:V}{u:Value}{pos:Pos}(hg:Gl X x)(hm:X.mg x=some u)(r:aP v u)(hd:.(O)=false:=by decide):PE X (.Name x pos) (tC v) :=
 fun _ _ _ H _ I h=>eI I hg hm ⟨v,H,I,r,h⟩ hd
theorem oA{x:Str}{v:V}{u:Value}{pos:Pos}(hg:Gl X x)(hm:X.mg x=none)(hv:bootBuiltins x=some u)(r:aP v u)(hn:x ≠ "__name__":=by decide)(hd:.(O)=false:=by decide):PE X (.Name x pos) (tC v) :=
 fun _ _ _ H _ I h=>ik I hg hm hv ⟨v,H,I,r,h⟩ hn hd
variable{a b:Expr}{ta tb:TE}{pos:Pos}
def tB(t:TE):TT:=fun σ H Q=>t σ H fun x H1=>∃c,x= .bl c/\Q c H1
theorem qE{e:Expr}{t:TE}(h:PE X e t)(he:∀whole,isTrue e X.env whole=(do let v <- whole;standAt e.pos;holding [v] (truthy v)):=by intro _;rfl):PT X e (tB t):=by
 intro pins s σ H Q I hw
 refine isTrue_plain (bq (h pins s σ H _ I hw) fun v s1 ⟨x,H1,I1,r1,q1⟩=> ?_) (he _)
 obtain⟨d,rfl,q⟩:=q1
 cases r1
 exact wpAny_truthy_bool ⟨H1,I1,q⟩
variable{tA tB':TT}{rest:List Expr}
def tH(t u:TT):TT:=fun σ H Q=>t σ H fun c H1=>if c=true then u σ H1 Q else Q false H1
def zP(t u:TT):TT:=fun σ H Q=>t σ H fun c H1=>if c=true then Q true H1 else u σ H1 Q
def x8(t:TT):TT:=fun σ H Q=>t σ H fun c H1=>Q (!c) H1
theorem oB(ha:PT X a tA):PW X (.BoolOp .And [a] pos) tA:=by
 intro wh pins s σ H Q I h
 refine isTrue_and (bq (ha pins s σ H Q I h) fun c s1 e=> ?_)
 cases c with
 |true=>exact isTrue_and_nil e
 |false=>exact e
theorem qF(ha:PT X a tA):PW X (.BoolOp .Or [a] pos) tA:=by
 intro wh pins s σ H Q I h
 refine isTrue_or (bq (ha pins s σ H Q I h) fun c s1 e=> ?_)
 cases c with
 |false=>exact isTrue_or_nil e
 |true=>exact e
theorem qG(ha:PT X a tA)(hb:PW X (.BoolOp .And (b::rest) pos) tB'):PW X (.BoolOp .And (a::b::rest) pos) (tH tA tB'):=by
 intro wh pins s σ H Q I h
 refine isTrue_and (bq (ha pins s σ H _ I h) fun c s1 ⟨H1,I1,q1⟩=> ?_)
 cases c with
 |true=>exact hb wh pins s1 σ H1 Q I1 q1
 |false=>exact⟨H1,I1,q1⟩
theorem tI(ha:PT X a tA)(hb:PW X (.BoolOp .Or (b::rest) pos) tB'):PW X (.BoolOp .Or (a::b::rest) pos) (zP tA tB'):=by
 intro wh pins s σ H Q I h
 refine isTrue_or (bq (ha pins s σ H _ I h) fun c s1 ⟨H1,I1,q1⟩=> ?_)
 cases c with
 |true=>exact⟨H1,I1,q1⟩
 |false=>exact hb wh pins s1 σ H1 Q I1 q1
theorem qH(ha:PT X a tA):PT X (.UnaryOp .Not a pos) (x8 tA):=by
 intro pins s σ H Q I h
 exact isTrue_not (ha pins s σ H (fun c H1=>Q (!c) H1) I h)
def tJ(ta tb:TE):TE:=fun σ H Q=>ta σ H fun x H1=>∃c,x= .bl c/\if c=true then tb σ H1 Q else Q (.bl false) H1
def x9(ta tb:TE):TE:=fun σ H Q=>ta σ H fun x H1=>∃c,x= .bl c/\if c=true then Q (.bl true) H1 else tb σ H1 Q
def tK(ta:TE):TE:=fun σ H Q=>ta σ H fun x H1=>∃c,x= .bl c/\Q (.bl (!c)) H1
theorem qI{op}{t:TE}(h:PE X a t):PE X (.BoolOp op [a] pos) t:=fun pins s σ H Q I hw=>BoolOp_one (h pins s σ H Q I hw)
theorem qJ(ha:PE X a ta)(hb:PE X (.BoolOp .And (b::rest) pos) tb):PE X (.BoolOp .And (a::b::rest) pos) (tJ ta tb):=by
 intro pins s σ H Q I h
 refine BoolOp_and (bq (ha pins s σ H _ I h) fun v s1 ⟨x,H1,I1,r1,q1⟩=> ?_)
 obtain⟨c,rfl,q1⟩:=q1
 cases r1
 refine wpAny_truthy_bool ?_
 cases c with
 |true=>exact hb pins s1 σ H1 Q I1 q1
 |false=>exact⟨.bl false,H1,I1,rfl,q1⟩
theorem tL(ha:PE X a ta)(hb:PE X (.BoolOp .Or (b::rest) pos) tb):PE X (.BoolOp .Or (a::b::rest) pos) (x9 ta tb):=by
 intro pins s σ H Q I h
 refine BoolOp_or (bq (ha pins s σ H _ I h) fun v s1 ⟨x,H1,I1,r1,q1⟩=> ?_)
 obtain⟨c,rfl,q1⟩:=q1
 cases r1
 refine wpAny_truthy_bool ?_
 cases c with
 |false=>exact hb pins s1 σ H1 Q I1 q1
 |true=>exact⟨.bl true,H1,I1,rfl,q1⟩
theorem qK(ha:PE X a ta):PE X (.UnaryOp .Not a pos) (tK ta):=by
 intro pins s σ H Q I h
 refine UnaryOp_ (bq (ha pins s σ H _ I h) fun v s1 ⟨x,H1,I1,r1,q1⟩=> ?_)
 obtain⟨c,rfl,q1⟩:=q1
 cases r1
 exact not_of (wpAny_truthy_bool ⟨.bl (!c),H1,I1,rfl,q1⟩)
def AF(t:TT)(ta tb:TE):TE:=fun σ H Q=>t σ H fun c H1=>if c=true then ta σ H1 Q else tb σ H1 Q
theorem lP{c:Expr}(hc:PT X c tA)(ha:PE X a ta)(hb:PE X b tb):PE X (.IfExp c a b pos) (AF tA ta tb):=by
 intro pins s σ H Q I h
 refine wpAny_IfExp (bq (hc pins s σ H _ I h) fun d s1 ⟨H1,I1,q1⟩=> ?_)
 cases d with
 |true=>exact ha pins s1 σ H1 Q I1 q1
 |false=>exact hb pins s1 σ H1 Q I1 q1
end
def dI(K:Fg)(H:Hp)(a:Addr)(xs:List V):Prop :=
 Rd H a (.lst xs) \/
  ∃(o:Obj) (its:Array Value) (n:Nat),K.lookup a=some o/\o.cls= .type "list"/\o.dict=none/\o.data= .seq its n/\its.size<=sizeLine/\aG xs its.toList
def f8(K:Fg)(H:Hp)(a:Addr)(xs:List V):Prop :=
 Rd H a (.tup xs) \/
  ∃(o:Obj) (its:Array Value) (n:Nat),K.lookup a=some o/\o.cls= .type "tuple"/\o.data= .seq its n/\its.size<=sizeLine/\aG xs its.toList
noncomputable def xb:Value->Option V
 |.none=>some .non
 |.bool b=>some (.bl b)
 |.int i _=>some (.int i)
 |.str x _=>some (.str x)
 |.bytes b _=>some (.byt b)
 |.float b _=>some (.flt b)
 |.ref a=>some (.ref a)
 |.type n=>some (.ty n)
 |_=>none
theorem aP.abs{x:V}{u:Value}(r:aP x u):xb u=some x:=by
 cases x with
 |non=>cases r;rfl
 |bl _=>cases r;rfl
 |int _=>obtain⟨t,rfl⟩:=r;rfl
 |str _=>obtain⟨t,rfl⟩:=r;rfl
 |byt _=>obtain⟨t,rfl⟩:=r;rfl
 |flt _=>obtain⟨t,rfl⟩:=r;rfl
 |ref _=>cases r;rfl
 |ty _=>cases r;rfl
theorem aP.inj{x y:V}{u:Value}(r:aP x u)(q:aP y u):x=y:=Option.some.inj (r.abs.symm.trans q.abs)
theorem aG.inj:∀{xs ys:List V} {us:List Value},aG xs us->aG ys us->xs=ys
 |_,_,_,.nil,.nil=>rfl
 |_,_,_,.cons r t,.cons r' t'=>by rw[r.inj r',aG.inj t t']
section
variable{X:Cx}{pins:List (Addr×Obj)}{σ :St}{H:Hp}{s:Shared}{a:Addr}{xs ys:List V}
theorem dI.of{K:Fg}(h:H a=some (.lst xs)):dI K H a xs:= .inl (.inl h)
theorem f8.of{K:Fg}(h:H a=some (.tup xs)):f8 K H a xs:= .inl (.inl h)
theorem aw.list(I:aw X pins σ H s)(h:dI X.K H a xs):∃its:List Value,aG xs its/\PlainL s.heap a its.toArray/\xs.length<=sizeLine:=by
 rcases h with h|⟨o,its,n,hk,hc,hd,hs,hz,r⟩
 ·obtain⟨z,its,n,r,e⟩:=h.ok I.hok
  exact⟨its,r,⟨_,n,e,rfl,rfl,rfl⟩,z⟩
 ·refine⟨its.toList,r,⟨o,n,I.kIn a o hk,hc,hd,by simpa using hs⟩,?_⟩
  have e:=r.length
  simp only[Array.length_toList]at e
  omega
theorem aw.tuple(I:aw X pins σ H s)(h:f8 X.K H a xs):∃its:List Value,aG xs its/\IsTup s.heap a its.toArray/\xs.length<=sizeLine:=by
 rcases h with h|⟨o,its,n,hk,hc,hs,hz,r⟩
 ·obtain⟨z,its,r,p⟩:=h.ok I.hok
  exact⟨its,r,p,z⟩
 ·refine⟨its.toList,r,⟨o,I.kIn a o hk,hc,n,by simpa using hs⟩,?_⟩
  have e:=r.length
  simp only[Array.length_toList]at e
  omega
theorem aw.list_inj(I:aw X pins σ H s)(h:dI X.K H a xs)(h':dI X.K H a ys):xs=ys:=by
 obtain⟨its,r,⟨o,n,e,_,_,d⟩,_⟩:=I.list h
 obtain⟨its',r',⟨o',n',e',_,_,d'⟩,_⟩:=I.list h'
 rw[e]at e';cases e'
 rw[d]at d'
 injection d' with d1 _
 have:its=its':=by simpa using congrArg Array.toList d1
 subst this
 exact r.inj r'
theorem aw.tuple_inj(I:aw X pins σ H s)(h:f8 X.K H a xs)(h':f8 X.K H a ys):xs=ys:=by
 obtain⟨its,r,⟨o,e,_,n,d⟩,_⟩:=I.tuple h
 obtain⟨its',r',⟨o',e',_,n',d'⟩,_⟩:=I.tuple h'
 rw[e]at e';cases e'
 rw[d]at d'
 injection d' with d1 _
 have:its=its':=by simpa using congrArg Array.toList d1
 subst this
 exact r.inj r'
end
abbrev Cx.wish(X:Cx)(E:Value->Shared->Prop):Cx:={ X with xe:=E }
abbrev Cx.nox(X:Cx):Cx:=X.wish fun _ _=>False
theorem Cx.Ok.wish{X:Cx}(ok:X.Ok)(E:Value->Shared->Prop):(X.wish E).Ok :=
 ⟨ok.mod,ok.kind,ok.glob,ok.blt,ok.above,ok.inj,ok.has,ok.cab,ok.hd,ok.frames,ok.stk,ok.exf,ok.bs,ok.bsz,ok.noex,ok.exfs,ok.funs,ok.frf,ok.tab,ok.fc⟩
theorem Cx.Ok.unwish{X:Cx}{E:Value->Shared->Prop}(ok:(X.wish E).Ok):X.Ok :=
 ⟨ok.mod,ok.kind,ok.glob,ok.blt,ok.above,ok.inj,ok.has,ok.cab,ok.hd,ok.frames,ok.stk,ok.exf,ok.bs,ok.bsz,ok.noex,ok.exfs,ok.funs,ok.frf,ok.tab,ok.fc⟩
section
variable{X:Cx}{pins:List (Addr×Obj)}{σ :St}{H:Hp}{s:Shared}{E:Value->Shared->Prop}
theorem aw.wish(I:aw X pins σ H s)(E:Value->Shared->Prop):aw (X.wish E) pins σ H s:=⟨I.ok.wish E,I.os,I.bare,I.base,I.loc,I.cell,I.free,I.freeC,I.pin,I.hok,I.len⟩
theorem aw.unwish(I:aw (X.wish E) pins σ H s):aw X pins σ H s:=⟨I.ok.unwish,I.os,I.bare,I.base,I.loc,I.cell,I.free,I.freeC,I.pin,I.hok,I.len⟩
theorem SP.unwish{D:iU}{f:Flow}{s':Shared}(h:SP (X.wish E) pins D f s'):SP X pins D f s':=by
 cases f with
 |next=>obtain⟨σ',H',I,q⟩:=h;exact⟨σ',H',I.unwish,q⟩
 |brk=>obtain⟨σ',H',I,q⟩:=h;exact⟨σ',H',I.unwish,q⟩
 |cont=>obtain⟨σ',H',I,q⟩:=h;exact⟨σ',H',I.unwish,q⟩
 |ret u=>obtain⟨v,H',I,r,q⟩:=h;exact⟨v,H',⟨I.os,I.bare,I.base,I.hok,I.loc,I.free⟩,r,q⟩
theorem jx.nox{st:List Stmt}{t:TS}(h:jx X.nox st t):jx X st t:=fun pins s σ H D I hw =>
 wpAny_mono (h pins s σ H D (I.wish _) hw) (fun _ _ q=>q.unwish) fun _ _ z=>False.elim z
end
section
variable{X:Cx}{st:Stmt}{rest:List Stmt}{t u:TS}{e:Expr}{te:TE}{pos:Pos}
def tM:TS:=fun D σ H=>D.nx σ H
def xc(t u:TS):TS:=fun D σ H=>t { D with nx:=u D } σ H
theorem oC:jx X [] tM:=fun _ _ σ H _ I h=>wpAny_execs_nil ⟨σ,H,I,h⟩
theorem cO(h1:PS X st t)(h2:jx X rest u):jx X (st::rest) (xc t u):=by
 intro pins s σ H D I h
 refine wpAny_execs_cons (bq (h1 pins s σ H { D with nx:=u D } I h) fun f s1 q=> ?_)
 cases f with
 |next =>
  obtain⟨σ',H',I',q⟩:=q
  exact h2 pins s1 σ' H' D I' q
 |ret v=>exact q
 |brk=>exact q
 |cont=>exact q
theorem fQ(h1:PS X st t):jx X [st] t:=by
 intro pins s σ H D I h
 refine wpAny_execs_cons (bq (h1 pins s σ H D I h) fun f s1 q=> ?_)
 cases f with
 |next=>exact wpAny_execs_nil q
 |ret v=>exact q
 |brk=>exact q
 |cont=>exact q
theorem aw.quiet{pins:List (Addr×Obj)}{σ :St}{H:Hp}{s:Shared}(I:aw X pins σ H s):interactive X.env=false:=by simp[interactive,I.ok.kind]
def tN(te:TE):TS:=fun D σ H=>te σ H fun _ H1=>D.nx σ H1
theorem kj(he:PE X e te)(hs:swapsWith e none pos.line X.env=pure false:=by rfl):PS X (.Expr e pos) (tN te):=by
 intro pins s σ H D I h
 exact wpAny_Expr_any (bq (he pins s σ H _ I h) fun v s1 ⟨x,H1,I1,r1,q1⟩=>⟨σ,H1,I1,q1⟩) I.quiet hs
def xf(te:TE):TS:=fun D σ H=>te σ H D.rt
theorem qL(he:PE X e te):PS X (.Return (some e) pos) (xf te):=by
 intro pins s σ H D I h
 exact wpAny_Return_some (bq (he pins s σ H _ I h) fun v s1 ⟨x,H1,I1,r1,q1⟩=>⟨x,H1,I1.fin,r1,q1⟩)
def xg(c:TT)(t u:TS):TS:=fun D σ H=>c σ H fun b H1=>if b=true then t D σ H1 else u D σ H1
theorem tO{c:Expr}{a b:List Stmt}{tc:TT}(hc:PT X c tc)(ha:jx X a t)(hb:jx X b u):PS X (.If c a b pos) (xg tc t u):=by
 intro pins s σ H D I h
 refine wpAny_If (bq (hc pins s σ H _ I h) fun d s1 ⟨H1,I1,q1⟩=> ?_)
 cases d with
 |true=>exact ha pins s1 σ H1 D I1 q1
 |false=>exact hb pins s1 σ H1 D I1 q1
end
abbrev TG:=V->St->Hp->(St->Hp->Prop)->Prop
abbrev oE:=List V->St->Hp->(St->Hp->Prop)->Prop
def PG(X:Cx)(target:Expr)(t:TG):Prop :=
 ∀(pins:List (Addr×Obj)) (s:Shared) (σ :St) (H:Hp) (v:V) (u:Value) (Q:St->Hp->Prop),aw X pins σ H s->aP v u->t v σ H Q ->
  wpAny .(J) X.A (assign target X.env u) (fun _ s'=>∃σ' H',aw X pins σ' H' s'/\Q σ' H') X.xe s
def qM(X:Cx)(ts:List Expr)(t:oE):Prop :=
 ∀(pins:List (Addr×Obj)) (s:Shared) (σ :St) (H:Hp) (vs:List V) (us:List Value) (Q:St->Hp->Prop),aw X pins σ H s->aG vs us->t vs σ H Q ->
  wpAny .(J) X.A (assignInOrder ((assignEach ts X.env).map (·.2)) us) (fun _ s'=>∃σ' H',aw X pins σ' H' s'/\Q σ' H') X.xe s
section
variable{X:Cx}{pos:Pos}
def pW(i:Nat):TG:=fun v σ H Q=>Q (σ.set i (some v)) H
theorem oF{i:Nat}{x:Str}(hN:X.N.Nodup)(hi:X.N[i]? =some x)(hx:oz X.env.scope x)(hf:X.fn x=true\/X.env.scope.names.lookup x=some .local:=by first|exact .inl rfl|exact .inr rfl|assumption):PG X (.Name x pos) (pW i):=by
 intro pins s σ H v u Q I r h
 exact wpAny_assign_Name (iT I hN hi hx r (fun s' I'=>⟨_,H,I',h⟩) hf)
def xh:oE:=fun vs σ H Q=>vs=[]/\Q σ H
def tP(t:TG)(u:oE):oE:=fun vs σ H Q=>∃v r,vs=v::r/\t v σ H fun σ' H'=>u r σ' H' Q
theorem oG:qM X [] xh:=by
 intro pins s σ H vs us Q I r h
 obtain⟨e,h⟩:=h
 subst e
 cases r
 exact assignInOrder_nil ⟨σ,H,I,h⟩
theorem lQ{e:Expr}{es:List Expr}{t:TG}{u:oE}(h1:PG X e t)(h2:qM X es u)
  (hs:(assignEach (e::es) X.env).map (·.2)=assign e X.env::(assignEach es X.env).map (·.2):=by rfl):qM X (e::es) (tP t u):=by
 intro pins s σ H vs us Q I r h
 obtain⟨v,vr,e1,h⟩:=h
 subst e1
 cases r with
 |cons r rr =>
  rw[hs]
  refine assignInOrder_cons (bq (h1 pins s σ H _ _ _ I r h) fun _ s1 ⟨σ1,H1,I1,q1⟩=> ?_)
  exact h2 pins s1 σ1 H1 _ _ Q I1 rr q1
def xi(K:Fg)(n:Nat)(t:oE):TG:=fun v σ H Q=>∃a xs,v= .ref a/\f8 K H a xs/\xs.length=n/\t xs σ H Q
theorem qN{es:List Expr}{k:Nat}{t:oE}{n:Nat}(hc:X.calm=true)(h:qM X es t)
  (hn:(assignEach es X.env).length=n:=by rfl) (hst:(assignEach es X.env).findIdx? (·.1)=none:=by rfl):PG X (.Tuple es k pos) (xi X.K n t):=by
 intro pins s σ H v u Q I r hw
 obtain⟨a,xs,e1,hq,hl,hw⟩:=hw
 subst e1
 cases r
 obtain⟨its,rv,ht,hz⟩:=I.tuple hq
 refine assign_Tuple_tuple (I.ok.hd hc) ht (by simp[hn,<-hl,rv.length]) hst fun h' hx=> ?_
 have I1:aw X pins σ H { s with heap:=h' }:=I.kept (t':=s.toks) fun b o e=>hx b o (Nat.ne_of_lt (Heap.lt_size e)) e
 exact h pins _ σ H xs _ Q I1 (by simpa using rv) hw
def tQ(te:TE)(g:TG):TS:=fun D σ H=>te σ H fun x H1=>g x σ H1 D.nx
theorem qO{tg e:Expr}{te:TE}{g:TG}(he:PE X e te)(hg:PG X tg g)(hs:swapsWithSole [tg] e pos.line X.env=pure false:=by rfl)(hw:swappedStores [tg] e X.env=pure none:=by rfl)
  (h1:(assignEach [tg] X.env).map (·.2)=[assign tg X.env]:=by rfl):PS X (.Assign [tg] e pos) (tQ te g):=by
 intro pins s σ H D I h
 refine wpAny_Assign_stores (bq (he pins s σ H _ I h) fun v s1 ⟨x,H1,I1,r1,q1⟩=> ?_) hs hw
 rw[h1]
 exact bq (hg pins s1 σ H1 x v _ I1 r1 q1) fun _ s2 q=>q
theorem lR{i:Nat}{x:Str}{e:Expr}{te:TE}{pos':Pos}(hN:X.N.Nodup)(hi:X.N[i]? =some x)(hx:oz X.env.scope x)(he:PE X e te)(hs:swapsWith e (some (.Name x pos')) pos.line X.env=pure false:=by rfl)(hf:X.fn x=true\/X.env.scope.names.lookup x=some .local:=by first|exact .inl rfl|exact .inr rfl|assumption) :
  PS X (.Assign [.Name x pos'] e pos) (tQ te (pW i)):=by
 intro pins s σ H D I h
 refine wpAny_Assign_Name (bq (he pins s σ H _ I h) fun v s1 ⟨y,H1,I1,r1,q1⟩=> ?_) hs
 exact iT I1 hN hi hx r1 (fun s2 I2=>⟨_,H1,I2,q1⟩) hf
end
section
variable{X:Cx}{pos:Pos}
end
structure It where
 go:Nat->Hp->Prop
 yld:Nat->Hp->V->Hp->Prop
 stop:Nat->Hp->Prop
def fY(X:Cx)(pins:List (Addr×Obj))(H:Hp)(b:Addr):Prop :=
 H b=none/\b≠X.env.locals/\b∉X.fs/\(b∈X.ex\/X.s₀.heap.objs.size<=b)/\(∀x c,X.env.cells.lookup x=some c->c≠b)/\ ∀p∈X.pn++pins,p.1≠b
theorem aw.fpOk{X:Cx}{pins:List (Addr×Obj)}{σ :St}{H H':Hp}{s:Shared}{b:Addr}(I:aw X pins σ H s)(hb:s.heap.objs.size<=b)(hn:H' b=none):fY X pins H' b:=by
 refine⟨hn,Nat.ne_of_gt (Nat.lt_of_lt_of_le I.lt hb),I.nofs hb,.inr (Nat.le_trans I.sz hb),fun x c e z=> ?_,fun p hp z=> ?_⟩
 ·obtain⟨v,q⟩:=I.cell x c e
  exact absurd (Nat.lt_of_lt_of_le q.lt (by rw[z];exact hb)) (Nat.lt_irrefl _)
 ·exact absurd (Nat.lt_of_lt_of_le (Heap.lt_size (I.pin p hp).1) (by rw[z];exact hb)) (Nat.lt_irrefl _)
structure qP(P:Program)(w:World)(K:Fg)(tg:Expr)(J:It)(fp:List Addr)(it:Addr)(tn:Nat->Heap->Prop):Prop where
 mem:it∈fp
 obj:∀i h,tn i h->∀b∈fp,∃o,h.get? b=some o/\ ∀v,o.data ≠ .cell v
 keep:∀i h h',tn i h->(∀b∈fp,∀o,h.get? b=some o->h'.get? b=some o)->tn i h'
 item:∀(X:Cx),X.prog=P->X.w=w->X.K=K->X.calm=true->∀(i:Nat) (pins:List (Addr×Obj)) (s:Shared) (σ :St) (H:Hp) (E:Value->Shared->Prop),aw X pins σ H s->(∀b∈fp,fY X pins H b)->tn i s.heap->J.go i H ->
  wpAny (model P w) X.A (pyNext (.ref it)) (fun r s1=>∃u,r=some u /\
   wpAny (model P w) X.A (letOwnedTupleGo tg (.ref it) u) (fun _ s2=>∃x H',aw X pins σ H' s2/\aP x u/\J.yld i H x H'/\tn (i+1) s2.heap/\ ∀b∈fp,H' b=none) E s1) E s
 done:∀(X:Cx),X.prog=P->X.w=w->X.K=K->X.calm=true->∀(i:Nat) (pins:List (Addr×Obj)) (s:Shared) (σ :St) (H:Hp) (E:Value->Shared->Prop),aw X pins σ H s->(∀b∈fp,fY X pins H b)->tn i s.heap->J.stop i H ->
  wpAny (model P w) X.A (pyNext (.ref it)) (fun r s1=>r=none/\aw X pins σ H s1) E s
 self:∀(A:Around) (i:Nat) (s:Shared) (Q:Value->Shared->Prop) (E:Value->Shared->Prop),tn i s.heap->Q (.ref it) s->wpAny (model P w) A (pyIter (.ref it)) Q E s
abbrev TI:=St->Hp->(It->Hp->Prop)->Prop
def zQ(X:Cx)(pins:List (Addr×Obj))(σ :St)(tg:Expr)(R:It->Hp->Prop)(itv:Value)(s2:Shared):Prop :=
 ∃(it:Addr) (fp:List Addr) (tn:Nat->Heap->Prop) (J:It) (H':Hp),itv= .ref it/\aw X pins σ H' s2/\qP X.prog X.w X.K tg J fp it tn/\tn 0 s2.heap/\(∀b∈fp,fY X pins H' b)/\R J H'
def PI(X:Cx)(tg iter:Expr)(wi:TI):Prop :=
 ∀(pins:List (Addr×Obj)) (s:Shared) (σ :St) (H:Hp) (R:It->Hp->Prop),aw X pins σ H s->wi σ H R ->
  wpAny .(J) X.A (eval iter X.env) (fun v s1=>wpAny .(J) X.A (pyIter v) (zQ X pins σ tg R) X.xe s1) X.xe s
theorem pX{M:Model}{A:Around}{E:Value->Shared->Prop}{s:Shared}{tg:Expr}{it:Addr}{u:Value}{o:Obj}{n:String}{vs:Array Value}{Q:Unit->Shared->Prop}(ho:s.heap.get? it=some o)(hc:o.cls= .type n)(hd:o.data= .fields vs)
    (hn:["enumerate","zip","dict_itemiterator","dict_reverseitemiterator","odict_iterator","itertools.zip_longest","itertools.pairwise"].contains n=false) (hQ:Q () s):wpAny M A (letOwnedTupleGo tg (.ref it) u) Q E s:=by
  unfold letOwnedTupleGo
  cases tg <;> first
    |exact wpAny_pure hQ
    | (cases u <;> first
        |exact wpAny_pure hQ
        | (refine wpAny_bind (wpAny_load ho ?_)
           rw[hc,hd]
           show wpAny M A (if (["enumerate","zip","dict_itemiterator","dict_reverseitemiterator","odict_iterator","itertools.zip_longest","itertools.pairwise"].contains n && vs[0]? == some (rawInt _))=true then _ else _) Q E s
           rw[if_neg (by intro h;rw[hn,Bool.false_and]at h;cases h)]
           exact wpAny_pure hQ))
def tR(K:Fg)(a:Addr):It :=
 ⟨fun i H=>∃xs x,dI K H a xs/\xs[i]? =some x,fun i H x H'=>H'=H/\ ∀xs,dI K H a xs->xs[i]? =some x,fun i H=>∃xs,dI K H a xs/\xs.length<=i⟩
def sQ(lo:Int)(n:Nat):It:=⟨fun i _=>i<n,fun i H x H'=>H'=H/\x= .int (lo+i),fun i _=>n<=i⟩
theorem l4{P:Program}{w:World}{K:Fg}{tg:Expr}(a it:Addr):qP P w K tg (tR K a) [it] it (fun i h=>h.IsListIter it a i) where
 mem:=by simp
 obj:=fun i h st b hb=>by
  have e:b=it:=by simpa using hb
  subst e
  obtain⟨o,e,c,d⟩:=st
  exact⟨o,e,fun v z=>by rw[d]at z;cases z⟩
 keep:=fun i h h' st k=>st.at fun o e=>k it (by simp) o e
 item:=by
  intro X hP hw hK hc i pins s σ H E I hf st hg
  subst hP hw hK
  obtain⟨xs,x,hq,hx⟩:=hg
  obtain⟨its,rv,p,hz⟩:=I.list hq
  obtain⟨u,hu,ru⟩:=rv.get hx
  obtain⟨f0,f1,f2,f3,f4,f5⟩:=hf it (by simp)
  refine wpAny_pyNext_list_item st p.isList (x:=u) (by simpa using hu) fun h' st' sb=> ?_
  have I1:aw X pins σ H { s with heap:=h' }:=I.turned (t':=s.toks) (fun b o hb e=>(sb.2 b hb).trans e) f0 f1 f3 f4 f5
  obtain⟨o,e,c,d⟩:=id st'
  exact⟨u,rfl,pX (s:={ s with heap:=h' }) e c d (by decide) ⟨x,H,I1,ru,⟨rfl,fun ys hy=>by rw[I.list_inj hy hq];exact hx⟩,st',fun b hb=>(hf b hb).1⟩⟩
 done:=by
  intro X hP hw hK hc i pins s σ H E I hf st hg
  subst hP hw hK
  obtain⟨xs,hq,hx⟩:=hg
  obtain⟨its,rv,p,hz⟩:=I.list hq
  obtain⟨f0,f1,f2,f3,f4,f5⟩:=hf it (by simp)
  have hl:=rv.length
  exact wpAny_pyNext_list_end (I.ok.hd hc) st p.isList (by simp;omega) fun h' eb=>⟨rfl,I.turned (t':=s.toks) (fun b o hb e=>eb b o hb e) f0 f1 f3 f4 f5⟩
 self:=fun _ _ _ _ _ st h=>wpAny_pyIter_listiter st h
theorem jy{P:Program}{w:World}{K:Fg}{tg:Expr}(it:Addr)(lo:Int)(n:Nat):qP P w K tg (sQ lo n) [it] it (fun i h=>IsRangeIter h it (lo+(i:Nat)*1) ((n:Int)-(i:Nat)) 1) where
 mem:=by simp
 obj:=fun i h st b hb=>by
  have e:b=it:=by simpa using hb
  subst e
  exact⟨_,st,fun v z=>by
   have z':Data.fields _=Data.cell v:=z
   cases z'⟩
 keep:=fun i h h' st k=>k it (by simp) _ st
 item:=by
  intro X hP hw hK hc i pins s σ H E I hf st hg
  subst hP hw hK
  obtain⟨f0,f1,f2,f3,f4,f5⟩:=hf it (by simp)
  have W:=Walks.range (prog:=X.prog) (w:=X.w) (I.ok.hd hc) it lo 1 n
  refine W.item i s _ _ hg st fun v h' tk hv st' kk=> ?_
  obtain⟨t,rfl⟩:=hv
  have I1:aw X pins σ H { s with heap:=h',toks:=tk }:=I.turned (fun b o hb e=>kk b o (by simpa using hb) e) f0 f1 f3 f4 f5
  refine⟨_,rfl,pX (s:={ s with heap:=h',toks:=tk }) (n:="range_iterator") st' rfl rfl (by decide) ⟨.int (lo+i),H,I1,⟨t,?_⟩,⟨rfl,rfl⟩,st',fun b hb=>(hf b hb).1⟩⟩
  rw[Int.mul_one]
 done:=by
  intro X hP hw hK hc i pins s σ H E I hf st hg
  subst hP hw hK
  obtain⟨f0,f1,f2,f3,f4,f5⟩:=hf it (by simp)
  exact wpAny_pyNext_range_end (I.ok.hd hc) st (by have:n<=i:=hg;omega) fun h' eb=>⟨rfl,I.turned (t':=s.toks) (fun b o hb e=>eb b o hb e) f0 f1 f3 f4 f5⟩
 self:=fun _ _ _ _ _ st h=>wpAny_pyIter_rangeiter st h
section
variable{X:Cx}{tg:Expr}
def tS(K:Fg)(tl:TE):TI:=fun σ H R=>tl σ H fun x H1=>∃a,x= .ref a/\(∃xs,dI K H1 a xs)/\R (tR K a) H1
theorem kl{l:Expr}{tl:TE}(hl:PE X l tl):PI X tg l (tS X.K tl):=by
 intro pins s σ H R I h
 refine bq (hl pins s σ H _ I h) fun v s1 ⟨x,H1,I1,r1,q1⟩=> ?_
 obtain⟨a,e,⟨xs,hq⟩,q⟩:=q1
 subst e
 cases r1
 obtain⟨its,rv,p,hz⟩:=I1.list hq
 refine wpAny_pyIter_list p.isList ?_
 refine⟨s1.heap.objs.size,[s1.heap.objs.size],_,_,H1,rfl,I1.kept (t':=s1.toks) fun b o e=>Heap.get?_push_of_some _ e,l4 a _,⟨_,Heap.get?_push_size _ rfl,rfl,rfl⟩,fun b hb=> ?_,q⟩
 have e:b=s1.heap.objs.size:=by simpa using hb
 subst e
 exact I1.fpOk .(AD) (I1.hok.fresh .(AD))
theorem lS{pins:List (Addr×Obj)}{σ :St}{H:Hp}{s:Shared}{R:It->Hp->Prop}{E:Value->Shared->Prop}{lo hi:Int}{t u v:Tok}{tk:Nat}(I:aw X pins σ H s)(h1: -(2 ^ 62)<=lo)(h2:lo<2 ^ 62)(h3: -(2 ^ 62)<=hi)(h4:hi<2 ^ 62)
  (q:R (sQ lo (hi-lo).toNat) H):wpAny .(J) X.A (pyIter (.ref s.heap.objs.size)) (zQ X pins σ tg R) E { s with heap:=s.heap.push { cls:= .type "range",data:= .fields #[.int lo t,.int hi u,.int 1 v] },toks:=tk }:=by
 refine wpAny_pyIter_range (IsRange.new ..) (small_one h1 h2 h3 h4) ?_
 have I1:aw X pins σ H { s with heap:=s.heap.push { cls:= .type "range",data:= .fields #[.int lo t,.int hi u,.int 1 v] },toks:=tk }:=I.kept fun b o e=>Heap.get?_push_of_some _ e
 refine⟨(s.heap.push { cls:= .type "range",data:= .fields #[.int lo t,.int hi u,.int 1 v] }).objs.size,[(s.heap.push { cls:= .type "range",data:= .fields #[.int lo t,.int hi u,.int 1 v] }).objs.size],_,_,H,rfl,
  I1.kept (t':=tk) fun b o e=>Heap.get?_push_of_some _ e,jy _ lo (hi-lo).toNat,?_,fun b hb=> ?_,q⟩
 ·have e1:lo+((0:Nat):Int)*1=lo:=by simp
  have e2:(((hi-lo).toNat:Nat):Int)-((0:Nat):Int)=Builtin.Range.rangeSize lo hi 1:=by rw[rangeSize_one];split <;> omega
  show IsRangeIter _ _ (lo+((0:Nat):Int)*1) ((((hi-lo).toNat:Nat):Int)-((0:Nat):Int)) 1
  rw[e1,e2]
  exact Heap.get?_push_size _ rfl
 ·have e:b=(s.heap.push { cls:= .type "range",data:= .fields #[.int lo t,.int hi u,.int 1 v] }).objs.size:=by simpa using hb
  subst e
  exact I1.fpOk .(AD) (I1.hok.fresh .(AD))
def tT(ta:TA):TI:=fun σ H R=>ta σ H fun vs H1=>∃j:Int,vs=[.int j]/\ -(2 ^ 62)<=j/\j<2 ^ 62/\R (sQ 0 j.toNat) H1
theorem l5{a:Expr}{ta:TA}{p pos:Pos}(hg:Gl X "range")(hm:X.mg "range"=none)(ha:PA X [a] ta)(hs:starEach [a] X.env=[(false,eval a X.env)]:=by rfl):PI X tg (.Call (.Name "range" p) [a] [] pos) (tT ta):=by
 intro pins s σ H R I h
 refine Call_ (ik I hg hm boot_range (PyProof.Rows.callWith_type1 (bq (ha pos pins s σ H _ I h) fun us s1 ⟨vs,H1,I1,r1,q1⟩=> ?_) hs rfl))
 obtain⟨j,e,q1,q2,q⟩:=q1
 subst e
 cases r1 with
 |cons r rr =>
  cases rr
  obtain⟨t,rfl⟩:=r
  exact call_range_1 (lS I1 (by omega) (by omega) q1 q2 (by simpa using q))
def tFor(wi:TI)(g:TG)(tb:TS):TS:=fun D σ H=>wi σ H fun J H1=>∃W:Nat->Nat->St->Hp->Prop,(∃m,W 0 m σ H1)/\ ∀i m σ H,W i m σ H ->
 (J.stop i H/\D.nx σ H)\/(J.go i H/\ ∃N:St->Hp->Prop,(∀σ' H',N σ' H'->∃m',m'<m/\W (i+1) m' σ' H')/\ ∀x H',J.yld i H x H'->g x σ H' fun σ2 H2=>tb { D with nx:=N,ct:=N,bk:=D.nx } σ2 H2)
def fb(fp:List Addr)(h:Heap):List (Addr×Obj):=fp.filterMap fun b=>(h.get? b).map fun o=>(b,o)
theorem bN{fp:List Addr}{h:Heap}{b:Addr}{o:Obj}(hb:b∈fp)(e:h.get? b=some o):(b,o)∈fb fp h:=List.mem_filterMap.mpr ⟨b,hb,by rw[e];rfl⟩
theorem l6{fp:List Addr}{h:Heap}{p:Addr×Obj}(hp:p∈fb fp h):p.1∈fp/\h.get? p.1=some p.2:=by
 obtain⟨b,hb,e⟩:=List.mem_filterMap.mp hp
 cases q:h.get? b with
 |none=>rw[q]at e;cases e
 |some o =>
  rw[q]at e
  have e':(b,o)=p:=Option.some.inj e
  subst e'
  exact⟨hb,q⟩
theorem aw.pinned{pins:List (Addr×Obj)}{σ :St}{H:Hp}{s:Shared}{fp:List Addr}(I:aw X pins σ H s)(hf:∀b∈fp,fY X pins H b)(ho:∀b∈fp,∃o,s.heap.get? b=some o/\ ∀v,o.data ≠ .cell v):aw X (pins++fb fp s.heap) σ H s :=
 I.pins_of fun p hp=>(List.mem_append.mp hp).elim (fun z=>I.pin p (List.mem_append_right _ z)) fun z=>by
  obtain⟨hb,e⟩:=l6 z
  obtain⟨f0,f1,f2,_⟩:=hf p.1 hb
  obtain⟨o,e',d⟩:=ho p.1 hb
  rw[e]at e';cases e'
  exact⟨e,f0,f1,f2,d⟩
theorem aw.unpinned{pins pl:List (Addr×Obj)}{σ :St}{H:Hp}{s:Shared}(I:aw X (pins++pl) σ H s):aw X pins σ H s:=I.pins_of fun p hp=>I.pin p (List.mem_append_right _ (List.mem_append_left _ hp))
theorem qQ{iter:Expr}{body:List Stmt}{wi:TI}{g:TG}{tb:TS}{pos:Pos}(hp:PassesOwn .(J) X.A X.env X.xe)(hc:X.calm=true)(hi:PI X tg iter wi)(hg:PG X tg g)(hb:jx X body tb)
  (hs:∀x,foldedSetIterable iter X.env x=pure x:=by intro _;rfl):PS X (.For tg iter body [] pos) (tFor wi g tb):=by
 intro pins s σ H D I h
 refine wpAny_For (bq (hi pins s σ H _ I h) fun v s1 h1=>bq h1 fun itv s2 h2=> ?_) hs
 obtain⟨it,fp,tn,J,H2,e,I2,T,st2,f2,W,⟨m0,w0⟩,turn⟩:=h2
 subst e
 -- what stays true of the iterator's objects through the loop
 have stat:∀{H':Hp},(∀b∈fp,H' b=none)->∀b∈fp,fY X pins H' b:=fun hn b hb=>⟨hn b hb,(f2 b hb).2⟩
 refine codeAny_forLoop_any (fun n s'=>∃i σ' H',aw X pins σ' H' s'/\tn i s'.heap/\(∀b∈fp,H' b=none)/\W i n σ' H') ?_ m0 ⟨0, σ,H2,I2,st2,fun b hb=>(f2 b hb).1,w0⟩
 rintro n s3 ⟨i, σ3,H3,I3,st3,fr3,w3⟩
 rcases turn i n σ3 H3 w3 with⟨stop,qn⟩|⟨go,N,hN,step⟩
 ·refine wpAny_passesOwn hp (bq (T.done X rfl rfl rfl hc i pins s3 σ3 H3 X.xe I3 (stat fr3) st3 stop) fun r s4 ⟨hr,I4⟩=> ?_)
  subst hr
  exact wpAny_execs_nil ⟨σ3,H3,I4,qn⟩
 ·refine wpAny_passesOwn hp (bq (T.item X rfl rfl rfl hc i pins s3 σ3 H3 X.xe I3 (stat fr3) st3 go) fun r s4 ⟨u,hr,h4⟩=> ?_)
  subst hr
  refine wpAny_passesOwn hp (bq h4 fun _ s5 ⟨x,H5,I5,r5,y5,st5,fr5⟩=> ?_)
  have I5':=I5.pinned (stat fr5) (T.obj _ _ st5)
  refine wpAny_passesOwn hp (bq (hg _ s5 σ3 H5 x u _ I5' r5 (step x H5 y5)) fun _ s6 ⟨σ6,H6,I6,q6⟩=> ?_)
  refine wpAny_passesOwn hp (bq (hb _ s6 σ6 H6 _ I6 q6) fun f s7 q7=> ?_)
  have again:∀{σ7:St} {H7:Hp},aw X (pins++fb fp s5.heap) σ7 H7 s7->N σ7 H7->∃m,m<n/\ ∃i σ' H',aw X pins σ' H' s7/\tn i s7.heap/\(∀b∈fp,H' b=none)/\W i m σ' H':=fun {σ7 H7} I7 n7=>by
   obtain⟨m',hm,w7⟩:=hN σ7 H7 n7
   refine⟨m',hm,i+1, σ7,H7,I7.unpinned,T.keep _ _ _ st5 fun b hb o e=>.(Aa).1,fun b hb=> ?_,w7⟩
   obtain⟨o,e,d⟩:=T.obj _ _ st5 b hb
   exact .(Aa).2.1
  cases f with
  |next=>obtain⟨σ7,H7,I7,n7⟩:=q7;exact again I7 n7
  |cont=>obtain⟨σ7,H7,I7,n7⟩:=q7;exact again I7 n7
  |brk=>obtain⟨σ7,H7,I7,q7⟩:=q7;exact⟨σ7,H7,I7.unpinned,q7⟩
  |ret v=>exact q7
end
abbrev R2:=V->V->Hp->VK->Prop
def fZ(X:Cx)(f:Value->Value->Sem Value)(r:R2):Prop :=
 ∀(pins:List (Addr×Obj)) (s:Shared) (σ :St) (H:Hp) (x y:V) (v u:Value) (Q:VK),aw X pins σ H s->aP x v->aP y u->r x y H Q ->
  wpAny .(J) X.A (f v u) (EP X pins σ Q) X.xe s
def g0(X:Cx)(f:Value)(r:List V->Hp->VK->Prop):Prop :=
 ∀(pins:List (Addr×Obj)) (s:Shared) (σ :St) (H:Hp) (xs:List V) (us:List Value) (Q:VK),aw X pins σ H s->aG xs us->r xs H Q ->
  wpAny .(J) X.A (call f us) (EP X pins σ Q) X.xe s
def tU(r:R2)(ta tb:TE):TE:=fun σ H Q=>ta σ H fun x H1=>tb σ H1 fun y H2=>r x y H2 Q
def rI(C:Int->Int->Prop)(g:Int->Int->V):R2:=fun x y H Q=>∃i j,x= .int i/\y= .int j/\C i j/\Q (g i j) H
def pY(g:Int->Int->V):R2:=fun x y H Q=>∃i j,x= .int i/\y= .int j/\Q (g i j) H
section
variable{X:Cx}{a b c:Expr}{ta tb tc:TE}{pos:Pos}
theorem qR(ha:PE X a ta)(hb:PE X b tb){pins:List (Addr×Obj)}{s:Shared}{σ :St}{H:Hp}{R:V->V->Hp->Prop}(I:aw X pins σ H s)
  (h:ta σ H fun x H1=>tb σ H1 fun y H2=>R x y H2) {Q:Value->Shared->Prop} {f:Value->Value->Sem Value}
  (hf:∀v u s2 x y H2,aw X pins σ H2 s2->aP x v->aP y u->R x y H2->wpAny .(J) X.A (f v u) Q X.xe s2) :
  wpAny .(J) X.A (eval a X.env) (fun v s₁=>wpAny .(J) X.A (eval b X.env) (fun u s₂=>wpAny .(J) X.A (f v u) Q X.xe s₂) X.xe s₁) X.xe s:=by
 refine bq (ha pins s σ H _ I h) fun v s1 ⟨x,H1,I1,r1,q1⟩=> ?_
 refine bq (hb pins s1 σ H1 _ I1 q1) fun u s2 ⟨y,H2,I2,r2,q2⟩=> ?_
 exact hf v u s2 x y H2 I2 r1 r2 q2
theorem lT{op:Operator}{r:R2}(ho:fZ X (binaryOp op) r)(ha:PE X a ta)(hb:PE X b tb):PE X (.BinOp a op b pos) (tU r ta tb):=by
 intro pins s σ H Q I h
 exact wpAny_BinOp (qR ha hb I h fun v u s2 x y H2 I2 rx ry q=>ho pins s2 σ H2 x y v u Q I2 rx ry q)
theorem we{f:Value->Value->Sem Value}{C:Int->Int->Prop}{g:Int->Int->Int}
  (rule:∀(i j:Int) (t u:Tok) (s:Shared) (Q:Value->Shared->Prop) (E:Value->Shared->Prop),C i j->Q (.int (g i j) s.toks) { s with toks:=s.toks+1 }->wpAny .(J) X.A (f (.int i t) (.int j u)) Q E s) :
  fZ X f (rI C fun i j=> .int (g i j)):=by
 intro pins s σ H x y v u Q I rx ry h
 obtain⟨i,j,rfl,rfl,hc,q⟩:=h
 obtain⟨t,rfl⟩:=rx
 obtain⟨t',rfl⟩:=ry
 exact rule i j t t' s _ _ hc ⟨.int (g i j),H,I.tok _,⟨_,rfl⟩,q⟩
theorem qS{f:Value->Value->Sem Value}{g:Int->Int->Int}
  (rule:∀(i j:Int) (t u:Tok) (s:Shared) (Q:Value->Shared->Prop) (E:Value->Shared->Prop),Q (.int (g i j) s.toks) { s with toks:=s.toks+1 }->wpAny .(J) X.A (f (.int i t) (.int j u)) Q E s) :
  fZ X f (pY fun i j=> .int (g i j)):=by
 intro pins s σ H x y v u Q I rx ry h
 obtain⟨i,j,rfl,rfl,q⟩:=h
 obtain⟨t,rfl⟩:=rx
 obtain⟨t',rfl⟩:=ry
 exact rule i j t t' s _ _ ⟨.int (g i j),H,I.tok _,⟨_,rfl⟩,q⟩
theorem tV{f:Value->Value->Sem Value}{g:Int->Int->Bool}
  (rule:∀(i j:Int) (t u:Tok) (s:Shared) (Q:Value->Shared->Prop) (E:Value->Shared->Prop),Q (.bool (g i j)) s->wpAny .(J) X.A (f (.int i t) (.int j u)) Q E s) :
  fZ X f (pY fun i j=> .bl (g i j)):=by
 intro pins s σ H x y v u Q I rx ry h
 obtain⟨i,j,rfl,rfl,q⟩:=h
 obtain⟨t,rfl⟩:=rx
 obtain⟨t',rfl⟩:=ry
 exact rule i j t t' s _ _ ⟨.bl (g i j),H,I,rfl,q⟩
def xj(i j:Int):Prop:=0<j/\j<1073741824
def qT(i j:Int):Prop:=(-(2 ^ 64)<i/\i<2 ^ 64)\/(-(2 ^ 64)<j/\j<2 ^ 64)
theorem qT.ok{i j:Int}(h:qT i j):IntMulOk i j:=by
 rcases h with⟨h1,h2⟩|⟨h1,h2⟩
 ·exact .of_left (intBits_le_64 h1 h2)
 ·exact .of_right (intBits_le_64 h1 h2)
theorem jz(k:Nat):(0:Int)<=2 ^ k:=by
 rw[two_pow_cast]
 exact Int.natCast_nonneg _
theorem qU:fZ X (binaryOp .Add) (pY fun i j=> .int (i+j)):=qS fun _ _ _ _ _ _ _ q=>add_int q
theorem qV:fZ X (binaryOp .Sub) (pY fun i j=> .int (i-j)):=qS fun _ _ _ _ _ _ _ q=>sub_int q
theorem qW:fZ X (binaryOp .Mult) (rI qT fun i j=> .int (i*j)):=we fun _ _ _ _ _ _ _ hc q=>mul_int q hc.ok
theorem oH:fZ X (binaryOp .FloorDiv) (rI xj fun i j=> .int (i / j)):=we fun i j _ _ _ _ _ hc q=>by
 have h1:(0:Int)<j:=hc.1
 have h2:j<1073741824:=hc.2
 exact floordiv_int (by omega) (by rw[Int.fdiv_eq_ediv_of_nonneg i (by omega)];exact q) (.inl (PyProof.noPylong_small (by omega)))
theorem qX:fZ X (binaryOp .Mod) (rI (fun _ j=>0<j) fun i j=> .int (i % j)):=we fun i j _ _ _ _ _ hc q=>by
 have h1:(0:Int)<j:=hc
 exact mod_int' (by omega) (by rw[Int.fmod_eq_emod_of_nonneg i (by omega)];exact q)
theorem qY:fZ X (binaryOp .RShift) (rI (fun _ j=>0<=j) fun i j=> .int (i / 2 ^ j.toNat)):=we fun i j _ _ _ _ _ hc q =>
 rshift_int hc (by rw[Int.fdiv_eq_ediv_of_nonneg i (jz _)];exact q)
theorem qZ:fZ X (binaryOp .BitAnd) (pY fun i j=> .int (Builtin.bitAnd i j)):=qS fun _ _ _ _ _ _ _ q=>and_int q
end
section
variable{X:Cx}{a b c:Expr}{ta tb tc:TE}{pos:Pos}
theorem tW:fZ X (compareOp .Lt) (pY fun i j=> .bl (decide (i<j))):=tV fun _ _ _ _ _ _ _ q=>lt_int q
theorem tX:fZ X (compareOp .Gt) (pY fun i j=> .bl (decide (j<i))):=tV fun _ _ _ _ _ _ _ q=>gt_int q
theorem g3(b:Expr){op:CmpOp}(h:op ≠ .In:=by decide)(h2:op ≠ .NotIn:=by decide):behindInMarks op b=false:=by
 have e1:(op == CmpOp.In)=false:=by cases op <;> first|rfl|exact absurd rfl h
 have e2:(op == CmpOp.NotIn)=false:=by cases op <;> first|rfl|exact absurd rfl h2
 cases b <;> simp[behindInMarks,e1,e2]
theorem oI{op:CmpOp}{r:R2}(ho:fZ X (compareOp op) r)(ha:PE X a ta)(hb:PE X b tb)(hm:behindInMarks op b=false):PE X (.Compare a [op] [b] pos) (tU r ta tb):=by
 intro pins s σ H Q I h
 exact wpAny_Compare1 (qR ha hb I h fun v u s2 x y H2 I2 rx ry q=>ho pins s2 σ H2 x y v u Q I2 rx ry q) hm
def tY(t:TE):TT:=fun σ H Q=>t σ H fun x H'=>∃k,x= .bl k/\Q k H'
theorem oJ{op:CmpOp}{r:R2}(ho:fZ X (compareOp op) r)(ha:PE X a ta)(hb:PE X b tb)(hm:behindInMarks op b=false):PT X (.Compare a [op] [b] pos) (tY (tU r ta tb)):=by
 intro pins s σ H Q I h
 refine wpAny_isTrue_Compare1 (bq (ha pins s σ H _ I h) fun v s1 ⟨x,H1,I1,r1,q1⟩=>bq (hb pins s1 σ H1 _ I1 q1) fun u s2 ⟨y,H2,I2,r2,q2⟩ =>
  bq (ho pins s2 σ H2 x y v u _ I2 r1 r2 q2) fun c s3 ⟨z,H3,I3,r3,k,e,q3⟩=> ?_) hm
 subst e
 cases r3
 exact wpAny_truthy_bool ⟨H3,I3,q3⟩
theorem im:(sizeLine:Nat)<2 ^ 63:=by rw[sizeLine_eq];decide
theorem lU{x:V}{us:List Value}(r:aG [x] us):∃u,us=[u]/\aP x u:=by
 cases r with
 |cons r1 r2=>cases r2;exact⟨_,rfl,r1⟩
theorem tZ{x y:V}{us:List Value}(r:aG [x,y] us):∃u w',us=[u,w']/\aP x u/\aP y w':=by
 cases r with
 |cons r1 r2 =>
  cases r2 with
  |cons r3 r4=>cases r4;exact⟨_,_,rfl,r1,r3⟩
theorem gR:g0 X (.type "int") (fun xs H Q=>(∃i,xs=[.int i]/\Q (.int i) H)\/ ∃k,xs=[.bl k]/\Q (.int (if k then 1 else 0)) H):=by
 intro pins s σ H xs us Q I r h
 rcases h with⟨i,rfl,q⟩|⟨k,rfl,q⟩
 ·obtain⟨u,rfl,t,rfl⟩:=lU r
  exact call_int_int ⟨.int i,H,I,⟨_,rfl⟩,q⟩
 ·obtain⟨u,rfl,r1⟩:=lU r
  cases r1
  exact call_int_bool ⟨.int (if k then 1 else 0),H,I.tok _,⟨_,rfl⟩,q⟩
def u0(K:Fg)(x:V)(H:Hp)(n:Nat):Prop :=
 match x with
 |.str y=>y.length<=sizeLine/\n=y.length
 |.byt y=>y.size<=sizeLine/\n=y.size
 |.ref p=>(∃xs,dI K H p xs/\n=xs.length)\/ ∃xs,f8 K H p xs/\n=xs.length
 |_=>False
theorem cP:g0 X (.builtin "len") (fun xs H Q=>∃x n,xs=[x]/\u0 X.K x H n/\Q (.int n) H):=by
 intro pins s σ H xs us Q I r h
 obtain⟨x,n,rfl,e,q⟩:=h
 obtain⟨u,rfl,rx⟩:=lU r
 have hl:=im
 have hs:sizeLine=16777216:=sizeLine_eq
 cases x with
 |str y =>
  obtain⟨t,rfl⟩:=rx
  obtain⟨hy,e'⟩:y.length<=sizeLine/\n=y.length:=e
  subst e'
  exact len_str (by omega) ⟨.int _,H,I.tok _,⟨_,rfl⟩,q⟩
 |byt y =>
  obtain⟨t,rfl⟩:=rx
  obtain⟨hy,e'⟩:y.size<=sizeLine/\n=y.size:=e
  subst e'
  exact PySem.W.len_bytes (by omega) ⟨.int _,H,I.tok _,⟨_,rfl⟩,q⟩
 |ref p =>
  cases rx
  have e':(∃xs,dI X.K H p xs/\n=xs.length)\/ ∃xs,f8 X.K H p xs/\n=xs.length:=e
  rcases e' with⟨xs,hx,e'⟩|⟨xs,hx,e'⟩
  ·subst e'
   obtain⟨its,r',pl,hz⟩:=I.list hx
   have hlen:=r'.length
   exact Calls.call_len_list pl.isList (by simp only[List.size_toArray];omega) ⟨.int xs.length,H,I.tok _,⟨_,by simp only[List.size_toArray];rw[hlen]⟩,q⟩
  ·subst e'
   obtain⟨its,r',pl,hz⟩:=I.tuple hx
   have hlen:=r'.length
   exact len_tuple pl (by simp only[List.size_toArray];omega) ⟨.int xs.length,H,I.tok _,⟨_,by simp only[List.size_toArray];rw[hlen]⟩,q⟩
 |_=>exact(show False from e).elim
end
structure jA(h:Heap)(x dx C:Addr)(mA:Str->Option Value):Prop where
 obj:h.get? x=some (PySem.W.instObj C dx)
 ns:h.Ns1 dx mA
 ne:dx≠x
theorem l7{h:Heap}{dx:Addr}{mA:Str->Option Value}(n:h.Ns1 dx mA):∃od,h.get? dx=some od/\ ∀name,PySem.W.lookIn name od=some (mA name):=by
 obtain⟨o,es,ep,ho,hd,hk,_,hm⟩:=n
 refine⟨o,ho,fun name=> ?_⟩
 have e:=hm name
 unfold nsFind findBy at e
 rw[<-Array.find?_toList]at e
 unfold PySem.W.lookIn
 rw[hd]
 dsimp only
 split
 ·rename_i y q
  rw[q]at e
  exact congrArg some e
 ·rename_i q
  rw[q]at e
  have a:es.toList.any (·.refKey)=false:=by
   rw[List.any_eq_false]
   intro y hy
   obtain⟨z,t,hkey⟩:=hk y (Array.mem_toList_iff.mp hy)
   simp[DictEntry.refKey,hkey]
  have a':¬es.toList.any (·.refKey)=true:=by rw[a];exact Bool.false_ne_true
  rw[if_neg a']
  exact congrArg some e
theorem jA.look{h:Heap}{x dx C:Addr}{mA:Str->Option Value}(I:jA h x dx C mA):∃od,PySem.W.InstAt h x (PySem.W.instObj C dx) C (some od)/\ ∀name,PySem.W.lookIn name od=some (mA name) :=
 let ⟨od,ho,hl⟩:=l7 I.ns
 ⟨od,⟨I.obj,rfl,rfl,ho⟩,hl⟩
section
variable{prog:Program}{w:World}{A:Around}{E:Value->Shared->Prop}{s:Shared}{K:Fg}{x dx C f:Addr}{mA:Str->Option Value}{name:Str}{v:Value}
theorem oK{expr:Bool}{Q:Value->Shared->Prop}(X:K.In s.heap)(I:jA s.heap x dx C mA)(hg:PySem.W.plainGet K C name=true)(hh:PySem.W.hasDictIn K C=true)
  (ha:PySem.W.findIn K (.ref C) name=some none) (hv:mA name=some v) (hv':PySem.W.handedIn v=true) (h:Q v { s with toks:=s.toks+1 }) :
  wpAny (model prog w) A (getAttr (.ref x) name expr) Q E s:=by
 obtain⟨od,J,hl⟩:=I.look
 exact PySem.W.get_value X J (PySem.W.plainGet_of hg).1 (PySem.W.findObj_own hh ha rfl (by rw[hl,hv])) hv' h
theorem lV{pl:Sem Bool}{Q:Value×List Value->Shared->Prop}(X:K.In s.heap)(I:jA s.heap x dx C mA)(hg:PySem.W.plainGet K C name=true)
  (hf:PySem.W.findIn K (.ref C) name=some (some (.ref f))) (ht:PySem.W.isFn K (.ref f)=true) (hv:mA name=none) (h:Q (.ref f,[.ref x]) s) :
  wpAny (model prog w) A (getMethod (.ref x) name pl) Q E s:=by
 obtain⟨od,J,hl⟩:=I.look
 exact PySem.W.method_fn X J (PySem.W.plainGet_of hg).1 (PySem.W.plainGet_of hg).2 hf (beq_iff_eq.mp ht) (by show(PySem.W.lookIn name od).map (·.isSome)=some false;rw[hl,hv];rfl) h
theorem oM{ns:List Str}{Q:Unit->Shared->Prop}(X:K.In s.heap)(I:jA s.heap x dx C mA)
  (hs:PySem.W.findIn K (.ref C) "__setattr__"=some (some (.builtin "object.__setattr__"))) (hp:PySem.W.plainOver K C=true) (ht:PySem.W.takerIn K C name=some none) (hh:PySem.W.hasDictIn K C=true)
  (hw:PySem.Within mA ns) (hsz:ns.length<=sizeLine)
  (h:∀h',jA h' x dx C (fun y=>if y=name then some v else mA y)->Heap.SameBut dx s.heap h'->Q () { s with heap:=h',toks:=s.toks+2 }) :
  wpAny (model prog w) A (setAttr (.ref x) name v) Q E s:=by
 obtain⟨od,J,hl⟩:=I.look
 refine PySem.W.set_plain X J hs (PySem.W.osa_open (s:={ s with toks:=s.toks+1 }) (r:=none) X J hp ht fun b=> ?_)
 obtain⟨cd,hc,hd'⟩:=PySem.W.any_some hh
 have hx:s.heap.get? x=some ⟨.ref C,some dx,.plain, #[]⟩:=I.obj
 refine wpAny_bind (wpAny_pure (wpAny_bind (wpAny_bind (wpAny_loadPart hx (wpAny_bind (PySem.W.Looks.here (s:={ s with toks:=s.toks+1 }) (PySem.W.looks_clsIn X hc) ?_))))))
 rw[hd']
 refine wpAny_pure (a:=some dx) (wpAny_bind (wpAny_pure (wpAny_bind ?_)))
 refine wpAny_nsSet1 (s:={ s with toks:=s.toks+1 }) I.ns fun h' hn2 hs2=> ?_
 obtain⟨oD,esD,epD,hoD,hdD,hcD⟩:=hn2.count (PySem.Within.cons name v hw)
 refine wpAny_bind (wpAny_lookBehind hoD (by rw[hdD];exact pastItsLine_dict (Nat.le_trans hcD (by rw[List.length_cons];omega))) ?_)
 exact wpAny_pure (h _ ⟨(hs2.2 _ (Ne.symm I.ne)).trans I.obj,hn2,I.ne⟩ hs2)
theorem lW{R:Result->Shared->Prop}{vs:List Value}{kw:List (Str×Value)}(X:K.In s.heap)(hm:PySem.W.makesIn K C=true)
  (hi:PySem.W.findIn K (.ref C) "__init__"=some (some (.ref f))) (hf:PySem.W.typeIn K (.ref f)=some (.type "function"))
  (h:codeAny (model prog w) (A.under (.builtin "type.__call__" ⟨.ref C::vs,kw⟩)) (.call (.ref f) ⟨.ref .(W)::vs,kw⟩) (PySem.W.InitBack .(W) R)
   { s with heap:=.(Al).push .(At) }) :
  codeAny (model prog w) A (.call (.ref C) ⟨vs,kw⟩) R s:=by
 obtain⟨hh,g,d,t,os⟩:=s
 exact PySem.W.make_core (PySem.W.makes_of X hm) (PySem.W.looks_findIn X hi) (fun self=>PySem.W.bind_fn X self hf) (.inl rfl) h
theorem l8{R:Result->Shared->Prop}(X:K.In s.heap)(hm:PySem.W.makesIn K C=true)
  (hi:PySem.W.findIn K (.ref C) "__init__"=some (some (.builtin "object.__init__")))
  (hb:∀self,PySem.W.Looks (model prog w) s.heap (bindSpecial (.builtin "object.__init__") self) (.builtin "object.__init__",[self]))
  (h:codeAny (model prog w) (A.under (.builtin "type.__call__" ⟨[.ref C],[]⟩)) (.call (.builtin "object.__init__") ⟨[.ref .(W)],[]⟩) (PySem.W.InitBack .(W) R)
   { s with heap:=.(Al).push .(At) }) :
  codeAny (model prog w) A (.call (.ref C) ⟨[],[]⟩) R s:=by
 obtain⟨hh,g,d,t,os⟩:=s
 exact PySem.W.make_core (PySem.W.makes_of X hm) (PySem.W.looks_findIn X hi) hb (.inr ⟨rfl,rfl⟩) h
end
noncomputable def bO(f:Str)(v:V):List (Str×V)->List (Str×V)
 |[]=>[(f,v)]
 | (g,x)::r=>if g=f then(g,v)::r else(g,x)::bO f v r
theorem fF(f g:Str)(v:V):∀fs:List (Str×V),(bO f v fs).lookup g=if g=f then some v else fs.lookup g
 |[]=>by
  show List.lookup g [(f,v)]=_
  by_cases h:g=f
  ·have hb:(g == f)=true:=beq_iff_eq.mpr h
   simp only[List.lookup,hb,if_pos h]
  ·have hb:(g == f)=false:=beq_eq_false_iff_ne.mpr h
   simp only[List.lookup,hb,if_neg h]
 | (k,x)::r=>by
  have ih:=fF f g v r
  rw[show bO f v ((k,x)::r)=(if k=f then(k,v)::r else(k,x)::bO f v r) from rfl]
  by_cases hk:k=f
  ·rw[if_pos hk]
   by_cases h:g=k
   ·have hb:(g == k)=true:=beq_iff_eq.mpr h
    simp only[List.lookup,hb,if_pos (h.trans hk)]
   ·have hb:(g == k)=false:=beq_eq_false_iff_ne.mpr h
    simp only[List.lookup,hb,if_neg (fun e:g=f=>h (e.trans hk.symm))]
  ·rw[if_neg hk]
   by_cases h:g=k
   ·have hb:(g == k)=true:=beq_iff_eq.mpr h
    simp only[List.lookup,hb,if_neg (fun e:g=f=>hk (h.symm.trans e))]
   ·have hb:(g == k)=false:=beq_eq_false_iff_ne.mpr h
    simp only[List.lookup,hb]
    exact ih
theorem fe(f:Str)(v:V):∀fs:List (Str×V),f∈(bO f v fs).map (·.1)/\ ∀g,g∈fs.map (·.1)->g∈(bO f v fs).map (·.1)
 |[]=>⟨by simp[bO],fun g h=>by simp at h⟩
 | (k,x)::r=>by
  obtain⟨i1,i2⟩:=fe f v r
  rw[show bO f v ((k,x)::r)=(if k=f then(k,v)::r else(k,x)::bO f v r) from rfl]
  by_cases hk:k=f
  ·rw[if_pos hk]
   subst hk
   exact⟨by simp,fun g h=>by simpa using h⟩
  ·rw[if_neg hk]
   refine⟨?_,fun g h=> ?_⟩
   ·rw[List.map_cons]
    exact List.mem_cons_of_mem _ i1
   ·rw[List.map_cons]at h ⊢
    rcases List.mem_cons.mp h with e|e
    ·exact List.mem_cons.mpr (.inl e)
    ·exact List.mem_cons_of_mem _ (i2 g e)
theorem fG(f:Str)(v:V):∀fs:List (Str×V),(bO f v fs).length<=fs.length+1
 |[]=>by simp[bO]
 | (k,x)::r=>by
  have ih:=fG f v r
  rw[show bO f v ((k,x)::r)=(if k=f then(k,v)::r else(k,x)::bO f v r) from rfl]
  by_cases hk:k=f
  ·rw[if_pos hk,List.length_cons,List.length_cons];omega
  ·rw[if_neg hk,List.length_cons,List.length_cons];omega
theorem gC.some_of{v:V}{o:Option Value}(r:gC (some v) o):∃u,o=some u/\aP v u:=by
 cases o with
 |none=>exact(show False from r).elim
 |some u=>exact⟨u,rfl,r⟩
theorem gC.none_of{o:Option Value}(r:gC none o):o=none:=by
 cases o with
 |none=>rfl
 |some u=>exact(show False from r).elim
theorem l9{v:V}{u:Value}(r:aP v u):PySem.W.handedIn u=true:=by
 cases v with
 |non=>cases (show u=Value.none from r);rfl
 |bl b=>cases (show u=Value.bool b from r);rfl
 |int i=>obtain⟨t,e⟩:=(show ∃t,u=Value.int i t from r);cases e;rfl
 |str x=>obtain⟨t,e⟩:=(show ∃t,u=Value.str x t from r);cases e;rfl
 |byt b=>obtain⟨t,e⟩:=(show ∃t,u=Value.bytes b t from r);cases e;rfl
 |flt b=>obtain⟨t,e⟩:=(show ∃t,u=Value.float b t from r);cases e;rfl
 |ref a=>cases (show u=Value.ref a from r);rfl
 |ty n=>cases (show u=Value.type n from r);rfl
section
variable{P:Program}{w:World}{H H':Hp}{h h':Heap}{a C dx:Addr}{fs fs':List (Str×V)}
theorem fR(hok:fE P w H h)(e:H a=some (.ins C dx fs)):∃mA,jA h a dx C mA/\(∀f,gC (fs.lookup f) (mA f))/\PySem.Within mA (fs.map (·.1))/\fs.length<=1000/\H dx=some (.own a):=by
 obtain⟨d,z,ne,ob,mA,n,r,q⟩:=(show bF P w H h a (.ins C dx fs) from hok a _ e)
 exact⟨mA,⟨ob,n,ne⟩,r,q,z,d⟩
end
structure iQ(K:Fg)(C:Addr):Prop where
 pg:PySem.W.plainGet K C Str.empty=true
 hd:PySem.W.hasDictIn K C=true
 po:PySem.W.plainOver K C=true
 sa:PySem.W.findIn K (.ref C) "__setattr__"=some (some (.builtin "object.__setattr__"))
theorem iQ.get{K:Fg}{C:Addr}(c:iQ K C)(f:Str):PySem.W.plainGet K C f=true:=c.pg
def bu(K:Fg)(C:Addr)(f:Str):Prop:=PySem.W.findIn K (.ref C) f=some none
theorem bu.taker{K:Fg}{C:Addr}{f:Str}(n:bu K C f):PySem.W.takerIn K C f=some none:=by
 unfold PySem.W.takerIn
 rw[show PySem.W.findIn K (.ref C) f=some none from n]
 rfl
structure eJ(K:Fg)(C:Addr)(m:Str)(f:Addr):Prop where
 at_:PySem.W.findIn K (.ref C) m=some (some (.ref f))
 fn:PySem.W.isFn K (.ref f)=true
 kp:PySem.W.keepIn K (.ref f)=true
section
variable{X:Cx}{pins:List (Addr×Obj)}{σ :St}{H:Hp}{s:Shared}{a C dx:Addr}{fs:List (Str×V)}{f:Str}{v:V}{A:Around}{E:Value->Shared->Prop}
theorem jB{b:Bool}{Q:Value->Shared->Prop}(I:aw X pins σ H s)(e:H a=some (.ins C dx fs))(c:iQ X.K C)(n:bu X.K C f)(l:fs.lookup f=some v)
  (h:∀u s',aw X pins σ H s'->aP v u->Q u s'):wpAny .(J) A (getAttr (.ref a) f b) Q E s:=by
 obtain⟨mA,O,r,_,_,_⟩:=fR I.hok e
 obtain⟨u,hu,ru⟩:=gC.some_of (v:=v) (o:=mA f) (by rw[<-l];exact r f)
 exact oK I.kIn O (c.get f) c.hd n hu (l9 ru) (h u _ (I.tok _) ru)
theorem g4{m:Str}{g:Addr}{pl:Sem Bool}{Q:Value×List Value->Shared->Prop}(I:aw X pins σ H s)(e:H a=some (.ins C dx fs))(c:iQ X.K C)(k:eJ X.K C m g)(l:fs.lookup m=none)
  (h:Q (.ref g,[.ref a]) s):wpAny .(J) A (getMethod (.ref a) m pl) Q E s:=by
 obtain⟨mA,O,r,_,_,_⟩:=fR I.hok e
 have hn:mA m=none:=gC.none_of (by rw[<-l];exact r m)
 exact lV I.kIn O (c.get m) k.at_ k.fn hn h
theorem jC{y:V}{u:Value}{Q:Unit->Shared->Prop}(I:aw X pins σ H s)(e:H a=some (.ins C dx fs))(c:iQ X.K C)(n:bu X.K C f)(hl:fs.length<1000)(ry:aP y u)
  (h:∀s',aw X pins σ (upd H a (.ins C dx (bO f y fs))) s'->Q () s'):wpAny .(J) A (setAttr (.ref a) f u) Q E s:=by
 obtain⟨mA,O,r,wi,_,ho⟩:=fR I.hok e
 have hz:(fs.map (·.1)).length<=sizeLine:=by rw[List.length_map,sizeLine_eq];omega
 refine oM I.kIn O c.sa c.po n.taker c.hd wi hz fun h' O' sb=>h _ ?_
 have hd:∃o,h'.get? dx=some o:=let ⟨o,_,_,e',_⟩:=O'.ns;⟨o,e'⟩
 refine I.write (x:=a) (e:=dx) (by rw[e];exact True.intro) (.inr ho) (fun b q hb z=>(sb.2 b hb).trans z) hd ?_
 refine⟨by rw[ay O.ne];exact ho,?_,O.ne,O'.obj,_,O'.ns,fun g=> ?_,fun g hg=> ?_⟩
 ·have:=fG f y fs;omega
 ·show gC ((bO f y fs).lookup g) (if g=f then some u else mA g)
  rw[fF]
  by_cases q:g=f
  ·rw[if_pos q,if_pos q];exact ry
  ·rw[if_neg q,if_neg q];exact r g
 ·by_cases q:g=f
  ·rw[q];exact(fe f y fs).1
  ·refine(fe f y fs).2 g (wi g fun z=>hg ?_)
   show(if g=f then some u else mA g)=none
   rw[if_neg q];exact z
theorem aw.made(I:aw X pins σ H s):aw X pins σ (upd (upd H s.heap.objs.size (.own .(W))) .(W) (.ins C s.heap.objs.size []))
  { s with heap:=.(Al).push .(At) }:=by
 have e1:.(Al).get? s.heap.objs.size=some PySem.W.emptyDict:=Heap.get?_push_size s.heap rfl
 have e2:(.(Al).push .(At)).get? .(W)=some .(At):=by
  have:=Heap.get?_push_size .(Al) (o:=PySem.W.instObj C s.heap.objs.size) rfl
  rwa [Heap.size_push]at this
 have e3:.(Al).Ns s.heap.objs.size (fun _=>none):=⟨PySem.W.emptyDict, #[],_,e1,rfl,(fun e he=>absurd he (by simp)),fun _=>rfl⟩
 have I1:=I.laid (a:=s.heap.objs.size) (o:= .own .(W)) (h':=s.heap.push PySem.W.emptyDict) (t':=s.toks) (fun b u q=>Heap.get?_push_of_some _ q) .(AD) ⟨_,e1⟩
 refine I1.laid (a:=s.heap.objs.size+1) (o:= .ins C s.heap.objs.size []) (t':=s.toks) (fun b u q=>Heap.get?_push_of_some _ q) (Nat.le_of_eq (Heap.size_push _ _)) ?_
 have ne:s.heap.objs.size≠s.heap.objs.size+1:=Nat.ne_of_lt (Nat.lt_succ_self _)
 refine⟨by rw[ay ne,aE],Nat.zero_le _,ne,e2,fun _=>none,(Heap.Ns1.of_empty e3).at fun o q=>Heap.get?_push_of_some _ q,fun _=>True.intro,fun y hy=>absurd rfl hy⟩
theorem oN{prog:Program}{w:World}{env:Env}{e:Expr}{f:Str}{pos:Pos}{s:Shared}{Q:Value->Shared->Prop}(hb:attributeBase e f env (eval e env)=eval e env)
  (h:wpAny (model prog w) A (eval e env) (fun o s₁=>wpAny (model prog w) A (getAttr o f true) Q E s₁) E s):wpAny (model prog w) A (eval (.Attribute e f pos) env) Q E s :=
 Attribute_any_ h (by rw[arm_eval_Attribute,hb])
end
def xk(K:Fg)(ta:TE)(f:Str):TE:=fun σ H Q=>ta σ H fun x H1=>∃a C dx fs v,x= .ref a/\H1 a=some (.ins C dx fs)/\iQ K C/\bu K C f/\fs.lookup f=some v/\Q v H1
def xl(K:Fg)(ta tv:TE)(f:Str):TS:=fun D σ H=>tv σ H fun y H1=>ta σ H1 fun x H2=>∃a C dx fs,x= .ref a/\H2 a=some (.ins C dx fs)/\iQ K C/\bu K C f/\fs.length<1000 /\
 D.nx σ (upd H2 a (.ins C dx (bO f y fs)))
section
variable{X:Cx}{o e value:Expr}{f:Str}{pos pos' tpos:Pos}{ta tv:TE}
theorem jD(he:PE X e ta)(hb:attributeBase e f X.env (eval e X.env)=eval e X.env):PE X (.Attribute e f pos) (xk X.K ta f):=by
 intro pins s σ H Q I h
 refine oN hb (bq (he pins s σ H _ I h) fun u s1 ⟨x,H1,I1,rx,a,C,dx,fs,v,ex,ea,c,n,l,q⟩=> ?_)
 subst ex
 obtain rfl:u=Value.ref a:=rx
 exact jB I1 ea c n l fun u' s2 I2 ru=>⟨v,H1,I2,ru,q⟩
theorem en(ha:PE X o ta)(hv:PE X value tv)(hs:swapsWith value (some (.Attribute o f pos')) pos.line X.env=pure false):PS X (.Assign [.Attribute o f pos'] value pos) (xl X.K ta tv f):=by
 intro pins s σ H D I h
 refine plainObj_wpAny_Assign_Attribute (bq (hv pins s σ H _ I h) fun u s1 ⟨y,H1,I1,ry,q⟩=>bq (ha pins s1 σ H1 _ I1 q) fun ov s2 ⟨x,H2,I2,rx,a,C,dx,fs,ex,ea,c,n,l,q2⟩=> ?_) hs
 subst ex
 obtain rfl:ov=Value.ref a:=rx
 exact jC I2 ea c n l ry fun s3 I3=>⟨σ,_,I3,q2⟩
end
section
variable{X:Cx}{pins:List (Addr×Obj)}{σ :St}{H:Hp}{s:Shared}{A:Around}{E:Value->Shared->Prop}{Q:Value->Shared->Prop}{c:Value}{b:Bool}
inductive eK (K:Fg) (H:Hp):V->Value->Prop where
 |non:eK K H .non (.type "NoneType")
 |bl (x:Bool):eK K H (.bl x) (.type "bool")
 |int (i:Int):eK K H (.int i) (.type "int")
 |str (x:Str):eK K H (.str x) (.type "str")
 |flt (x:UInt64):eK K H (.flt x) (.type "float")
 |lst {a:Addr} {xs:List V} (e:H a=some (.lst xs)):eK K H (.ref a) (.type "list")
 |frz {a:Addr} {o:Obj} {xs:List V} (e:H a=some (.frz o (.lst xs))):eK K H (.ref a) (.type "list")
 |tup {a:Addr} {xs:List V} (e:H a=some (.tup xs)):eK K H (.ref a) (.type "tuple")
 |dK {a:Addr} {kvs:List (Key×V)} {ep:Nat} (e:H a=some (.dK kvs ep)):eK K H (.ref a) (.type "dict")
 |dT {a:Addr} {kvs:List (List Key×V)} {ep:Nat} (e:H a=some (.dT kvs ep)):eK K H (.ref a) (.type "dict")
 |ins {a C dx:Addr} {fs:List (Str×V)} (e:H a=some (.ins C dx fs)) (cl:iQ K C) (ha:PySem.W.findIn K (.ref C) "__class__"=some (some (.builtin "object.__class__")))
   (hn:PySem.W.specialIn K (.builtin "object.__class__") "__get__"=some (some (.builtin "getset_descriptor.__get__"))) (htk:PySem.W.takesIn K (.builtin "object.__class__")=some true)
   (hm:PySem.W.mroIn K C (.type "object")=some true):eK K H (.ref a) (.ref C)
theorem cj{x:V}{u t:Value}(I:aw X pins σ H s)(rx:aP x u)(ty:eK X.K H x t)(e:PySem.W.kitOne X.K t c=some b)(h:∀tk,Q (.bool b) { s with toks:=tk }) :
  wpAny .(J) A (call (.builtin "isinstance") [u,c]) Q E s:=by
 cases ty with
 |non=>cases (show u=Value.none from rx);exact PySem.W.kia_one PySem.W.kitx_none I.kIn True.intro e (fun z=>nomatch z) h
 |bl y=>cases (show u=Value.bool y from rx);exact PySem.W.kia_one PySem.W.kitx_bool I.kIn True.intro e (fun z=>nomatch z) h
 |int i=>obtain⟨t,q⟩:=(show ∃t,u=Value.int i t from rx);cases q;exact PySem.W.kia_one PySem.W.kitx_int I.kIn True.intro e (fun z=>nomatch z) h
 |str y=>obtain⟨t,q⟩:=(show ∃t,u=Value.str y t from rx);cases q;exact PySem.W.kia_one PySem.W.kitx_str I.kIn True.intro e (fun z=>nomatch z) h
 |flt y=>obtain⟨t,q⟩:=(show ∃t,u=Value.float y t from rx);cases q;exact PySem.W.kia_one PySem.W.kitx_float I.kIn True.intro e (fun z=>nomatch z) h
 | @lst a xs ea =>
  cases (show u=Value.ref a from rx)
  obtain⟨_,_,n,_,h1⟩:=(show bF X.prog X.w H s.heap a (.lst xs) from I.hok a _ ea)
  exact PySem.W.kia_one PySem.W.kitx_list I.kIn ⟨_,h1,rfl⟩ e (fun z=>nomatch z) h
 | @frz a ob xs ea =>
  cases (show u=Value.ref a from rx)
  obtain⟨_,_,_,n,_,h1⟩:=(show bF X.prog X.w H s.heap a (.frz ob (.lst xs)) from I.hok a _ ea)
  exact PySem.W.kia_one PySem.W.kitx_list I.kIn ⟨_,h1,rfl⟩ e (fun z=>nomatch z) h
 | @tup a xs ea =>
  cases (show u=Value.ref a from rx)
  obtain⟨_,_,_,p⟩:=(show bF X.prog X.w H s.heap a (.tup xs) from I.hok a _ ea)
  obtain⟨o,h1,h2,_⟩:=p
  exact PySem.W.kia_one PySem.W.kitx_tuple I.kIn ⟨o,h1,h2⟩ e (fun z=>nomatch z) h
 | @dK a kvs ep ea =>
  cases (show u=Value.ref a from rx)
  obtain⟨_,_,vs,_,p⟩:=(show bF X.prog X.w H s.heap a (.dK kvs ep) from I.hok a _ ea)
  obtain⟨o,es,h1,h2,_⟩:=p
  exact PySem.W.kia_one PySem.W.kitx_dict I.kIn ⟨o,h1,h2.1⟩ e (fun z=>nomatch z) h
 | @dT a kvs ep ea =>
  cases (show u=Value.ref a from rx)
  obtain⟨_,_,xs,_,o,es,h1,h2,_⟩:=(show bF X.prog X.w H s.heap a (.dT kvs ep) from I.hok a _ ea)
  exact PySem.W.kia_one PySem.W.kitx_dict I.kIn ⟨o,h1,h2.1⟩ e (fun z=>nomatch z) h
 | @ins a C dx fs ea cl ha hn htk hm =>
  cases (show u=Value.ref a from rx)
  obtain⟨mA,O,_⟩:=fR I.hok ea
  obtain⟨od,J,_⟩:=O.look
  exact PySem.W.kia_one (PySem.W.kitx_own (cl.get _) cl.hd ha hn htk hm) I.kIn J e (fun z=>nomatch z) h
end
structure bf(k:Nat)(A:Around):Prop where
 hd:A.handled=none
 dp:A.depth+k+5<recursionLimit
 un:A.units+16*k+200<cLine
theorem bf.mono{j k:Nat}{A:Around}(r:bf k A)(h:j<=k):bf j A:=⟨r.hd,by have:=r.dp;omega,by have:=r.un;omega⟩
theorem bf.s{k:Nat}{A:Around}(h:bf (k+1) A):bf k A:=h.mono (Nat.le_succ _)
theorem bf.deeper{k:Nat}{A:Around}(r:bf (k+1) A)(env:Env):bf k (A.deeper env) :=
 ⟨r.hd,by have:=r.dp;show A.depth+1+k+5<_;omega,by have:=r.un;show A.units+3+16*k+200<_;omega⟩
theorem jE{A:Around}{C:Addr}{us:List Value}{kw:List (Str×Value)}:(A.under (.builtin "type.__call__" ⟨.ref C::us,kw⟩)).depth=A.depth+1:=by
 first|rfl|simp[Around.under,Code.weight,Code.isCreation,Code.isGuard,Code.isCaller,Code.frames,Code.isFrame,guardIds]
theorem jF{A:Around}{C:Addr}{us:List Value}{kw:List (Str×Value)}:(A.under (.builtin "type.__call__" ⟨.ref C::us,kw⟩)).units=A.units+1:=by
 first|rfl|simp[Around.under,Code.cUnits,Code.frames,Code.isFrame]
theorem bf.make{k:Nat}{A:Around}(r:bf (k+1) A)(C:Addr)(us:List Value)(kw:List (Str×Value)):bf k (A.under (.builtin "type.__call__" ⟨.ref C::us,kw⟩)) :=
 ⟨r.hd,by have:=r.dp;rw[jE];omega,by have:=r.un;rw[jF];omega⟩
theorem bf.depth{k:Nat}{A:Around}(r:bf k A):A.depth<recursionLimit:=by have:=r.dp;omega
def u5:TA:=fun _ H Q=>Q [] H
def u6(ta:TE)(tr:TA):TA:=fun σ H Q=>ta σ H fun x H1=>tr σ H1 fun xs H2=>Q (x::xs) H2
section
variable{X:Cx}{e:Expr}{es:List Expr}{te:TE}{t:TA}{pos:Pos}
theorem jG:PA X [] u5:=fun _ _ _ _ H Q I h=>Calls.spliced_nil ⟨[],H,I,.nil,h⟩
theorem eL(ha:PE X e te)(hr:PA X es t)(hs:starEach (e::es) X.env=.(Af)::starEach es X.env:=by rfl):PA X (e::es) (u6 te t):=by
 intro pos pins s σ H Q I h
 rw[hs]
 show wpAny _ _ (spliced (.(Af)::backTo pos (starEach es X.env))) _ _ s
 refine Calls.spliced_cons (bq (ha pins s σ H _ I h) fun u s1 ⟨x,H1,I1,r1,q1⟩=> ?_)
 exact bq (hr pos pins s1 σ H1 _ I1 q1) fun us s2 ⟨xs,H2,I2,r2,q2⟩=>⟨x::xs,H2,I2,.cons r1 r2,q2⟩
def xm(t:TA):TE:=fun σ H Q=>t σ H fun xs H1=>xs.length<=sizeLine/\ ∀p,H1 p=none->Q (.ref p) (upd H1 p (.tup xs))
def xn(t:TA):TE:=fun σ H Q=>t σ H fun xs H1=>xs.length<=sizeLine/\ ∀p,H1 p=none->Q (.ref p) (upd H1 p (.lst xs))
theorem r6{x1}(h:PA X es t):PE X (.Tuple es x1 pos) (xm t):=by
 intro pins s σ H Q I hq
 refine wpAny_Tuple_spliced (bq (h pos pins s σ H _ I hq) fun us s1 ⟨xs,H1,I1,r,z,q⟩=>⟨by rw[<-r.length];exact z,?_⟩)
 have hf:H1 s1.heap.objs.size=none:=I1.hok.fresh .(AD)
 refine⟨.ref s1.heap.objs.size,upd H1 s1.heap.objs.size (.tup xs),I1.laid (t':=s1.toks) (fun b u e=>Heap.get?_push_of_some _ e) .(AD) ?_,rfl,q _ hf⟩
 exact⟨z,us,r,⟨_,Heap.get?_push_size _ rfl,rfl,_,rfl⟩⟩
theorem r7(h:PA X es t):PE X (.List es pos) (xn t):=by
 intro pins s σ H Q I hq
 refine wpAny_List_spliced (bq (h pos pins s σ H _ I hq) fun us s1 ⟨xs,H1,I1,r,z,q⟩=>⟨by rw[<-r.length];exact z,?_⟩)
 have hf:H1 s1.heap.objs.size=none:=I1.hok.fresh .(AD)
 refine⟨.ref s1.heap.objs.size,upd H1 s1.heap.objs.size (.lst xs),I1.laid (t':=s1.toks) (fun b u e=>Heap.get?_push_of_some _ e) .(AD) ?_,rfl,q _ hf⟩
 exact⟨z,us,0,r,Heap.get?_push_size _ rfl⟩
end
abbrev Sp:=List V->Hp->VK->XK->Prop
abbrev gS:=List Env->Hp->Shared->XK->Value->Shared->Prop
structure jH(P:Program)(w:World)(K:Fg)(mg:Str->Option Value)(base:Bs)(A:Around)(outer:List Env)(s:Shared)(H:Hp):Prop where
 frames:A.frames=some outer
 mod:Mod K mg base
 bs:∀b o,base.get? b=some o->s.heap.get? b=some o/\H b=none
 bsz:base.objs.size<=s.heap.objs.size
 funs:s.heap.FunFrames base outer
 frf:∀b∈lJ outer,H b=none
 hok:fE P w H s.heap
 bare:AllBare s.gens
 tab:∀P∈base.tabs,H P=some (.tbl 0)
def CE(outer:List Env)(P:Program)(w:World)(H:Hp)(s:Shared)(Q:VK)(u:Value)(s':Shared):Prop :=
 ∃v H',s'.os=s.os/\AllBare s'.gens/\Un (lJ outer) [] H H' s.heap s'.heap/\fE P w H' s'.heap/\aP v u/\Q v H'
def CR(CX:gS)(outer:List Env)(P:Program)(w:World)(H:Hp)(s:Shared)(Q:VK)(E:XK)(r:Result)(s':Shared):Prop :=
 match r with
 |.ok (.ret u)=>CE outer P w H s Q u s'
 |.ok _=>False
 |.error e=>CX outer H s E e s'
structure bM(P:Program)(w:World)(K:Fg)(mg:Str->Option Value)(base:Bs)(CX:gS)(k:Nat)(f:Addr)(fd:FuncData)(ps:List Str)(sp:Sp):Prop where
 len:∀vs H Q E,sp vs H Q E->vs.length=ps.length
 run:∀(A:Around) (outer:List Env) (s:Shared) (H:Hp) (args:Args) (us:List Value) (vs:List V) (Q:VK) (E:XK),bf k A->jH P w K mg base A outer s H->BindsTo s fd args (ps.zip us)->aG vs us->sp vs H Q E ->
  codeAny (model P w) A (.call (.ref f) args) (CR CX outer P w H s Q E) s
theorem bM.imp{P:Program}{w:World}{K:Fg}{mg:Str->Option Value}{base:Bs}{CX:gS}{k:Nat}{f:Addr}{fd:FuncData}{ps:List Str}{sp sp':Sp}(F:bM P w K mg base CX k f fd ps sp)
  (h:∀vs H Q E,sp' vs H Q E->sp vs H Q E):bM P w K mg base CX k f fd ps sp' :=
 ⟨fun vs H Q E q=>F.len vs H Q E (h _ _ _ _ q),fun A outer s H args us vs Q E hr he hb hv hs=>F.run A outer s H args us vs Q E hr he hb hv (h _ _ _ _ hs)⟩
theorem jH.make{P:Program}{w:World}{K:Fg}{mg:Str->Option Value}{base:Bs}{A:Around}{outer:List Env}{s:Shared}{H:Hp}(e:jH P w K mg base A outer s H)(C:Addr)(us:List Value)(kw:List (Str×Value)) :
  jH P w K mg base (A.under (.builtin "type.__call__" ⟨.ref C::us,kw⟩)) outer s H:=⟨by first|exact e.frames|(simpa[Around.under,Code.envs,Code.isFrame,pushEnvs]using e.frames),e.mod,e.bs,e.bsz,e.funs,e.frf,e.hok,e.bare,e.tab⟩
section
variable{X:Cx}{pins:List (Addr×Obj)}{σ :St}{H:Hp}{s s':Shared}
theorem aw.env0(I:aw X pins σ H s):jH X.prog X.w X.K X.mg X.base X.A X.stack s H :=
 ⟨I.ok.frames,I.ok.mod,I.bs,Nat.le_trans I.ok.bsz I.sz,I.stack,I.stkFree,I.hok,I.bare,fun P z=>I.base.tbls P 0 (I.ok.tab P z)⟩
theorem aw.after{Q:VK}{u:Value}(I:aw X pins σ H s)(h:CE X.stack X.prog X.w H s Q u s'):EP X pins σ Q u s':=by
 obtain⟨v,H',os,bare,un,hok,r,q⟩:=h
 obtain⟨hh,g,d,t,os'⟩:=s'
 obtain rfl:os'=s.os:=os
 exact⟨v,H',I.call (h':=hh) (g':=g) (d':=d) (t':=t) (ch:=[]) un hok bare (fun b z=>absurd z (by simp)),r,q⟩
end
def u7(sp:Sp)(dvs:List V)(E:XK)(t:TA):TE:=fun σ H Q=>t σ H fun vs H1=>sp (vs++dvs) H1 Q E
def pZ(C:Addr)(sp:Sp)(dvs:List V)(E:XK)(t:TA):TE:=fun σ H Q=>t σ H fun vs H1=>∀x dx,H1 x=none->H1 dx=none->dx≠x ->
 sp (.ref x::(vs++dvs)) (upd (upd H1 dx (.own x)) x (.ins C dx [])) (fun v H2=>v= .non/\Q (.ref x) H2) E
def bj(K:Fg)(fd:FuncData)(ps:List Str)(ds:List Value):Prop :=
 ∀(s:Shared) (us:List Value),K.In s.heap->(us++ds).length=ps.length->BindsTo s fd ⟨us,[]⟩ (ps.zip (us++ds))
theorem bj.all{K:Fg}{fd:FuncData}{ps:List Str}(h:∀us:List Value,us.length=ps.length->bindArgs fd ⟨us,[]⟩=pure (ps.zip us)):bj K fd ps []:=fun s us _ hl=>by
 rw[List.append_nil]at hl ⊢
 exact .of_eq (h us hl)
def dz(CX:gS)(X:Cx)(E:XK):Prop:=∀(pins:List (Addr×Obj)) (σ :St) (H:Hp) (s:Shared) (e:Value) (s':Shared),aw X pins σ H s->CX X.stack H s E e s'->X.xe e s'
section
variable{X:Cx}{CX:gS}{k:Nat}{f C:Addr}{fd:FuncData}{ps:List Str}{sp:Sp}{dvs:List V}{ds:List Value}{E:XK}{x m:Str}{p pos apos:Pos}{e o:Expr}{es:List Expr}{ta:TE}{t:TA}
theorem jI{pins:List (Addr×Obj)}{σ :St}{H:Hp}{s:Shared}{Q:VK}{us:List Value}{vs:List V}(F:bM X.prog X.w X.K X.mg X.base CX k f fd ps sp)(hr:bf k X.A)(hb:bj X.K fd ps ds)(hd:aG dvs ds)(hx:dz CX X E)
  (I:aw X pins σ H s) (r:aG vs us) (h:sp (vs++dvs) H Q E):wpAny .(J) X.A (call (.ref f) us) (EP X pins σ Q) X.xe s:=by
 have r2:aG (vs++dvs) (us++ds):=r.append hd
 have hl:(us++ds).length=ps.length:=by rw[<-r2.length];exact F.len _ _ _ _ h
 refine wpAny_call (codeAny_mono (F.run X.A X.stack s H ⟨us,[]⟩ (us++ds) (vs++dvs) Q E hr I.env0 (hb s us I.kIn hl) r2 h) fun r s' hq=> ?_)
 cases r with
 |error e=>exact hx pins σ H s e s' I hq
 |ok fl =>
  cases fl with
  |ret u=>exact I.after hq
  |next=>exact False.elim hq
  |brk=>exact False.elim hq
  |cont=>exact False.elim hq
theorem oO(F:bM X.prog X.w X.K X.mg X.base CX k f fd ps sp)(hr:bf k X.A)(hg:Gl X x)(hm:X.mg x=some (.ref f))(hk:PySem.W.keepIn X.K (.ref f)=true)(hb:bj X.K fd ps ds)(hd:aG dvs ds)(hx:dz CX X E)
  (ha:PA X (e::es) t) (hdb:.(O)=false:=by decide) (he:starEach (e::es) X.env=.(Af)::starEach es X.env:=by rfl) (hpl:.(Z).any (·.1)=false:=by rfl) :
  PE X .(Ab) (u7 sp dvs E t):=by
 intro pins s σ H Q I h
 refine wpAny_Call_Name_kw (eI I hg hm ?_ hdb)
 refine PySem.W.callWith_K (h₀:=X.base) I.ok.mod.kin hk (bq (ha pos pins s σ H _ I h) fun us s1 ⟨vs,H1,I1,r,q⟩=>⟨I1.kIn,?_⟩) he hpl
 exact jI F hr hb hd hx I1 r q
structure Mk(K:Fg)(C f:Addr):Prop where
 makes:PySem.W.makesIn K C=true
 init:PySem.W.findIn K (.ref C) "__init__"=some (some (.ref f))
 fn:PySem.W.isFn K (.ref f)=true
 kp:PySem.W.keepIn K (.ref C)=true
theorem iV{pins:List (Addr×Obj)}{σ :St}{H:Hp}{s:Shared}{Q:VK}{us:List Value}{vs:List V}(M:Mk X.K C f)(F:bM X.prog X.w X.K X.mg X.base CX k f fd ps sp)(hr:bf (k+1) X.A)(hb:bj X.K fd ps ds)(hd:aG dvs ds)
  (hx:dz CX X E) (I:aw X pins σ H s) (r:aG vs us)
  (h:∀x dx,H x=none->H dx=none->dx≠x->sp (.ref x::(vs++dvs)) (upd (upd H dx (.own x)) x (.ins C dx [])) (fun v H2=>v= .non/\Q (.ref x) H2) E) :
  wpAny .(J) X.A (call (.ref C) us) (EP X pins σ Q) X.xe s:=by
 have hq:=h .(W) s.heap.objs.size (I.hok.fresh (Nat.le_succ _)) (I.hok.fresh .(AD)) (Nat.ne_of_lt (Nat.lt_succ_self _))
 have I2:=aw.made (C:=C) I
 have r2:aG (V.ref .(W)::(vs++dvs)) (Value.ref .(W)::(us++ds)):= .cons rfl (r.append hd)
 have hl:(Value.ref .(W)::us++ds).length=ps.length:=by
  have e:=r2.length
  rw[F.len _ _ _ _ hq]at e
  exact e.symm
 refine wpAny_call (lW (f:=f) I.kIn M.makes M.init (beq_iff_eq.mp M.fn) (codeAny_mono (F.run _ X.stack _ _ ⟨Value.ref .(W)::us,[]⟩ (Value.ref .(W)::(us++ds)) _ _ E (hr.make C us [])
  (I2.env0.make C us []) (hb _ (Value.ref .(W)::us) I2.kIn hl) r2 hq) fun r s' hq'=> ?_))
 cases r with
 |error e=>exact hx pins σ _ _ e s' I2 hq'
 |ok fl =>
  cases fl with
  |ret u =>
   obtain⟨v,H',I3,rv,ev,q3⟩:=I2.after hq'
   subst ev
   exact⟨rv,⟨V.ref .(W),H',I3,rfl,q3⟩⟩
  |next=>exact False.elim hq'
  |brk=>exact False.elim hq'
  |cont=>exact False.elim hq'
theorem oP(M:Mk X.K C f)(F:bM X.prog X.w X.K X.mg X.base CX k f fd ps sp)(hr:bf (k+1) X.A)(hg:Gl X x)(hm:X.mg x=some (.ref C))(hb:bj X.K fd ps ds)(hd:aG dvs ds)(hx:dz CX X E)
  (ha:PA X (e::es) t) (hdb:.(O)=false:=by decide) (he:starEach (e::es) X.env=.(Af)::starEach es X.env:=by rfl) (hpl:.(Z).any (·.1)=false:=by rfl) :
  PE X .(Ab) (pZ C sp dvs E t):=by
 intro pins s σ H Q I h
 refine wpAny_Call_Name_kw (eI I hg hm ?_ hdb)
 refine PySem.W.callWith_K (h₀:=X.base) I.ok.mod.kin M.kp (bq (ha pos pins s σ H _ I h) fun us s1 ⟨vs,H1,I1,r,q⟩=>⟨I1.kIn,?_⟩) he hpl
 exact iV M F hr hb hd hx I1 r q
end
section
variable{X:Cx}{CX:gS}{k:Nat}{f C:Addr}{fd:FuncData}{ps ks:List Str}{sp:Sp}{E:XK}{x m:Str}{p pos apos kpos:Pos}{e o:Expr}{es:List Expr}{kws:List Keyword}{te ta:TE}{t tk:TA}{nm:Option Str}
variable{g:List Value->List Value->List Value}{gV:List V->List V->List V}
end
structure aj(N P:List Str)(sc:Scope):Prop where
 kind:sc.kind= .function
 co:sc.isCoroutine=false
 gen:sc.isGenerator=false
 nd:N.Nodup
 pre:N.take P.length=P
 par:∀x∈P,sc.names.lookup x=some .local\/sc.names.lookup x=some .cell
 nofree:∀y∈sc.names,y.2 ≠ .free
theorem aj.q{N P:List Str}{sc:Scope}(a:sc.kind= .function:=by rfl)(b:sc.isCoroutine=false:=by rfl)(c:sc.isGenerator=false:=by rfl)(d:N.Nodup:=by decide +kernel)(e:N.take P.length=P:=by rfl)(g:∀x∈P,sc.names.lookup x=some .local\/sc.names.lookup x=some .cell:=by decide +kernel)(h:∀y∈sc.names,y.2 ≠ .free:=by decide +kernel):aj N P sc:=⟨a,b,c,d,e,g,h⟩
theorem gT{kindOf:Str->Option NameKind}{x:Str}:∀{binds:List (Str×Value)} {m:Str->Option Value},(∀v,(x,v)∉binds)->bindL kindOf binds m x=m x
 |[],_,_=>rfl
 | (n,v)::r,m,h=>by
  unfold bindL
  rw[gT fun w hw=>h w (List.mem_cons_of_mem _ hw)]
  split
  ·have:x≠n:=by rintro rfl;exact h v List.mem_cons_self
   simp[this]
  ·rfl
theorem gU{kindOf:Str->Option NameKind}{x:Str}:∀{binds:List (Str×Value)} {m:Str->Option Value},(∀v,(x,v)∉binds)->bindC kindOf binds m x=m x
 |[],_,_=>rfl
 | (n,v)::r,m,h=>by
  unfold bindC
  rw[gU fun w hw=>h w (List.mem_cons_of_mem _ hw)]
  split
  ·rfl
  ·have:x≠n:=by rintro rfl;exact h v List.mem_cons_self
   simp[this]
theorem gW{kindOf:Str->Option NameKind}{x:Str}{v:Value}:∀{P:List Str} {vs:List Value} {i:Nat} {m:Str->Option Value},P.Nodup->P[i]? =some x->vs[i]? =some v->kindOf x=some .local ->
  bindL kindOf (P.zip vs) m x=some v
 |[],_,_,_,_,h,_,_=>by simp at h
 |_::_,[],_,_,_,_,h,_=>by simp at h
 |p::P,w::vs,0,m,nd,h1,h2,hk=>by
  simp at h1 h2;subst h1;subst h2
  show bindL kindOf ((p,w)::P.zip vs) m p=_
  unfold bindL
  rw[gT fun v hv=>(List.nodup_cons.mp nd).1 (List.of_mem_zip hv).1,if_pos hk]
  simp
 |p::P,w::vs,i+1,m,nd,h1,h2,hk=>by
  show bindL kindOf ((p,w)::P.zip vs) m x=_
  unfold bindL
  exact gW (i:=i) (List.nodup_cons.mp nd).2 (by simpa using h1) (by simpa using h2) hk
theorem gX{kindOf:Str->Option NameKind}{x:Str}{v:Value}:∀{P:List Str} {vs:List Value} {i:Nat} {m:Str->Option Value},P.Nodup->P[i]? =some x->vs[i]? =some v->kindOf x≠some .local ->
  bindC kindOf (P.zip vs) m x=some v
 |[],_,_,_,_,h,_,_=>by simp at h
 |_::_,[],_,_,_,_,h,_=>by simp at h
 |p::P,w::vs,0,m,nd,h1,h2,hk=>by
  simp at h1 h2;subst h1;subst h2
  show bindC kindOf ((p,w)::P.zip vs) m p=_
  unfold bindC
  rw[gU fun v hv=>(List.nodup_cons.mp nd).1 (List.of_mem_zip hv).1,if_neg hk]
  simp
 |p::P,w::vs,i+1,m,nd,h1,h2,hk=>by
  show bindC kindOf ((p,w)::P.zip vs) m x=_
  unfold bindC
  exact gX (i:=i) (List.nodup_cons.mp nd).2 (by simpa using h1) (by simpa using h2) hk
noncomputable def fH(N:List Str)(vs:List V):St:=vs.map some++List.replicate (N.length-vs.length) none
noncomputable def io(CX:gS)(P:Program)(w:World)(K:Fg)(mg:Str->Option Value)(base:Bs)(N:List Str)(qual:Str)(scope:Scope)(f:Addr)(cd:Value)(A:Around)(outer:List Env)(s:Shared)(H:Hp)(E:XK):Cx where
 prog:=P
 w:=w
 K:=K
 mg:=mg
 base:=base
 A:=A.deeper (envOfC qual scope s.heap.objs.size f cd)
 N:=N
 s₀:=s
 H₀:=H
 env:=envOfC qual scope s.heap.objs.size f cd
 outer:=outer
 stack:=envOfC qual scope s.heap.objs.size f cd::outer
 ex:=[]
 calm:=true
 fn:=fun _=>true
 cw:=fun _=>true
 pn:=[]
 xe:=fun e s'=>wpAny (model P w) (A.deeper (envOfC qual scope s.heap.objs.size f cd)) (leaving (envOfC qual scope s.heap.objs.size f cd) e) (fun _ s''=>CX outer H s E e s'') (fun e' s''=>CX outer H s E e' s'') s'
theorem iW{sc:Scope}{n:Nat}{x:Str}(h:sc.names.lookup x=some .cell):∃c,(cellsFrom n sc.names []).lookup x=some c:=by
 have q:=PySem.W.cellsFrom_some sc.names n [] (.inl h)
 exact Option.isSome_iff_exists.mp q
theorem la{CX:gS}{P:Program}{w:World}{K:Fg}{mg:Str->Option Value}{base:Bs}{N ps:List Str}{qual:Str}{scope:Scope}{f:Addr}{cd:Value}{A:Around}{outer:List Env}{s s1:Shared}{H:Hp}{E:XK}{us:List Value}{vs:List V}
  (S:aj N ps scope) (hd:A.handled=none) (e0:jH P w K mg base A outer s H) (hl:vs.length=ps.length) (r:aG vs us)
  (x:InCallC s s.heap.objs.size (bindL (envOfC qual scope s.heap.objs.size f cd).kindOf (ps.zip us) fun _=>none) (cellsFrom .(W) scope.names []) (bindC (envOfC qual scope s.heap.objs.size f cd).kindOf (ps.zip us) fun _=>none) s1) :
  aw (io CX P w K mg base N qual scope f cd A outer s H E) [] (fH N vs) H s1:=by
 have hpl:ps.length<=N.length:=by have:=congrArg List.length S.pre;rw[List.length_take]at this;omega
 obtain⟨h1,tk,rfl,hk⟩:=x.done
 have noA:∀b:Addr,b∉(io CX P w K mg base N qual scope f cd A outer s H E).ex:=fun b z=>absurd (show b∈([]:List Addr) from z) (by simp)
 refine⟨⟨e0.mod,S.kind,rfl,rfl,Nat.le_refl _,fun y z c h1 h2=> ?_,fun y hy=> ?_,fun y c _ h=> ?_,fun _=>hd,Around.frames_deeper e0.frames,.inr ⟨rfl,rfl⟩,fun b z=>absurd z (noA b),e0.bs,e0.bsz,fun b _ _=>noA b,fun b z=>absurd z (noA b),e0.funs,e0.frf,e0.tab,fun _ z=>z⟩,
  rfl,e0.bare,Un.kept hk,⟨_,x.toInCall.ns,fun i y v h1 h2 h3=> ?_⟩,fun y c h=>⟨_,x.cell y c h⟩,e0.hok.fresh .(AD),fun y c h=> ?_,fun p hp=>absurd (show p∈([]:List (Addr×Obj)) from hp) (by simp),e0.hok.kept hk,?_⟩
 ·exact name_of_addr x.apart (PySem.mem_of_lookup h1) (PySem.mem_of_lookup h2)
 ·have hy:scope.names.lookup y=some .cell\/scope.names.lookup y=some .free:=hy
  rcases hy with hy|hy
  ·exact iW hy
  ·exact absurd rfl (S.nofree _ (PySem.mem_of_lookup hy))
 ·exact Nat.le_of_lt (x.above y c (PySem.mem_of_lookup h))
 ·have hi:i<vs.length:=by
   unfold fH at h2
   by_cases hi:i<vs.length
   ·exact hi
   ·rw[List.getElem?_append_right (by simpa using hi)]at h2
    rw[List.getElem?_replicate]at h2
    split at h2 <;> cases h2
  have ha:vs[i]? =some v:=by
   unfold fH at h2
   rw[List.getElem?_append_left (by simpa using hi),List.getElem?_map]at h2
   cases e:vs[i]? with
   |none=>rw[e]at h2;cases h2
   |some a=>rw[e]at h2;cases h2;rfl
  obtain⟨u,hu,rv⟩:=r.get ha
  have hp:ps[i]? =some y:=by
   rw[<-S.pre,List.getElem?_take_of_lt (by omega)];exact h1
  have ndP:ps.Nodup:=by rw[<-S.pre];exact S.nd.sublist (List.take_sublist _ _)
  refine⟨u,rv,?_⟩
  rcases S.par y (List.mem_of_getElem? hp)with k|k
  ·exact .inl ⟨k,gW ndP hp hu k⟩
  ·obtain⟨c,e⟩:=iW (n:=s.heap.objs.size+1) k
   refine .inr ⟨.inl k,c,e,?_⟩
   have q:=x.cell y c e
   rw[gX ndP hp hu (by show scope.names.lookup y≠_;rw[k];decide)]at q
   exact q
 ·exact .inl (e0.hok.fresh (Nat.le_of_lt (x.above y c (PySem.mem_of_lookup h))))
 ·unfold fH
  show _=N.length
  rw[List.length_append,List.length_map,List.length_replicate]
  omega
theorem u8{CX:gS}{P:Program}{w:World}{K:Fg}{mg:Str->Option Value}{base:Bs}{k:Nat}{f:Addr}{name qual:Str}{params:Arguments}{body:List Stmt}{scope:Scope}{dV kV doc pm cdv ct oc:Value}{an od:Option Addr}
  {osl:Array (Option Value)} {N ps:List Str} {sp:Sp} (lk:K.lookup f=some ⟨oc,od,.func (PySem.W.fnOf name qual params body scope dV kV doc pm an cdv ct),osl⟩) (hcd:PySem.W.codeIn K cdv qual=true) (S:aj N ps scope)
  (len:∀vs H Q E,sp vs H Q E->vs.length=ps.length)
  (hbody:∀(A:Around) (outer:List Env) (s:Shared) (H:Hp) (vs:List V) (Q:VK) (E:XK),bf k (A.deeper (envOfC qual scope s.heap.objs.size f cdv))->sp vs H Q E ->
   ∃t,jx (io CX P w K mg base N qual scope f cdv A outer s H E) body t/\t { nx:=fun _ H'=>Q .non H',rt:=Q } (fH N vs) H) :
  bM P w K mg base CX (k+1) f (PySem.W.fnOf name qual params body scope dV kV doc pm an cdv ct) ps sp:=by
 refine⟨len,fun A outer s H args us vs Q E hr e0 hb r hsp=> ?_⟩
 have hl:=len _ _ _ _ hsp
 have KX:K.In s.heap:=e0.mod.kin.keeps fun b o e=>(e0.bs b o e).1
 have lim:s.heap.NoLimit:=e0.mod.nolimit.keeps fun b o e=>(e0.bs b o e).1
 have hkind:∀y∈ps.zip us,scope.names.lookup y.1=some .local\/(scope.names.lookup y.1=some .cell/\((cellsFrom .(W) scope.names []).lookup y.1).isSome=true):=fun⟨n,v⟩ hy=>by
  rcases S.par n (List.of_mem_zip hy).1 with q|q
  ·exact .inl q
  ·exact .inr ⟨q,PySem.W.cellsFrom_some _ _ _ (.inl q)⟩
 refine codeAny_call_function hr.depth (KX _ _ lk) rfl S.co S.gen rfl (PySem.W.codeRec_of KX hcd) (hb _ _ _ _ ?_)
 refine wpAny_newFunctionEnv_cells S.kind hkind fun env he s1 x=> ?_
 subst he
 refine⟨lim.keeps x.toInCall.keep,codeAny_func ?_⟩
 obtain⟨t,ht,hq⟩:=hbody A outer s H vs Q E (hr.deeper _) hsp
 have I:aw (io CX P w K mg base N qual scope f cdv A outer s H E) [] (fH N vs) H s1:=la S hr.hd e0 hl r x
 refine wpAny_mono (ht [] s1 (fH N vs) H _ I hq) (fun fl s' hs=> ?_) fun e s' hs=>hs
 have fin:∀{σ':St} {H':Hp} {v:V} {u:Value},aw (io CX P w K mg base N qual scope f cdv A outer s H E) [] σ' H' s'->aP v u->Q v H'->CE outer P w H s Q u s' :=
  fun {σ' H' v u} J rv q=>⟨v,H',J.os,J.bare,J.base,J.hok,rv,q⟩
 cases fl with
 |ret u =>
  obtain⟨v,H',J,rv,q⟩:=hs
  exact⟨v,H',J.os,J.bare,J.base,J.hok,rv,q⟩
 |next =>
  obtain⟨σ',H',J,q⟩:=hs
  exact fin (v:=V.non) (u:=Value.none) J rfl q
 |brk =>
  obtain⟨_,_,_,q⟩:=hs
  exact False.elim q
 |cont =>
  obtain⟨_,_,_,q⟩:=hs
  exact False.elim q
section
variable{X:Cx}{x:Str}{p pos:Pos}{e:Expr}{es:List Expr}{t:TA}{id T:String}{r:List V->Hp->VK->Prop}
def xo(r:List V->Hp->VK->Prop)(t:TA):TE:=fun σ H Q=>t σ H fun vs H1=>r vs H1 Q
theorem iX(hc:g0 X (.builtin id) r)(hg:Gl X x)(hm:X.mg x=none)(hv:bootBuiltins x=some (.builtin id))(ha:PA X (e::es) t)(hn:x ≠ "__name__":=by decide)(hdb:.(O)=false:=by decide)
  (he:starEach (e::es) X.env=.(Af)::starEach es X.env:=by rfl) (hpl:.(Z).any (·.1)=false:=by rfl):PE X .(Ab) (xo r t):=by
 intro pins s σ H Q I h
 refine wpAny_Call_Name_kw (ik I hg hm hv ?_ hn hdb)
 exact PyProof.Rows.callWith_builtin1 (bq (ha pos pins s σ H _ I h) fun us s1 ⟨vs,H1,I1,r1,q1⟩=>hc pins s1 σ H1 vs us Q I1 r1 q1) he hpl
theorem lb(hc:g0 X (.type T) r)(hg:Gl X x)(hm:X.mg x=none)(hv:bootBuiltins x=some (.type T))(ha:PA X (e::es) t)(hn:x ≠ "__name__":=by decide)(hdb:.(O)=false:=by decide)
  (he:starEach (e::es) X.env=.(Af)::starEach es X.env:=by rfl) (hpl:.(Z).any (·.1)=false:=by rfl):PE X .(Ab) (xo r t):=by
 intro pins s σ H Q I h
 refine wpAny_Call_Name_kw (ik I hg hm hv ?_ hn hdb)
 exact PyProof.Rows.callWith_type1 (bq (ha pos pins s σ H _ I h) fun us s1 ⟨vs,H1,I1,r1,q1⟩=>hc pins s1 σ H1 vs us Q I1 r1 q1) he hpl
end
end L2
namespace HT
open PySem PyProof.Rows
section
open PySem.SeqAt
open PySem.AutoSeq1 (wpAny_loadPart')
open PySem.MeetsSeq PySem.MeetsSeq2 PySem.MeetsSeq3
end
section
variable{prog:Program}{w:World}{A:Around}{E:Value->Shared->Prop}{s:Shared}
def sIx(n d:Nat):Option Int->Nat
 |none=>d
 |some v=>if v<0 then(v+(n:Int)).toNat else min v.toNat n
theorem sIx_nat(n d k:Nat):sIx n d (some (k:Int))=min k n:=by
 show(if (k:Int)<0 then((k:Int)+(n:Int)).toNat else min (k:Int).toNat n)=min k n
 rw[if_neg (by omega),Int.toNat_natCast]
theorem r9(n d:Nat)(hd:d<=n)(o:Option Int):sIx n d o<=n:=by
 cases o with
 |none=>exact hd
 |some v =>
  show(if v<0 then(v+(n:Int)).toNat else min v.toNat n)<=n
  by_cases hv:v<0
  ·rw[if_pos hv];omega
  ·rw[if_neg hv];exact Nat.min_le_right _ _
theorem km(v:Int)(n d:Nat):(if v<0 then max (v+(n:Int)) 0 else min v (n:Int))=((sIx n d (some v):Nat):Int):=by
 show(if v<0 then max (v+(n:Int)) 0 else min v (n:Int))=(((if v<0 then(v+(n:Int)).toNat else min v.toNat n):Nat):Int)
 by_cases hv:v<0
 ·simp only[if_pos hv];omega
 ·simp only[if_neg hv];omega
theorem jJ(lo hi:Option Int)(n:Nat):Builtin.Slice.sliceAdjust lo hi 1 (n:Int)=(((sIx n 0 lo:Nat):Int),((sIx n n hi:Nat):Int)):=by
 have h1:¬((1:Int)<0):=by omega
 unfold Builtin.Slice.sliceAdjust
 simp only[h1,if_false]
 refine Prod.ext ?_ ?_
 ·cases lo with
  |none=>rfl
  |some v=>exact km v n 0
 ·cases hi with
  |none=>rfl
  |some v=>exact km v n n
theorem jK(i j:Nat):Builtin.Slice.slicePlaces (i:Int) (j:Int) 1=j-i:=by
 unfold Builtin.Slice.slicePlaces
 have h1:(1:Int)>0:=by omega
 simp only[h1,if_true,Int.ediv_one]
 split <;> omega
theorem g5{v:Value}{o:Option Int}{Q:Option Int->Shared->Prop}(p:IsPart v o)(h:Q o s):wpAny (model prog w) A (Builtin.Slice.slicePartIndex v) Q E s:=by
 cases p with
 |none=>exact slicePart_none h
 |int i t=>exact slicePart_int h
theorem ff{sl:Addr}{vl vu:Value}{lo hi:Option Int}{n:Nat}{Q:Int×Int×Nat->Shared->Prop}(hs:s.heap.IsSliceOf sl vl vu .none)(pl:IsPart vl lo)(pu:IsPart vu hi)
  (h:Q (((sIx n 0 lo:Nat):Int),1,sIx n n hi-sIx n 0 lo) s):wpAny (model prog w) A (Builtin.Slice.sliceApplied (.ref sl) (pure (n:Int))) Q E s:=by
 obtain⟨os,hos,hcs,hds⟩:=id hs
 unfold Builtin.Slice.sliceApplied Builtin.Slice.sliceFields
 refine wpAny_bind (wpAny_bind (wpAny_field hos hds (x:=vl) rfl (wpAny_bind (wpAny_field hos hds (x:=vu) rfl (wpAny_bind (wpAny_field hos hds (x:= .none) rfl (wpAny_pure ?_)))))))
 refine wpAny_bind (slicePart_none ?_)
 show wpAny _ _ (if ((1:Int) == 0)=true then _ else _) _ _ s
 rw[if_neg (by decide)]
 refine wpAny_bind (g5 pl (wpAny_bind (g5 pu (wpAny_bind (wpAny_pure ?_)))))
 show wpAny _ _ (match Builtin.Slice.sliceAdjust lo hi 1 (n:Int)with|(lo,hi)=>pure (lo,(1:Int),Builtin.Slice.slicePlaces lo hi 1)) _ _ s
 rw[jJ lo hi n]
 show wpAny _ _ (pure (((sIx n 0 lo:Nat):Int),(1:Int),Builtin.Slice.slicePlaces ((sIx n 0 lo:Nat):Int) ((sIx n n hi:Nat):Int) 1)) _ _ s
 rw[jK]
 exact wpAny_pure h
theorem lX(xs:Array Value)(i k:Nat):((List.range k).filterMap fun(m:Nat)=>xs[((i:Int)+(m:Int)*1).toNat]?).toArray=((xs.toList.drop i).take k).toArray:=by
 have e:(fun(m:Nat)=>xs[((i:Int)+(m:Int)*1).toNat]?)=fun m=>xs[i+m]? :=by
  funext m
  have:((i:Int)+(m:Int)*1).toNat=i+m:=by omega
  rw[this]
 rw[e]
 have:=pick_run xs i k
 rw[List.filterMap_map]at this
 have e2:((fun x=>xs[x]?) ∘ fun x=>i+x)=fun m=>xs[i+m]? :=rfl
 rw[e2]at this
 rw[this]
theorem getItem_tuple_cut{t sl:Addr}{items:Array Value}{vl vu:Value}{lo hi:Option Int}{Q:Value->Shared->Prop}(ht:IsTup s.heap t items)(hs:s.heap.IsSliceOf sl vl vu .none)(pl:IsPart vl lo)(pu:IsPart vu hi)
  (hw:¬(sIx items.size 0 lo=0/\sIx items.size items.size hi=items.size))
  (h:Q (.ref s.heap.objs.size) { s with heap:=s.heap.push { cls:= .type "tuple",data:= .seq ((items.toList.drop (sIx items.size 0 lo)).take (sIx items.size items.size hi-sIx items.size 0 lo)).toArray } })
  (hsz:items.size<=sizeLine):wpAny (model prog w) A (getItem (.ref t) (.ref sl)) Q E s:=by
 have htake:sizeOk (.seq ((items.toList.drop (sIx items.size 0 lo)).take (sIx items.size items.size hi-sIx items.size 0 lo)).toArray):=by
  show((items.toList.drop (sIx items.size 0 lo)).take (sIx items.size items.size hi-sIx items.size 0 lo)).toArray.size<=sizeLine
  rw[List.size_toArray,List.length_take,List.length_drop,Array.length_toList]
  omega
 have hj:sIx items.size items.size hi<=items.size:=r9 _ _ .(AD) hi
 obtain⟨os,hos,hcs,hds⟩:=id hs
 have hTs:s.TypeIs (.ref sl) "slice":=⟨os,hos,hcs⟩
 unfold getItem
 try with_reducible refine wpAny_holding ?_
 first|refine wpAny_bind (wpAny_pure ?_)|skip
 refine wpAny_bind (wpAny_sequenceKey ht.typeIs (by decide) ?_)
 refine wpAny_bind (wpAny_callSpecial?_slot (name:=Str.ofString "__getitem__") ht.typeIs PyProof.Rows.slot_tuple_getitem
  (wpAny_call_entry PyProof.Rows.slot_tuple_getitem ht.typeIs entry_tuple_getitem ?_ (args_tuple_getitem _ _)))
 show wpAny _ _ (Builtin.Tuple.tupleItemsOf (.ref t) >>= _) _ _ s
 refine wpAny_bind (tupleItemsOf_ ht ?_)
 refine wpAny_bind (wpAny_typeOf hTs ?_)
 rw[if_pos (by decide)]
 refine wpAny_bind (ff hs pl pu ?_)
 have hno:¬((((sIx items.size 0 lo:Nat):Int) == 0 && (1:Int) == 1 && (sIx items.size items.size hi-sIx items.size 0 lo) == items.size)=true):=by
  intro q
  rw[Bool.and_eq_true,Bool.and_eq_true]at q
  have q1:((sIx items.size 0 lo:Nat):Int)=0:=eq_of_beq q.1.1
  have q2:sIx items.size items.size hi-sIx items.size 0 lo=items.size:=eq_of_beq q.2
  exact hw ⟨by omega,by omega⟩
 show wpAny _ _ (if (((sIx items.size 0 lo:Nat):Int) == 0 && (1:Int) == 1 && (sIx items.size items.size hi-sIx items.size 0 lo) == items.size)=true then _ else _) _ _ s
 rw[if_neg hno,lX]
 first
  |exact wpAny_bind (m:=Builtin.Tuple.tupleExact _) (wpAny_newObj_type (wpAny_pure ⟨_,rfl,wpAny_pure h⟩) htake)
  |exact wpAny_bind (m:=Builtin.Tuple.tupleExact _) (wpAny_newObj_type (wpAny_bind (wpAny_pure (wpAny_pure ⟨_,rfl,wpAny_pure h⟩))) htake)
  |exact wpAny_bind (wpAny_bind (m:=Builtin.Tuple.tupleExact _) (wpAny_newObj_type (wpAny_pure (wpAny_pure ⟨_,rfl,wpAny_pure h⟩)) htake))
  |exact wpAny_bind (wpAny_bind (m:=Builtin.Tuple.tupleExact _) (wpAny_newObj_type (wpAny_pure ⟨_,rfl,wpAny_pure h⟩) htake))
end
end HT
namespace L2
open PySem PySem.Spec PyProof.Rows
abbrev TO:=St->Hp->(Option Int->Hp->Prop)->Prop
def PO(X:Cx)(e:Option Expr)(t:TO):Prop :=
 ∀(pins:List (Addr×Obj)) (s:Shared) (σ :St) (H:Hp) (Q:Option Int->Hp->Prop),aw X pins σ H s->t σ H Q ->
  wpAny .(J) X.A (evalPart e X.env) (fun u s'=>∃o H',aw X pins σ H' s'/\IsPart u o/\Q o H') X.xe s
def oQ:TO:=fun _ H Q=>Q none H
def u9(t:TE):TO:=fun σ H Q=>t σ H fun x H1=>∃i,x= .int i/\Q (some i) H1
section
variable{X:Cx}{e:Expr}{te:TE}{lo hi:Option Expr}{tl th:TO}{pos p2:Pos}
theorem oR:PO X none oQ:=by
 intro pins s σ H Q I h
 rw[evalPart_none]
 exact wpAny_pure ⟨none,H,I,.none,h⟩
theorem oS(h:PE X e te):PO X (some e) (u9 te):=by
 intro pins s σ H Q I hw
 rw[evalPart_some]
 refine bq (h pins s σ H _ I hw) fun u s1 ⟨x,H1,I1,r1,q1⟩=> ?_
 obtain⟨i,rfl,q⟩:=q1
 obtain⟨t,rfl⟩:=r1
 exact⟨some i,H1,I1,.int i t,q⟩
def xp(X:Cx)(r:V->Option Int->Option Int->Hp->VK->Prop):Prop :=
 ∀(pins:List (Addr×Obj)) (s:Shared) (σ :St) (H:Hp) (x:V) (v vl vu:Value) (lo hi:Option Int) (sl:Addr) (Q:VK),aw X pins σ H s->aP x v->s.heap.IsSliceOf sl vl vu .none->IsPart vl lo->IsPart vu hi->r x lo hi H Q ->
  ∃T id,typeLookup (.type T) "__getitem__"=pure (some (.builtin id))/\s.TypeIs v T/\wpAny .(J) X.A (getItem v (.ref sl)) (EP X pins σ Q) X.xe s
def AG(r:V->Option Int->Option Int->Hp->VK->Prop)(te:TE)(tl th:TO):TE:=fun σ H Q=>te σ H fun x H1=>tl σ H1 fun l H2=>th σ H2 fun u H3=>r x l u H3 Q
theorem iY{r:V->Option Int->Option Int->Hp->VK->Prop}(hr:xp X r)(he:PE X e te)(hl:PO X lo tl)(hu:PO X hi th):PE X (.Subscript e (.Slice lo hi none p2) pos) (AG r te tl th):=by
 intro pins s σ H Q I h
 refine Subscript_ (bq (he pins s σ H _ I h) fun v s1 ⟨x,H1,I1,r1,q1⟩=> ?_)
 refine wpAny_Slice (bq (hl pins s1 σ H1 _ I1 q1) fun vl s2 ⟨l,H2,I2,pl,q2⟩=>bq (hu pins s2 σ H2 _ I2 q2) fun vu s3 ⟨u,H3,I3,pu,q3⟩=> ?_)
 rw[evalPart_none]
 refine wpAny_pure ?_
 have I4:aw X pins σ H3 { s3 with heap:=s3.heap.push { cls:= .type "slice",data:= .fields #[vl,vu,.none] } }:=I3.kept (t':=s3.toks) fun b ob q=>Heap.get?_push_of_some _ q
 obtain⟨T,id,hT,ht,hg⟩:=hr pins { s3 with heap:=s3.heap.push { cls:= .type "slice",data:= .fields #[vl,vu,.none] } } σ H3 x v vl vu l u s3.heap.objs.size Q I4 r1 (Heap.IsSliceOf.new ..) pl pu q3
 show wpAny .(J) X.A (subscriptTail e (.Slice lo hi none p2) v (.ref s3.heap.objs.size)) (EP X pins σ Q) X.xe { s3 with heap:=s3.heap.push { cls:= .type "slice",data:= .fields #[vl,vu,.none] } }
 exact tail_any (ops:=[.ref s3.heap.objs.size,v]) ht hT hg (by with_unfolding_all rfl)
noncomputable def gE(xs:List V)(lo hi:Option Int):List V:=(xs.drop (HT.sIx xs.length 0 lo)).take (HT.sIx xs.length xs.length hi-HT.sIx xs.length 0 lo)
theorem fJ(xs:List V)(lo hi:Option Int):(gE xs lo hi).length<=xs.length:=by
 unfold gE
 rw[List.length_take,List.length_drop]
 omega
def xq(K:Fg):V->Option Int->Option Int->Hp->VK->Prop:=fun x lo hi H Q=>∃a xs,x= .ref a/\f8 K H a xs /\
 ¬(HT.sIx xs.length 0 lo=0/\HT.sIx xs.length xs.length hi=xs.length)/\ ∀p,H p=none->Q (.ref p) (upd H p (.tup (gE xs lo hi)))
theorem ra:xp X (xq X.K):=by
 intro pins s σ H x v vl vu lo hi sl Q I rx hs pl pu h
 obtain⟨a,xs,rfl,hx,hw,q⟩:=h
 cases rx
 obtain⟨its,r,ht,hz⟩:=I.tuple hx
 have hlen:its.toArray.size=xs.length:=by rw[List.size_toArray];exact r.length.symm
 refine⟨"tuple",_,PyProof.Rows.slot_tuple_getitem.lookup,ht.typeIs,?_⟩
 refine HT.getItem_tuple_cut ht hs pl pu (by rw[hlen];exact hw) ?_ (by rw[hlen];exact hz)
 rw[hlen]
 refine⟨.ref s.heap.objs.size,_,I.laid (t':=s.toks) (o:= .tup (gE xs lo hi)) (fun b ob q=>Heap.get?_push_of_some _ q) .(AD) ?_,rfl,q _ (I.hok.fresh .(AD))⟩
 exact⟨Nat.le_trans (fJ xs lo hi) hz,_,(r.drop (HT.sIx xs.length 0 lo)).take (HT.sIx xs.length xs.length hi-HT.sIx xs.length 0 lo),IsTup.new _ _⟩
end
noncomputable def oT(n:Nat)(i:Int):Option Nat:=if 0<=i then(if i<n then some i.toNat else none) else if -(n:Int)<=i then some (i+n).toNat else none
noncomputable def gA{α :Type}(xs:List α)(i:Int):Option α :=(oT xs.length i).bind fun j=>xs[j]?
theorem oU{n:Nat}{i:Int}{j:Nat}(h:oT n i=some j):seqIndex? i n=some j/\j<n/\ -(n:Int)<=i/\i<n:=by
 unfold oT at h
 by_cases h0:0<=i
 ·rw[if_pos h0]at h
  by_cases h1:i<n
  ·rw[if_pos h1]at h
   have e:i.toNat=j:=Option.some.inj h
   exact⟨by rw[seqIndex_of h0 h1,e],by omega,by omega,h1⟩
  ·rw[if_neg h1]at h;cases h
 ·rw[if_neg h0]at h
  by_cases h1: -(n:Int)<=i
  ·rw[if_pos h1]at h
   have e:(i+n).toNat=j:=Option.some.inj h
   exact⟨by rw[seqIndex_neg (by omega) h1,e],by omega,h1,by omega⟩
  ·rw[if_neg h1]at h;cases h
theorem ip{α :Type}{xs:List α}{i:Int}{v: α}(h:gA xs i=some v):∃j,seqIndex? i xs.length=some j/\xs[j]? =some v/\j<xs.length/\ -(xs.length:Int)<=i/\i<xs.length:=by
 unfold gA at h
 cases e:oT xs.length i with
 |none=>rw[e]at h;cases h
 |some j =>
  rw[e]at h
  obtain⟨h1,h2,h3,h4⟩:=oU e
  exact⟨j,h1,h,h2,h3,h4⟩
theorem cX{α :Type}{xs:List α}{j:Nat}{v: α}(h:xs[j]? =some v):gA xs (j:Int)=some v:=by
 have hj:j<xs.length:=(List.getElem?_eq_some_iff.mp h).1
 have e:oT xs.length (j:Int)=some j:=by
  unfold oT
  rw[if_pos (by omega),if_pos (by omega)];simp
 unfold gA;rw[e];exact h
def iq(b:Expr):Prop:=∀o i,subscripted b false o i=operate [o,i] (getItem o i)
def oV(X:Cx)(r:R2):Prop :=
 ∀(value slice:Expr) (pins:List (Addr×Obj)) (s:Shared) (σ :St) (H:Hp) (x y:V) (v u:Value) (Q:VK),aw X pins σ H s->aP x v->aP y u->r x y H Q ->
  subscripted slice false v u=operate [v,u] (getItem v u)->wpAny .(J) X.A (subscriptTail value slice v u) (EP X pins σ Q) X.xe s
def xr(X:Cx)(id:String)(r:V->List V->Hp->VK->Prop):Prop :=
 ∀(pins:List (Addr×Obj)) (s:Shared) (σ :St) (H:Hp) (x:V) (xs:List V) (v:Value) (us:List Value) (Q:VK),aw X pins σ H s->aP x v->aG xs us->r x xs H Q ->
  wpAny .(J) X.A (call (.builtin id) (v::us)) (EP X pins σ Q) X.xe s
section
variable{X:Cx}{a b:Expr}{ta tb:TE}{pos:Pos}
theorem oV.or{r r':R2}(h:oV X r)(h':oV X r'):oV X (fun x y H Q=>r x y H Q\/r' x y H Q):=by
 intro value slice pins s σ H x y v u Q I rx ry q hs
 rcases q with q|q
 ·exact h value slice pins s σ H x y v u Q I rx ry q hs
 ·exact h' value slice pins s σ H x y v u Q I rx ry q hs
theorem q8{r:R2}(hr:oV X r)(ha:PE X a ta)(hb:PE X b tb)(hs:iq b):PE X (.Subscript a b pos) (tU r ta tb):=by
 intro pins s σ H Q I h
 exact Subscript_ (qR ha hb I h fun v u s2 x y H2 I2 rx ry q=>hr a b pins s2 σ H2 x y v u Q I2 rx ry q (hs _ _))
def ua(K:Fg):R2:=fun x y H Q=>∃p xs i v,x= .ref p/\y= .int i/\dI K H p xs/\gA xs i=some v/\Q v H
def uc(K:Fg):R2:=fun x y H Q=>∃p xs i v,x= .ref p/\y= .int i/\f8 K H p xs/\gA xs i=some v/\Q v H
def ud:R2:=fun x y H Q=>∃z i c,x= .str z/\y= .int i/\z.length<=sizeLine/\gA z.cps.toList i=some c/\Q (.str ⟨#[c]⟩) H
theorem oW:oV X (ua X.K):=by
 intro value slice pins s σ H x y v u Q I rx ry h hs
 obtain⟨p,xs,i,z,rfl,rfl,hq,he,q⟩:=h
 cases rx
 obtain⟨t,rfl⟩:=ry
 obtain⟨its,r,pl,hz⟩:=I.list hq
 obtain⟨j,h1,h2,h3,h4,h5⟩:=ip he
 obtain⟨w,ew,rw'⟩:=r.get h2
 have hl:=r.length
 have hn:=im
 have fin:EP X pins σ Q w s:=⟨z,H,I,rw',q⟩
 by_cases h0:0<=i
 ·have hj:i.toNat=j:=by
   rw[seqIndex_of h0 h5]at h1
   exact Option.some.inj h1
  exact item_listR pl.isList h0 (by omega) (by rw[hj];simpa using ew) fin hs
 ·have hj:(i+(its.toArray.size:Int)).toNat=j:=by
   rw[seqIndex_neg (by omega) h4]at h1
   rw[List.size_toArray,<-hl]
   exact Option.some.inj h1
  exact subscriptTail_builtinR (x:=w) pl.isList.typeIs slot_list_getitem.lookup
   (wpAny_getItem_list_neg (Q:=fun r s'=>r=w/\EP X pins σ Q r s') pl.isList (by omega) (by rw[List.size_toArray] <;> omega) (by omega) (by rw[hj];simpa using ew) ⟨rfl,fin⟩) hs
theorem re:oV X (uc X.K):=by
 intro value slice pins s σ H x y v u Q I rx ry h hs
 obtain⟨p,xs,i,z,rfl,rfl,hq,he,q⟩:=h
 cases rx
 obtain⟨t,rfl⟩:=ry
 obtain⟨its,r,pl,hz⟩:=I.tuple hq
 obtain⟨j,h1,h2,h3,h4,h5⟩:=ip he
 obtain⟨w,ew,rw'⟩:=r.get h2
 have hl:=r.length
 have hn:=im
 have fin:EP X pins σ Q w s:=⟨z,H,I,rw',q⟩
 exact subscriptTail_builtinR (x:=w) pl.typeIs slot_tuple_getitem.lookup
  (getItem_tuple (j:=j) (Q:=fun r s'=>r=w/\EP X pins σ Q r s') pl (by omega) (by omega) (by rw[List.size_toArray,<-hl];exact h1) (by simpa using ew) ⟨rfl,fin⟩) hs
theorem rf:oV X ud:=by
 intro value slice pins s σ H x y v u Q I rx ry h hs
 obtain⟨z,i,c,rfl,rfl,hz,he,q⟩:=h
 obtain⟨t,rfl⟩:=rx
 obtain⟨t',rfl⟩:=ry
 obtain⟨j,h1,h2,h3,h4,h5⟩:=ip he
 have hl:z.cps.toList.length=z.length:=by simp[Str.length]
 rw[hl]at h1 h4 h5
 have hn:=im
 exact tail_any (typeIs_str s z t) slot_str_getitem.lookup (getItem_str (c:=c) (by
  have e1:decide (i < -(2 ^ 63:Int))=false:=decide_eq_false (by omega)
  have e2:decide (i ≥ 2 ^ 63)=false:=decide_eq_false (by omega)
  rw[e1,e2,Bool.or_false]) (by rw[h1];simpa using h2) ⟨.str ⟨#[c]⟩,H,I.tok _,⟨_,rfl⟩,q⟩) hs
def xt(K:Fg):R2:=fun x y H Q=>ua K x y H Q\/uc K x y H Q\/ud x y H Q
theorem lY:oV X (xt X.K):=oW.or (re.or rf)
theorem ir(lo hi:Option Int)(n:Nat):(sliceBounds lo hi none n).1=((HT.sIx n 0 lo:Nat):Int)/\(sliceBounds lo hi none n).2.1=((HT.sIx n n hi:Nat):Int)/\(sliceBounds lo hi none n).2.2=1:=by
 refine⟨?_,?_,rfl⟩
 ·cases lo with
  |none=>simp[sliceBounds,HT.sIx]
  |some i =>
   simp only[sliceBounds,HT.sIx,Option.getD_none,show(1:Int)>0 by decide,if_true]
   by_cases h:i<0
   ·simp only[h,if_true] <;> omega
   ·simp only[h,if_false] <;> omega
 ·cases hi with
  |none=>simp[sliceBounds,HT.sIx]
  |some i =>
   simp only[sliceBounds,HT.sIx,Option.getD_none,show(1:Int)>0 by decide,if_true]
   by_cases h:i<0
   ·simp only[h,if_true] <;> omega
   ·simp only[h,if_false] <;> omega
theorem gG(its:List Value)(lo hi:Option Int):slicePick its.toArray lo hi none=((its.drop (HT.sIx its.length 0 lo)).take (HT.sIx its.length its.length hi-HT.sIx its.length 0 lo)).toArray:=by
 obtain⟨h1,h2,h3⟩:=ir lo hi its.toArray.size
 unfold slicePick
 rw[h1,h2,h3]
 simp only[sliceRange_one,pick_run,List.size_toArray] <;> rfl
def xu(K:Fg):V->Option Int->Option Int->Hp->VK->Prop:=fun x lo hi H Q=>∃a xs,x= .ref a/\dI K H a xs/\ ∀p,H p=none->Q (.ref p) (upd H p (.lst (gE xs lo hi)))
theorem oX:xp X (xu X.K):=by
 intro pins s σ H x v vl vu lo hi sl Q I rx hs pl pu h
 obtain⟨a,xs,rfl,hx,q⟩:=h
 cases rx
 obtain⟨its,r,ht,hz⟩:=I.list hx
 have hlen:=r.length
 refine⟨"list",_,slot_list_getitem.lookup,ht.isList.typeIs,?_⟩
 refine wpAny_getItem_list_slice ht.isList hs pl pu .none (by simp) ?_ (by rw[List.size_toArray] <;> omega)
 rw[gG,<-hlen]
 refine⟨.ref s.heap.objs.size,_,I.laid (t':=s.toks) (o:= .lst (gE xs lo hi)) (fun b ob q=>Heap.get?_push_of_some _ q) .(AD) ?_,rfl,q _ (I.hok.fresh .(AD))⟩
 exact⟨Nat.le_trans (fJ xs lo hi) hz,_,0,(r.drop (HT.sIx xs.length 0 lo)).take (HT.sIx xs.length xs.length hi-HT.sIx xs.length 0 lo),Heap.get?_push_size _ rfl⟩
def dW:V->Bool
 |.non=>true
 |.bl _=>true
 |.int _=>true
 |.str _=>true
 |_=>false
noncomputable def lZ:V->V->Bool
 |.non,.non=>true
 |.bl a,.bl b=>a == b
 |.bl a,.int b=>(if a then 1 else 0) == b
 |.int a,.bl b=>a == (if b then 1 else 0)
 |.int a,.int b=>a == b
 |.str a,.str b=>a == b
 |_,_=>false
theorem rh{A:Around}{s:Shared}{y x:V}{u v:Value}(ry:aP y u)(rx:aP x v)(fy:dW y=true)(fx:dW x=true):SeqAt.EqAt A s u v (lZ y x):=by
 cases y with
 |non =>
  cases ry
  cases x with
  |non=>cases rx;exact SeqAt.EqAt.same _
  |bl b=>cases rx;exact SeqAt.EqAt.none_bool b
  |int b=>obtain⟨t,rfl⟩:=rx;exact SeqAt.EqAt.none_int b t
  |str b=>obtain⟨t,rfl⟩:=rx;exact SeqAt.EqAt.none_str b t
  |_=>exact absurd (show false=true from fx) Bool.false_ne_true
 |bl a =>
  cases ry
  cases x with
  |non=>cases rx;exact SeqAt.EqAt.bool_none a
  |bl b=>cases rx;exact SeqAt.EqAt.bool_bool a b
  |int b=>obtain⟨t,rfl⟩:=rx;exact SeqAt.EqAt.bool_int a b t
  |str b=>obtain⟨t,rfl⟩:=rx;exact SeqAt.EqAt.bool_str a b t
  |_=>exact absurd (show false=true from fx) Bool.false_ne_true
 |int a =>
  obtain⟨t',rfl⟩:=ry
  cases x with
  |non=>cases rx;exact SeqAt.EqAt.int_none a t'
  |bl b=>cases rx;exact SeqAt.EqAt.int_bool a t' b
  |int b=>obtain⟨t,rfl⟩:=rx;exact SeqAt.EqAt.int_int a t' b t
  |str b=>obtain⟨t,rfl⟩:=rx;exact SeqAt.EqAt.int_str a t' b t
  |_=>exact absurd (show false=true from fx) Bool.false_ne_true
 |str a =>
  obtain⟨t',rfl⟩:=ry
  cases x with
  |non=>cases rx;exact SeqAt.EqAt.str_none a t'
  |bl b=>cases rx;exact SeqAt.EqAt.str_bool a t' b
  |int b=>obtain⟨t,rfl⟩:=rx;exact SeqAt.EqAt.str_int a t' b t
  |str b=>obtain⟨t,rfl⟩:=rx;exact SeqAt.EqAt.str_str a t' b t
  |_=>exact absurd (show false=true from fx) Bool.false_ne_true
 |_=>exact absurd (show false=true from fy) Bool.false_ne_true
noncomputable def ue(x:V)(u:Value):Bool:=match u with
 |.none=>lZ .non x
 |.bool b=>lZ (.bl b) x
 |.int i _=>lZ (.int i) x
 |.str z _=>lZ (.str z) x
 |_=>false
theorem jL{x y:V}{u:Value}(r:aP y u)(f:dW y=true):ue x u=lZ y x:=by
 cases y with
 |non=>cases r;rfl
 |bl b=>cases r;rfl
 |int i=>obtain⟨t,rfl⟩:=r;rfl
 |str z=>obtain⟨t,rfl⟩:=r;rfl
 |_=>exact absurd (show false=true from f) Bool.false_ne_true
theorem iZ{A:Around}{s:Shared}{x:V}{v:Value}(rx:aP x v)(fx:dW x=true):∀{xs:List V} {us:List Value},aG xs us->xs.all dW=true->∀u∈us,SeqAt.EqAt A s u v (ue x u)
 |_,_,.nil,_=>fun u hu=>by cases hu
 |y::xs,u::us,.cons r t,f=>fun u' hu=>by
  rw[List.all_cons,Bool.and_eq_true]at f
  rcases List.mem_cons.mp hu with rfl|hu
  ·rw[jL r f.1];exact rh r rx f.1 fx
  ·exact iZ rx fx t f.2 u' hu
def wf(K:Fg)(T:String)(x:V)(H:Hp):Prop:=match x with
 |.str _=>T="str"
 |.int _=>T="int"
 |.ref p=>(T="list"/\ ∃xs,dI K H p xs)\/(T="tuple"/\ ∃o,K.lookup p=some o/\o.cls= .type "tuple"/\o.dict=none) \/
   (T="dict"/\((∃kvs ep,H p=some (.dK kvs ep))\/ ∃kvs ep,H p=some (.dT kvs ep)))\/(T="set"/\ ∃S n,H p=some (.set S n))
 |_=>False
theorem m3{pins:List (Addr×Obj)}{σ :St}{H:Hp}{s:Shared}{T:String}{x:V}{v:Value}(I:aw X pins σ H s)(r:aP x v)(ty:wf X.K T x H) :
  s.TypeIs v T/\ ∀a,v= .ref a->∃ob,s.heap.get? a=some ob/\ob.dict=none:=by
 cases x with
 |str z =>
  obtain⟨t,rfl⟩:=r
  cases (show T="str" from ty)
  exact⟨typeIs_str s z t,fun _ e=>nomatch e⟩
 |int i =>
  obtain⟨t,rfl⟩:=r
  cases (show T="int" from ty)
  exact⟨typeIs_int s i t,fun _ e=>nomatch e⟩
 |ref p =>
  cases r
  rcases ty with⟨rfl,xs,hq⟩|⟨rfl,o,hk,hc,hd⟩|⟨rfl,hk⟩|⟨rfl,S,n,hk⟩
  ·obtain⟨its,_,pl,_⟩:=I.list hq
   refine⟨pl.isList.typeIs,fun a e=> ?_⟩
   cases e
   obtain⟨o,n,e,c,hd,_⟩:=pl
   exact⟨o,e,hd⟩
  ·refine⟨⟨o,I.kIn p o hk,hc⟩,fun a e=> ?_⟩
   cases e
   exact⟨o,I.kIn _ o hk,hd⟩
  ·have z:∃o,s.heap.get? p=some o/\o.ExactDict:=by
    rcases hk with⟨kvs,ep,hk⟩|⟨kvs,ep,hk⟩
    ·obtain⟨_,_,_,_,o,_,e,ex,_⟩:=I.hok p _ hk
     exact⟨o,e,ex⟩
    ·obtain⟨_,_,_,_,o,_,e,ex,_⟩:=I.hok p _ hk
     exact⟨o,e,ex⟩
   obtain⟨o,e,ex⟩:=z
   refine⟨⟨o,e,ex.1⟩,fun a e2=> ?_⟩
   cases e2
   exact⟨o,e,ex.2.1⟩
  ·obtain⟨o,_,_,_,e,ex,_⟩:=I.hok p _ hk
   refine⟨⟨o,e,ex.1⟩,fun a e2=> ?_⟩
   cases e2
   exact⟨o,e,ex.2.1⟩
 |_=>exact False.elim ty
def xv(K:Fg)(T:String)(r:V->List V->Hp->VK->Prop)(to:TE):TE:=fun σ H Q=>to σ H fun x H1=>wf K T x H1/\r x [] H1 Q
def AH(K:Fg)(T:String)(r:V->List V->Hp->VK->Prop)(to:TE)(t:TA):TE:=fun σ H Q=>to σ H fun x H1=>wf K T x H1/\t σ H1 fun xs H2=>r x xs H2 Q
variable{o e:Expr}{es:List Expr}{to:TE}{t:TA}{name:Str}{apos cpos:Pos}{T id:String}{r:V->List V->Hp->VK->Prop}
theorem m4(pa:PlainAttrs T)(slot:Slot T name id)(hty:typeOf (.builtin id)=pure (.type "method_descriptor"))(hm:xr X id r)(ho:PE X o to)
  (hbase:attributeBase o name X.env (eval o X.env)=eval o X.env:=by rfl) (hline:(apos.endLine == cpos.line)=true:=by rfl):PE X (.Call (.Attribute o name apos) [] [] cpos) (xv X.K T r to):=by
 intro pins s σ H Q I h
 refine wpAny_Call_method0_late hbase hline (bq (ho pins s σ H _ I h) fun v s1 ⟨x,H1,I1,r1,ty,q1⟩=> ?_)
 obtain⟨h1,h2⟩:=m3 I1 r1 ty
 exact⟨T,id,pa,slot,hty,h1,h2,Calls.callWith_builtin rfl (PySem.evalArgs_none (hm pins s1 σ H1 x [] v [] Q I1 r1 .nil q1))⟩
theorem uf(pa:PlainAttrs T)(slot:Slot T name id)(hty:typeOf (.builtin id)=pure (.type "method_descriptor"))(hm:xr X id r)(ho:PE X o to)(ha:PA X (e::es) t)
  (hbase:attributeBase o name X.env (eval o X.env)=eval o X.env:=by rfl)
  (hfew:((backTo cpos (starEach (e::es) X.env)).all (fun x=> !x.1) && (backToKw cpos (keywordEach [] X.env)).all (fun x=>x.1.isSome)
   && decide ((e::es).length+([]:List Keyword).length+(if ([]:List Keyword).isEmpty then 0 else 1)<30))=true:=by rfl)
  (hline:(apos.endLine == cpos.line)=true:=by rfl) (hs:starEach (e::es) X.env=.(Af)::starEach es X.env:=by rfl) (hplain:(backTo cpos (starEach es X.env)).any (·.1)=false:=by rfl) :
  PE X (.Call (.Attribute o name apos) (e::es) [] cpos) (AH X.K T r to t):=by
 intro pins s σ H Q I h
 refine wpAny_Call_method_late hbase hfew hline rfl (bq (ho pins s σ H _ I h) fun v s1 ⟨x,H1,I1,r1,ty,q1⟩=> ?_)
 obtain⟨h1,h2⟩:=m3 I1 r1 ty
 refine⟨T,id,pa,slot,hty,h1,h2,?_⟩
 have hA:=ha cpos pins s1 σ H1 _ I1 q1
 rw[hs]at hA ⊢
 refine Calls.callWith_builtin (by show(false || (backTo cpos (starEach es X.env)).any (·.1))=false;rw[hplain] <;> rfl) (Calls.evalArgs_plain ?_)
 exact bq hA fun us s2 ⟨vs,H2,I2,r2,q2⟩=>hm pins s2 σ H2 x vs v us Q I2 r1 r2 q2
end
def zR(X:Cx)(id:String)(r:V->List V->Hp->VK->Prop):Prop :=
 ∀(pins:List (Addr×Obj)) (s:Shared) (σ :St) (H:Hp) (x:V) (xs:List V) (v:Value) (us:List Value) (Q:VK),aw X pins σ H s->aP x v->aG xs us->r x xs H Q ->
  wpAny .(J) X.A (call (.builtin id) (v::us)) (EP X pins σ Q) X.xe s
theorem aG.one:∀{x:V} {us:List Value},aG [x] us->∃u,us=[u]/\aP x u
 |_,_,.cons r .nil=>⟨_,rfl,r⟩
theorem aG.zero:∀{us:List Value},aG [] us->us=[]
 |_,.nil=>rfl
theorem aG.rep{xs:List V}{us:List Value}(h:aG xs us):∀k:Nat,aG (List.replicate k xs).flatten (List.replicate k us).flatten
 |0=> .nil
 |k+1=>by
  rw[List.replicate_succ,List.replicate_succ,List.flatten_cons,List.flatten_cons]
  exact aG.append h (aG.rep h k)
theorem gY(its:List Value):∀(k:Nat) (acc:List Value),
  List.foldl (fun x1 x2=>x1++x2) acc.toArray (List.replicate k its.toArray)=(acc++(List.replicate k its).flatten).toArray
 |0,acc=>by simp
 |k+1,acc=>by
  have e:acc.toArray++its.toArray=(acc++its).toArray:=by simp
  have e2:(acc++its)++(List.replicate k its).flatten=acc++(List.replicate (k+1) its).flatten:=by
   rw[List.replicate_succ,List.flatten_cons,List.append_assoc]
  rw[<-e2,<-gY its k (acc++its),<-e,List.replicate_succ,List.foldl_cons]
section
variable{X:Cx}{pins:List (Addr×Obj)}{σ :St}{H:Hp}{s:Shared}{l b:Addr}{xs ys zs:List V}
theorem aw.lset{its its':List Value}{n:Nat}{f:Array Value->Array Value}{t':Nat}(I:aw X pins σ H s)(hH:H l=some (.lst xs))
  (e:s.heap.get? l=some { cls:= .type "list",data:= .seq its.toArray n }) (hf:f its.toArray=its'.toArray) (hv:aG ys its') (hz:ys.length<=sizeLine) :
  aw X pins σ (upd H l (.lst ys)) { s with heap:=s.heap.update l (Obj.mapSeq f),toks:=t' }:=by
 have q:=PySem.IsL.update e f
 rw[hf]at q
 refine I.write (x:=l) (e:=l) (by rw[hH];exact trivial) (.inl rfl) (fun b' u hb hu=>(Heap.get?_update_other s.heap (Obj.mapSeq f) (Ne.symm hb)).trans hu) ⟨_,q⟩ ?_
 exact⟨hz,its',_,hv,q⟩
theorem aw.lnew{its:List Value}{t':Nat}(I:aw X pins σ H s)(hv:aG ys its)(hz:ys.length<=sizeLine) :
  aw X pins σ (upd H s.heap.objs.size (.lst ys)) { s with heap:=s.heap.push { cls:= .type "list",data:= .seq its.toArray },toks:=t' } :=
 I.laid (fun _ _ q=>Heap.get?_push_of_some _ q) .(AD) ⟨hz,its,0,hv,Heap.get?_push_size _ rfl⟩
theorem aw.fresh(I:aw X pins σ H s):H s.heap.objs.size=none:=I.hok.fresh .(AD)
theorem aw.lstM(I:aw X pins σ H s)(hH:H l=some (.lst xs)):xs.length<=sizeLine/\ ∃(its:List Value) (n:Nat),aG xs its/\xs.length=its.length/\s.heap.get? l=some { cls:= .type "list",data:= .seq its.toArray n }:=by
 obtain⟨z,its,n,r,e⟩:=I.hok l _ hH
 exact⟨z,its,n,r,r.length,e⟩
theorem m5{n:Nat}(h:n<=sizeLine):Builtin.List.listTooLong n=false:=by
 unfold Builtin.List.listTooLong
 exact decide_eq_false (by omega)
end
section
variable{X:Cx}
def oY:V->List V->Hp->VK->Prop:=fun x vs H Q=>∃l xs y,x= .ref l/\vs=[y]/\H l=some (.lst xs)/\xs.length<sizeLine/\Q .non (upd H l (.lst (xs++[y])))
theorem gZ:zR X "list.append" oY:=by
 intro pins s σ H x vs v us Q I rx rv h
 obtain⟨l,xs,y,rfl,rfl,hH,hz,q⟩:=h
 cases rx
 obtain⟨u,rfl,ru⟩:=rv.one
 obtain⟨z,its,n,r,hl,e⟩:=I.lstM hH
 refine call_meets F.slot_list_append ⟨_,e,rfl⟩ F.entry_list_append (F.args_list_append_2 _ _) (PySem.list_append l its.toArray n u (by rw[List.size_toArray];omega)) ⟨e,?_⟩
 refine⟨.non,_,I.lset (its':=its++[u]) hH e (by simp) (r.append (.cons ru .nil)) ?_,rfl,q⟩
 rw[List.length_append,List.length_singleton]
 omega
def ri:V->List V->Hp->VK->Prop:=fun x vs H Q=>∃l xs,x= .ref l/\vs=[]/\H l=some (.lst xs)/\Q .non (upd H l (.lst []))
theorem j4:zR X "list.clear" ri:=by
 intro pins s σ H x vs v us Q I rx rv h
 obtain⟨l,xs,rfl,rfl,hH,q⟩:=h
 cases rx
 have hus:=rv.zero
 subst hus
 obtain⟨z,its,n,r,hl,e⟩:=I.lstM hH
 refine call_meets F.slot_list_clear ⟨_,e,rfl⟩ F.entry_list_clear (F.args_list_clear_1 _) (AutoSeq1.list_clear_list_0 l its.toArray n (by rw[List.size_toArray];omega)) ⟨e,?_⟩
 exact⟨.non,_,I.lset (its':=[]) (ys:=[]) hH e rfl .nil (Nat.zero_le _),rfl,q⟩
def xw:R2:=fun x y H Q=>∃l k xs,x= .ref l/\y= .int k/\H l=some (.lst xs)/\ -(2 ^ 63)<=k/\k<2 ^ 63/\xs.length*k.toNat<=sizeLine /\
 ∀p,H p=none->Q (.ref p) (upd H p (.lst (List.replicate k.toNat xs).flatten))
theorem oZ{α :Type}(xs:List α)(k:Nat):(List.replicate k xs).flatten.length=k*xs.length:=by
 induction k with
 |zero=>simp
 |succ k ih=>rw[List.replicate_succ,List.flatten_cons,List.length_append,ih,Nat.succ_mul,Nat.add_comm]
theorem rj:fZ X (binaryOp .Mult) xw:=by
 intro pins s σ H x y v u Q I rx ry h
 obtain⟨l,k,xs,rfl,rfl,hH,h1,h2,hz,q⟩:=h
 cases rx
 obtain⟨t,rfl⟩:=ry
 obtain⟨z,its,n,r,hl,e⟩:=I.lstM hH
 have hlen:its.toArray.size*k.toNat<=sizeLine:=by rw[List.size_toArray,<-hl];exact hz
 have hcap:¬its.toArray.size*k.toNat>(2 ^ 63-1) / 8:=by
  have:(sizeLine:Nat)<=(2 ^ 63-1) / 8:=by decide
  omega
 have hfit:¬(!Builtin.List.listFitsIndex k)=true:=by
  rw[fitsIndex_both h1 h2]
  exact Bool.false_ne_true
 have hlong:¬Builtin.List.listTooLong (its.toArray.size*k.toNat)=true:=by
  rw[m5 hlen]
  exact Bool.false_ne_true
 have hnew:List.foldl (fun x1 x2=>x1++x2) #[] (List.replicate (if its.toArray.isEmpty=true then 0 else k.toNat) its.toArray)=(List.replicate k.toNat its).flatten.toArray:=by
  have f0:∀m:Nat,List.foldl (fun x1 x2=>x1++x2) #[] (List.replicate m its.toArray)=(List.replicate m its).flatten.toArray:=fun m=>by
   have:=gY its m []
   rw[List.nil_append]at this
   exact this
  rw[f0]
  cases its with
  |nil=>simp
  |cons a r'=>rw[if_neg (by simp)]
 refine wpAny_binaryOp_repeat_ref (T:="list") (U:="int") (by decide) ⟨_,e,rfl⟩ (fun s'=>typeIs_int s' k t) noFill_list_mul F.fills_int_mul F.slot_int_rmul repeat_list F.slot_int_index.lookup
  (call_meets F.slot_int_rmul (typeIs_int s k t) F.entry_int_rmul (F.args_int_rmul_2 _ _) (int___rmul___int_list k t l its.toArray n)
   ⟨e,rfl,⟨_,e,rfl⟩,call_meets F.slot_list_mul ⟨_,e,rfl⟩ F.entry_list_mul (F.args_list_mul_2 _ _) (AutoListH.list___mul___list_int_3 l its.toArray n k t hfit hcap hlong) ⟨e,?_⟩⟩)
 rw[hnew]
 exact⟨.ref _,_,I.lnew (t':=s.toks) (r.rep k.toNat) (by rw[oZ,Nat.mul_comm];exact hz),rfl,q _ I.fresh⟩
end
section
variable{prog:Program}{w:World}{A:Around}{E:Value->Shared->Prop}{s:Shared}
end
section
variable{X:Cx}
end
end L2
namespace Att
open PySem PySem.W PySem.Calls PyProof.Rows
theorem fL{P:Params}{h:Heap}:∀(ns:List Int) (vs:List Value),WellAll P h vs (ns.map WData.int)->IntsAre vs ns:=by
 intro ns
 induction ns with
 |nil =>
  intro vs w
  rw[List.map_nil]at w
  cases w
  exact .nil
 |cons n ns ih =>
  intro vs w
  rw[List.map_cons]at w
  cases w with
  |cons a b =>
   cases a
   exact .cons _ _ (ih _ b)
theorem lc{l:OpenLaw}{n:Nat}(hn:l.most=some n){P:Params}{h:Heap}{args:List WData}{vals:List Value}
  (hpre:l.row.toRowW.claim.pre args=true) (hwl:WellAll P h vals args) :
  ∃a vs ns,vals=[Value.ref a]/\args=[WData.list (ns.map WData.int)]/\h.get? a=some { cls:= .type "list",data:= .seq vs.toArray }/\IntsAre vs ns/\ns.length<=n:=by
 have hsh:WShape.hasAll [] args [.list .int]=true:=(pre_splitW hpre).1
 have hc:l.pre.holds [] { args:=args }=true:=(pre_splitW hpre).2
 obtain⟨d,r,rfl,h1,h2⟩:=hasAllW_cons hsh
 obtain rfl:=hasAllW_nil h2
 obtain⟨xs,rfl,h3⟩:=hasW_list h1
 obtain⟨ns,rfl⟩:=items_int h3
 have hlen:ns.length<=n:=by
  unfold OpenLaw.pre at hc
  have h4:(WTm.not (.lt (.lit (.int (n:Int))) (.len (.arg 0)))).holds [] { args:=[.list (ns.map .int)] }=true:=by
   have h4:=(holds_andW hc).1
   rw[hn]at h4
   exact h4
  have h5:=condW_of h4 (w_not (w_lt w_lit (w_len_list (w_arg rfl))))
  rw[List.length_map]at h5
  refine Nat.le_of_not_lt fun q=> ?_
  have q':(n:Int)<((ns.length:Nat):Int):=by omega
  first
   | (rw[decide_eq_true q']at h5;exact absurd h5 (by decide))
   | (simp at h5;omega)
 cases hwl with
 |cons w1 w2 =>
  cases w2
  cases w1 with
  |list ho hall=>exact⟨_,_,ns,rfl,rfl,ho,fL ns _ hall,hlen⟩
theorem le(l:OpenLaw)(args:List WData):l.row.toRowW.claim.post args (.bool true) args=true :=
 postW_of (r:=l.row.toRowW) (X:=(true == true))
  (show WShape.has [] (.bool true) .bool=true by first|rfl|decide|simp[WShape.has,WShape.arms,WShape.armsAll])
  (show(WTm.eq .res (.lit (.bool true))).value [] { args:=args,res:=some (.bool true),after:=args }=some (.bool (true == true)) from w_eq_bool (w_res rfl) w_lit) rfl
theorem attach_call{l:OpenLaw}{n:Nat}{q:Program}{loose:List Str}{XP:(Str->Option Value)->Heap->Prop}{YP:World->Heap->Prop}{d:DefRec}
  (hn:l.most=some n) (hdf:d.params.defaults=[])
  (call:∀(w:World) (s₀ s₁:Shared) (mg mb:Str->Option Value) (fa:Addr) (o:Obj) (pm cd doc:Value) (a:Addr) (vs:List Value) (ns:List Int),
   Ground q loose [] XP w s₀ mg mb s₁.heap->YP w s₁.heap ->
   s₁.heap.get? fa=some o->o.data= .func (docDef d.name d.params d.body d.scope pm cd doc)->s₁.heap.CodeRec cd d.name->mg d.name=some (.ref fa) ->
   s₁.heap.get? a=some { cls:= .type "list",data:= .seq vs.toArray }->IntsAre vs ns->ns.length<=n->s₁.gens= #[] ->
   codeAny (model l.prog w) callerA (.call (.ref fa) ⟨[.ref a],[]⟩) (fun r s'=>r= .ok (.ret (.bool true))/\OldK s₁.heap s'.heap/\s'.os=s₁.os/\AllBare s'.gens) s₁) :
  WalkO q loose XP YP l.row.toRowW d [] (fun f vs=>PySem.call f vs):=by
 intro w s₀ s₁ mg mb G Y fa o pm cd doc dV kV ho hd hcd hD hmg hg args vals as hpre hlay hrd hwl hlo
 obtain rfl:dV= .none:=Dflts.none hD hdf
 obtain rfl:kV= .none:=Dflts.noKw hD
 obtain⟨a,vs,ns,rfl,rfl,hobj,hints,hlen⟩:=lc hn hpre hwl
 refine enter_call (codeAny_mono (call w s₀ s₁ mg mb fa o pm cd doc a vs ns G Y ho (fd_plain hd) hcd hmg hobj hints hlen hg) fun r s' hq=> ?_)
 obtain⟨rfl,h2,h3,h4⟩:=hq
 exact⟨.inl ⟨.bool true,.bool true,[],rfl,fun _=>rfl,.bool true,le l _,fun _=>⟨List.Pairwise.nil,fun _ hm=>(nomatch hm)⟩⟩,h2,h3,h4⟩
section
variable{prog:Program}{w:World}{A:Around}{E:Value->Shared->Prop}{s:Shared}{K:Frag}
end
end Att
namespace L2
open PySem PySem.Spec PyProof.Rows
theorem h7:∀{vs:List Value} {ns:List Int},IntsAre vs ns->aG (ns.map V.int) vs
 |_,_,.nil=> .nil
 |_,_,.cons n t h=> .cons ⟨t,rfl⟩ (h7 h)
def m8(H:Hp):Prop:=∀b,H b=none\/(∃o xs,H b=some (.frz o (.lst xs)))\/H b=some (.tbl 0)
theorem ug:TriplesOk []:=by first|trivial|constructor|simp[TriplesOk]
theorem rk(pos:Pos):codeAmong pos []=none:=by first|rfl|simp[codeAmong]
theorem rn{h₀ h:Heap}(k:∀b o,h₀.get? b=some o->h.get? b=some o\/(isCodeTable h₀ b/\o=PySem.W.tabObj #[]/\ ∃ps,h.get? b=some (PySem.W.tabObj ps))):OldK h₀ h :=
 ⟨fun b o e=>by
  rcases k b o e with z|⟨ht,rfl,ps,hP⟩
  ·exact .inl z
  ·exact .inr (.inl ⟨ht,rfl, #[],ps,rfl,by rw[Array.empty_append];exact hP⟩),fun b o e=>by
  rcases k b o e with z|⟨_,_,ps,hP⟩
  ·exact⟨o,z⟩
  ·exact⟨_,hP⟩⟩
open Classical in
noncomputable def kn(ts:List Addr)(H:Hp):Hp:=fun b=>if b∈ts then some (.tbl 0) else H b
theorem cQ{ts:List Addr}{H:Hp}{b:Addr}(h:b∈ts):kn ts H b=some (.tbl 0):=if_pos h
theorem bC{ts:List Addr}{H:Hp}{b:Addr}(h:b∉ts):kn ts H b=H b:=if_neg h
theorem m9{P:Program}{w:World}{K:Fg}{mg mb:Str->Option Value}{CX:gS}{k:Nat}{fa a:Addr}{fd:FuncData}{x:Str}{sp:Sp}{s₁:Shared}{vs:List Value}{ns:List Int}
  (KX:K.In s₁.heap) (hns:s₁.heap.Ns mainGlobals mg) (hb:s₁.heap.Ns builtinsNs mb) (hbb:∀x:Str,x ≠ "__name__"->mb x=bootBuiltins x) (hlim:s₁.heap.NoLimit) (hbm:∃bm ob,mg "__builtins__"=some (.ref bm)/\bm≠builtinsNs/\s₁.heap.get? bm=some ob/\ob.cls= .type "module"/\ob.dict=some builtinsNs/\ob.data= .plain) (hg:s₁.gens= #[])
  (ha:s₁.heap.get? a=some { cls:= .type "list",data:= .seq vs.toArray }) (hi:IntsAre vs ns) (hl:ns.length<=sizeLine) (hr:bf k callerA)
  {ts:List Addr} (hts:∀P∈ts,s₁.heap.get? P=some (PySem.W.tabObj #[])/\isCodeTable s₁.heap P/\K.lookup P=none)
  (F:∀base:Bs,K.In base->base.Ns mainGlobals mg->base.tabs=ts->bM P w K mg base CX k fa fd [x] sp) (hbind:∀(s:Shared) (u:Value),BindsTo s fd ⟨[u],[]⟩ [(x,u)])
  (hsp:∀H:Hp,m8 H->dI K H a (ns.map V.int)->sp [.ref a] H (fun v _=>v= .bl true) fun _ _ _=>False)
  (hCX:∀H e s',CX [] H s₁ (fun _ _ _=>False) e s'->False) :
  codeAny (model P w) callerA (.call (.ref fa) ⟨[.ref a],[]⟩) (fun r s'=>r= .ok (.ret (.bool true))/\OldK s₁.heap s'.heap/\s'.os=s₁.os/\AllBare s'.gens) s₁:=by
 have rv:=h7 hi
 have lenV:=hi.length
 -- from an abstract heap in which nothing but the script may be tracked
 have core:∀H:Hp,m8 H->dI K H a (ns.map V.int)->fE P w H s₁.heap->(∀b,H b≠none->b=a\/b∈ts)->(H a≠none->K.lookup a=none)->(∀P∈ts,H P=some (.tbl 0)) ->
   codeAny (model P w) callerA (.call (.ref fa) ⟨[.ref a],[]⟩) (fun r s'=>r= .ok (.ret (.bool true))/\OldK s₁.heap s'.heap/\s'.os=s₁.os/\AllBare s'.gens) s₁:=by
  intro H hO hS hok hA hK hTb
  have base_of:∀{b:Addr} {o:Obj},s₁.heap.get? b=some o->H b=none->(gD s₁.heap H).get? b=some o:=fun e n=>lN e n
  have noA:∀{b:Addr} {o:Obj} {es:Array DictEntry} {ep:Nat},s₁.heap.get? b=some o->o.data= .dict es ep->H b=none:=fun {b o es ep} e d=>by
   cases q:H b with
   |none=>rfl
   |some u =>
    rcases hA b (by rw[q];simp)with e'|e'
    case inr=>rw[(hts b e').1]at e;cases e;cases d
    subst e'
    rw[ha]at e;cases e
    have d':Data.seq vs.toArray _=Data.dict es ep:=d
    cases d'
  have nsK:∀{b:Addr} {m:Str->Option Value},s₁.heap.Ns b m->(gD s₁.heap H).Ns b m:=fun {b m} ⟨o,es,ep,e,d,r⟩=>⟨o,es,ep,base_of e (noA e d),d,r⟩
  have hKb:K.In (gD s₁.heap H):=fun b o e=>base_of (KX b o e) (by
   cases q:H b with
   |none=>rfl
   |some u =>
    rcases hA b (by rw[q];simp)with e'|e'
    case inr=>rw[(hts b e').2.2]at e;cases e
    subst e'
    rw[hK (by rw[q];simp)]at e;cases e)
  have hM:Mod K mg (⟨gD s₁.heap H,ts⟩:Bs):=⟨hKb,nsK hns,⟨mb,nsK hb,hbb⟩,let ⟨mc,h1,h2⟩:=hlim;⟨mc,nsK h1,h2⟩,let ⟨bm,ob,a1,a2,a3,a4,a5,a6⟩:=hbm;⟨bm,ob,a1,a2,base_of a3 (by
   cases q:H bm with
   |none=>rfl
   |some u =>
    rcases hA bm (by rw[q];simp)with e'|e'
    ·rw[e',ha]at a3;cases a3;exact absurd a6 (by simp)
    ·rw[(hts bm e').1]at a3;cases a3;exact absurd a6 (by simp)),a4,a5,a6⟩⟩
  have e0:jH P w K mg (⟨gD s₁.heap H,ts⟩:Bs) callerA [] s₁ H:=⟨rfl,hM,fun b o e=>ou e,Nat.le_of_eq (l0 _ _),trivial,fun b hb=>absurd (show b∈([]:List Addr) from hb) (by simp),hok,.of_eq hg,hTb⟩
  refine codeAny_mono ((F ⟨gD s₁.heap H,ts⟩ hKb (nsK hns) rfl).run callerA [] s₁ H ⟨[.ref a],[]⟩ [.ref a] [.ref a] _ _ hr e0 (hbind s₁ (.ref a)) (.cons rfl .nil) (hsp H hO hS)) fun r s' h=> ?_
  cases r with
  |error e=>exact(hCX H e s' h).elim
  |ok fl =>
   cases fl with
   |next=>exact False.elim h
   |brk=>exact False.elim h
   |cont=>exact False.elim h
   |ret u =>
    obtain⟨v,H',os,bare,un,hok',r',q⟩:=h
    have q':v= .bl true:=q
    subst q'
    obtain rfl:u=Value.bool true:=r'
    refine⟨rfl,rn fun b o e=> ?_,os,bare⟩
    cases q:H b with
    |none=>exact .inl (un.keep b o e q (by intro z;exact absurd (show b∈([]:List Addr) from z) (by simp)) (by simp))
    |some u =>
     rcases hO b with z|⟨ob,xs,z⟩|z
     case inr.inr =>
      rcases hA b (by rw[q];simp)with e'|e'
      case inl =>
       subst e'
       obtain⟨ps,e1,_⟩:=hok _ _ z
       rw[ha]at e1;cases e1
      obtain⟨ps,e2,_⟩:=hok' b _ (un.tbls b 0 z)
      rw[(hts b e').1]at e;cases e
      exact .inr ⟨(hts b e').2.1,rfl,ps,e2⟩
     ·rw[q]at z;cases z
     ·have z2:=un.frzs b ob _ z
      obtain⟨e1,_⟩:=hok b _ z
      obtain⟨e2,_⟩:=hok' b _ z2
      rw[e]at e1;cases e1
      exact .inl e2
 have haT:a∉ts:=fun z=>by have:=(hts a z).1;rw[ha]at this;cases this
 have okT:∀b∈ts,∀H:Hp,bF P w H s₁.heap b (.tbl 0):=fun b hb H=>⟨#[],(hts b hb).1,ug,fun pos cv z=>by rw[show(#[]:Array Value).toList=[] from rfl,rk]at z;cases z⟩
 cases hk:K.lookup a with
 |some o =>
  have e:=KX a o hk
  rw[ha]at e
  cases e
  refine core (kn ts fun _=>none) (fun b=> ?_) (.inr ⟨_,vs.toArray,_,hk,rfl,rfl,rfl,by rw[List.size_toArray,lenV];exact hl,by simpa using rv⟩) (fun b u z=> ?_) (fun b z=> ?_) (fun z=> ?_) fun P hP=>cQ hP
  ·by_cases hb:b∈ts
   ·exact .inr (.inr (cQ hb))
   ·exact .inl (bC hb)
  ·by_cases hb:b∈ts
   ·rw[cQ hb]at z;cases z;exact okT b hb _
   ·rw[bC hb]at z;cases z
  ·by_cases hb:b∈ts
   ·exact .inr hb
   ·exact absurd (bC hb) z
  ·exact absurd (bC haT) z
 |none =>
  refine core (kn ts fun b=>if b=a then some (.frz { cls:= .type "list",data:= .seq vs.toArray } (.lst (ns.map V.int))) else none) (fun b=> ?_) (.inl (.inr ⟨{ cls:= .type "list",data:= .seq vs.toArray },by rw[bC haT];exact if_pos rfl⟩)) (fun b u z=> ?_) (fun b z=> ?_) (fun _=>hk) fun P hP=>cQ hP
  ·by_cases hb:b∈ts
   ·exact .inr (.inr (cQ hb))
   ·rw[bC hb]
    by_cases hb:b=a
    ·exact .inr (.inl ⟨_,_,if_pos hb⟩)
    ·exact .inl (if_neg hb)
  ·by_cases hT:b∈ts
   ·rw[cQ hT]at z;cases z;exact okT b hT _
   ·rw[bC hT]at z
    by_cases hb:b=a
    ·have z':=(if_pos hb).symm.trans z
     cases z'
     subst hb
     exact⟨ha,by rw[List.length_map];exact hl,vs,_,rv,ha⟩
    ·have z':=(if_neg hb).symm.trans z
     cases z'
  ·by_cases hT:b∈ts
   ·exact .inr hT
   ·rw[bC hT]at z
    by_cases hb:b=a
    ·exact .inl hb
    ·exact absurd (if_neg hb) z
theorem p5{l:PySem.W.OpenLaw}{n k:Nat}{q:Program}{loose:List Str}{XP:(Str->Option Value)->Heap->Prop}{YP:World->Heap->Prop}{d:DefRec}{K:Params->Fg}{CX:World->gS}{sp:World->Sp}{x:Str}
  (hn:l.most=some n) (hn2:n<=sizeLine) (hdf:d.params.defaults=[]) (hr:bf k callerA)
  (hY:∀(w:World) (h:Heap),YP w h->(K w.params).In h) {ts:List Addr} (hts:∀(w:World) (h:Heap),YP w h->∀P∈ts,h.get? P=some (PySem.W.tabObj #[])/\isCodeTable h P/\(K w.params).lookup P=none)
  (F:∀(w:World) (mg:Str->Option Value) (fa:Addr) (h:Heap),(K w.params).In h->h.Ns mainGlobals mg->mg d.name=some (.ref fa) ->
   ∃fd:FuncData,(∀(s:Shared) (u:Value),BindsTo s fd ⟨[u],[]⟩ [(x,u)]) /\
    ∀base:Bs,(K w.params).In base->base.Ns mainGlobals mg->base.tabs=ts->bM l.prog w (K w.params) mg base (CX w) k fa fd [x] (sp w))
  (hsp:∀(w:World) (H:Hp) (a:Addr) (ns:List Int),ns.length<=n->m8 H->dI (K w.params) H a (ns.map V.int)->sp w [.ref a] H (fun v _=>v= .bl true) fun _ _ _=>False)
  (hCX:∀(w:World) (H:Hp) (s:Shared) (e:Value) (s':Shared),CX w [] H s (fun _ _ _=>False) e s'->False) :
  PySem.W.WalkO q loose XP YP l.row.toRowW d [] (fun f vs=>PySem.call f vs):=by
 refine Att.attach_call hn hdf fun w s₀ s₁ mg mb fa o pm cd doc a vs ns G Y ho hd hcd hmg hobj hints hlen hg=> ?_
 have KX:=hY w _ Y
 obtain⟨fd,hb,hF⟩:=F w mg fa _ KX G.T.g hmg
 exact m9 KX G.T.g G.T.b G.T.builtins G.T.nolimit G.T.bmain hg hobj hints (Nat.le_trans hlen hn2) hr (hts w _ Y) hF hb (fun H hO hS=>hsp w H a ns hlen hO hS) fun H e s'=>hCX w H s₁ e s'
theorem uh{l:PySem.W.OpenLaw}{n k:Nat}{q:Program}{loose:List Str}{XP:(Str->Option Value)->Heap->Prop}{YP:World->Heap->Prop}{d:DefRec}{K:Params->Fg}{CX:gS}{sp:Fg->Sp}{x:Str}
  (hn:l.most=some n) (hn2:n<=sizeLine) (hdf:d.params.defaults=[]) (hr:bf k callerA)
  (hY:∀(w:World) (h:Heap),YP w h->(K w.params).In h) {ts:List Addr} (hts:∀(w:World) (h:Heap),YP w h->∀P∈ts,h.get? P=some (PySem.W.tabObj #[])/\isCodeTable h P/\(K w.params).lookup P=none)
  (F:∀(w:World) (mg:Str->Option Value) (fa:Addr) (h:Heap),(K w.params).In h->h.Ns mainGlobals mg->mg d.name=some (.ref fa) ->
   ∃fd:FuncData,(∀(s:Shared) (u:Value),BindsTo s fd ⟨[u],[]⟩ [(x,u)]) /\
    ∀base:Bs,(K w.params).In base->base.Ns mainGlobals mg->base.tabs=ts->bM l.prog w (K w.params) mg base CX k fa fd [x] (sp (K w.params)))
  (hsp:∀(K:Fg) (H:Hp) (a:Addr) (ns:List Int),ns.length<=n->m8 H->dI K H a (ns.map V.int)->sp K [.ref a] H (fun v _=>v= .bl true) fun _ _ _=>False)
  (hCX:∀(H:Hp) (s:Shared) (e:Value) (s':Shared),CX [] H s (fun _ _ _=>False) e s'->False) :
  PySem.W.WalkO q loose XP YP l.row.toRowW d [] (fun f vs=>PySem.call f vs) :=
 p5 (K:=K) (CX:=fun _=>CX) (sp:=fun w=>sp (K w.params)) hn hn2 hdf hr hY hts F (fun w H a ns h1 h2 h3=>hsp (K w.params) H a ns h1 h2 h3) fun _ H s e s'=>hCX H s e s'
noncomputable def aR(s:Stmt)(j:Nat):Stmt:=match s with
 |.ClassDef _ _ _ body _ _ _ _ _ _ _=>body.getD j (.Pass ⟨0,0,0,0⟩)
 |_=> .Pass ⟨0,0,0,0⟩
noncomputable def dJ(s:Stmt):Arguments:=match s with
 |.FunctionDef _ a _ _ _ _ _ _ _ _=>a
 |_=>{ posonlyargs:=[],args:=[],vararg:=none,kwonlyargs:=[],kw_defaults:=[],kwarg:=none,defaults:=[] }
def bw(s:Stmt):List Stmt:=match s with
 |.FunctionDef _ _ b _ _ _ _ _ _ _=>b
 |_=>[]
noncomputable def ag(s:Stmt):Scope:=match s with
 |.FunctionDef _ _ _ _ _ _ sc _ _ _=>sc
 |_=>{ kind:= .function,names:=[],isGenerator:=false,isCoroutine:=false }
abbrev fS:gS:=fun _ _ _ _ _ _=>False
abbrev E0:XK:=fun _ _ _=>False
theorem j5{X:Cx}:dz fS X E0:=fun _ _ _ _ _ _ _ h=>h.elim
structure fM(K:Fg)(x qual:Str)(st:Stmt)(f:Addr)(fd:FuncData):Prop where
 ex:∃(oc:Value) (od:Option Addr) (kV doc pm:Value) (an:Option Addr) (cdv ct:Value) (osl:Array (Option Value)),
  fd=PySem.W.fnOf x qual (dJ st) (bw st) (ag st) .none kV doc pm an cdv ct/\K.lookup f=some ⟨oc,od,.func fd,osl⟩/\PySem.W.codeIn K cdv qual=true
 kp:PySem.W.keepIn K (.ref f)=true
section
variable{P:Program}{w:World}{K:Fg}{mg:Str->Option Value}{base:Bs}
theorem fM.ok{x qual:Str}{st:Stmt}{f:Addr}{fd:FuncData}{N ps:List Str}{k:Nat}{sp:Sp}(F:fM K x qual st f fd)(S:aj N ps (ag st))(len:∀vs H Q E,sp vs H Q E->vs.length=ps.length)
  (hbody:∀(cdv:Value) (A:Around) (outer:List Env) (s:Shared) (H:Hp) (vs:List V) (Q:VK) (E:XK),bf k (A.deeper (envOfC qual (ag st) s.heap.objs.size f cdv))->sp vs H Q E ->
   ∃t,jx (io fS P w K mg base N qual (ag st) f cdv A outer s H E).nox (bw st) t/\t { nx:=fun _ H'=>Q .non H',rt:=Q } (fH N vs) H):bM P w K mg base fS (k+1) f fd ps sp:=by
 obtain⟨oc,od,kV,doc,pm,an,cdv,ct,osl,rfl,lk,hcd⟩:=F.ex
 refine u8 lk hcd S len fun A outer s H vs Q E hr hsp=> ?_
 obtain⟨t,h,q⟩:=hbody cdv A outer s H vs Q E hr hsp
 exact⟨t,h.nox,q⟩
theorem fM.binds{x qual:Str}{st:Stmt}{f:Addr}{fd:FuncData}{ps:List Str}(F:fM K x qual st f fd)
  (h:∀(kV doc pm:Value) (an:Option Addr) (cdv ct:Value) (us:List Value),us.length=ps.length->bindArgs (PySem.W.fnOf x qual (dJ st) (bw st) (ag st) .none kV doc pm an cdv ct) ⟨us,[]⟩=pure (ps.zip us)):bj K fd ps []:=by
 obtain⟨oc,od,kV,doc,pm,an,cdv,ct,osl,rfl,lk,hcd⟩:=F.ex
 exact .all (h kV doc pm an cdv ct)
theorem ro{x qual:Str}{st:Stmt}{f:Addr}{oc:Value}{od an:Option Addr}{osl:Array (Option Value)}{kV doc pm cdv ct:Value}(l:K.lookup f=some ⟨oc,od,.func (PySem.W.fnOf x qual (dJ st) (bw st) (ag st) .none kV doc pm an cdv ct),osl⟩)
  (c:PySem.W.codeIn K cdv qual=true) (k:PySem.W.keepIn K (.ref f)=true):fM K x qual st f (PySem.W.fnOf x qual (dJ st) (bw st) (ag st) .none kV doc pm an cdv ct):=⟨⟨oc,od,kV,doc,pm,an,cdv,ct,osl,rfl,l,c⟩,k⟩
end
theorem h8{n:Nat}(h:n<=1000):n<sizeLine:=Nat.lt_of_le_of_lt h (by decide)
section
variable{X:Cx}
end
theorem jM{A B:Prop}(h:B):if false=true then A else B:=by
 rw[if_neg Bool.false_ne_true]
 exact h
theorem iteT{A B:Prop}(h:A):if true=true then A else B:=by
 rw[if_pos rfl]
 exact h
def Same(H H':Hp):Prop:=∀b o,H b=some o->H' b=some o
theorem Same.refl(H:Hp):Same H H:=fun _ _ h=>h
theorem Same.trans{H H1 H2:Hp}(a:Same H H1)(b:Same H1 H2):Same H H2:=fun c o h=>b c o (a c o h)
theorem Same.free{H H':Hp}(e:Same H H'){l:Addr}(h:H' l=Option.none):H l=Option.none:=by
 cases q:H l with
 |none=>rfl
 |some o =>
  rw[e l o q]at h
  cases h
theorem Same.seq{K:Fg}{H H':Hp}{a:Addr}{xs:List V}(e:Same H H')(h:dI K H a xs):dI K H' a xs:=by
 rcases h with(h|⟨o,h⟩)|h
 ·exact .inl (.inl (e _ _ h))
 ·exact .inl (.inr ⟨o,e _ _ h⟩)
 ·exact .inr h
section
variable{κ :Type}[DecidableEq κ]
end
section
variable{P:Program}{w:World}{H:Hp}{h:Heap}{a:Addr}
end
section
variable{X:Cx}{pins:List (Addr×Obj)}{σ :St}{H:Hp}{s:Shared}{a:Addr}{y v:V}{u r:Value}{o:Option V}{A:Around}{E:Value->Shared->Prop}
end
section
variable{X:Cx}{pins:List (Addr×Obj)}{σ :St}{H:Hp}{s:Shared}{a:Addr}{kvs:List (Key×V)}{k:Key}{u:Value}{A:Around}{E:Value->Shared->Prop}
end
section
variable{X:Cx}{o i e value:Expr}{pos pos' tpos:Pos}{td ty tv:TE}
end
section
variable{X:Cx}{pos:Pos}
end
section
variable{X:Cx}{pins:List (Addr×Obj)}{σ :St}{H:Hp}{s:Shared}{a:Addr}{y d:V}{u r:Value}{o:Option V}{A:Around}{E:Value->Shared->Prop}
end
section
variable{X:Cx}{o e f:Expr}{apos cpos:Pos}{td ty tx:TE}
end
section
variable{X:Cx}{pins:List (Addr×Obj)}{σ :St}{H:Hp}{s:Shared}{a:Addr}{kvs:List (Key×V)}{A:Around}{E:Value->Shared->Prop}
end
section
variable{X:Cx}{pins:List (Addr×Obj)}{σ :St}{H:Hp}{s:Shared}{a:Addr}{y:V}{u:Value}{A:Around}{E:Value->Shared->Prop}
end
section
variable{X:Cx}
end
section
variable{κ :Type}[DecidableEq κ]
end
structure iu(P:Program)(w:World)(K:Fg)(mg:Str->Option Value)(base:Bs)(CX:gS)(k:Nat)(C:Addr)(m:Str)(sp:Sp):Prop where
 cl:iQ K C
 ex:∃(f:Addr) (fd:FuncData) (ps:List Str),eJ K C m f/\bM P w K mg base CX k f fd ps sp/\bj K fd ps []
section
variable{X:Cx}{CX:gS}{k:Nat}{E:XK}{m:Str}{pos apos:Pos}{e o:Expr}{es:List Expr}{ta:TE}{t:TA}
def jN{ι :Type}(R: ι ->Addr)(m:Str)(sp: ι ->Sp)(E:XK)(ta:TE)(t:TA):TE:=fun σ H Q=>ta σ H fun x H1=>∃i a dx fs,x= .ref a/\H1 a=some (.ins (R i) dx fs)/\fs.lookup m=none /\
 t σ H1 fun vs H2=>sp i (x::vs) H2 Q E
theorem ma{ι :Type}{R: ι ->Addr}{sp: ι ->Sp}{pl:Sem Bool}(he:PE X o ta)(hR:∀i,iu X.prog X.w X.K X.mg X.base CX k (R i) m (sp i))(hr:bf k X.A)(hx:dz CX X E)(ha:PA X (e::es) t)
  (hst:starEach (e::es) X.env=.(Af)::starEach es X.env:=by rfl) (hpl:.(Z).any (·.1)=false:=by rfl)
  (ht:eval (.Call (.Attribute o m apos) (e::es) [] pos) X.env=(do
   let ov <- eval o X.env
   standAt apos.atName
   let (f,first) <- holding [ov] (getMethod ov m pl)
   callWith pos f first (backTo pos (starEach (e::es) X.env)) (backToKw pos (keywordEach [] X.env))):=by rfl) :
  PE X (.Call (.Attribute o m apos) (e::es) [] pos) (jN R m sp E ta t):=by
 intro pins s σ H Q I h
 refine PySem.W.methodCall_KW (pl:=pl) (bq (he pins s σ H _ I h) fun u s1 ⟨x,H1,I1,rx,i,a,dx,fs,ex,ea,l,q⟩=> ?_) ht
 subst ex
 obtain rfl:u=Value.ref a:=rx
 obtain⟨c,f,fd,ps,hm,F,hb⟩:=hR i
 refine g4 I1 ea c hm l ?_
 refine PySem.W.callWith_K (first:=[.ref a]) (h₀:=X.base) I.ok.mod.kin hm.kp (bq (ha pos pins s1 σ H1 _ I1 q) fun us s2 ⟨vs,H2,I2,r,q2⟩=>⟨I2.kIn,?_⟩) hst hpl
 exact jI (us:= .ref a::us) (vs:= .ref a::vs) (dvs:=[]) (ds:=[]) F hr hb .nil hx I2 (.cons rfl r) (by rw[List.append_nil];exact q2)
theorem lg{ι :Type}{R: ι ->Addr}{sp: ι ->Sp}{pl:Sem Bool}(he:PE X o ta)(hR:∀i,iu X.prog X.w X.K X.mg X.base CX k (R i) m (sp i))(hr:bf k X.A)(hx:dz CX X E)
  (ht:eval (.Call (.Attribute o m apos) [] [] pos) X.env=(do
   let ov <- eval o X.env
   standAt apos.atName
   let (f,first) <- holding [ov] (getMethod ov m pl)
   callWith pos f first (backTo pos (starEach [] X.env)) (backToKw pos (keywordEach [] X.env))):=by rfl) :
  PE X (.Call (.Attribute o m apos) [] [] pos) (jN R m sp E ta u5):=by
 intro pins s σ H Q I h
 refine PySem.W.methodCall_KW (pl:=pl) (bq (he pins s σ H _ I h) fun u s1 ⟨x,H1,I1,rx,i,a,dx,fs,ex,ea,l,q⟩=> ?_) ht
 subst ex
 obtain rfl:u=Value.ref a:=rx
 obtain⟨c,f,fd,ps,hm,F,hb⟩:=hR i
 refine g4 I1 ea c hm l ?_
 exact PySem.W.callWith_K0 (first:=[.ref a]) I1.kIn hm.kp (jI (us:=[.ref a]) (vs:=[.ref a]) (dvs:=[]) (ds:=[]) F hr hb .nil hx I1 (.cons rfl .nil) (by rw[List.append_nil];exact q))
end
section
variable{X:Cx}
theorem fT{x:Str}{n:String}{pos:Pos}(hg:Gl X x)(hm:X.mg x=none)(hv:bootBuiltins x=some (.type n))(hn:x ≠ "__name__":=by decide)(hd:.(O)=false:=by decide):PE X (.Name x pos) (tC (.ty n)) :=
 oA hg hm hv rfl hn hd
end
structure sR(K:Fg)(C:Addr):Prop where
 makes:PySem.W.makesIn K C=true
 init:PySem.W.findIn K (.ref C) "__init__"=some (some (.builtin "object.__init__"))
 kp:PySem.W.keepIn K (.ref C)=true
section
variable{X:Cx}{C:Addr}{x:Str}{p pos:Pos}
def rp(C:Addr):TE:=fun _ H Q=>∀x dx,H x=none->H dx=none->dx≠x->Q (.ref x) (upd (upd H dx (.own x)) x (.ins C dx []))
theorem li{pins:List (Addr×Obj)}{σ :St}{H:Hp}{s:Shared}{Q:VK}(M:sR X.K C)(I:aw X pins σ H s)
  (h:∀x dx,H x=none->H dx=none->dx≠x->Q (.ref x) (upd (upd H dx (.own x)) x (.ins C dx []))) :
  wpAny .(J) X.A (call (.ref C) []) (EP X pins σ Q) X.xe s:=by
 have hq:=h .(W) s.heap.objs.size (I.hok.fresh (Nat.le_succ _)) (I.hok.fresh .(AD)) (Nat.ne_of_lt (Nat.lt_succ_self _))
 have I2:=aw.made (C:=C) I
 have Y:=PySem.W.makes_of (M:=model X.prog X.w) I.kIn M.makes
 refine wpAny_call (l8 I.kIn M.makes M.init (fun self=>PySem.W.Looks.of_pure (PySem.W.oi_bind self)) ?_)
 have e2:(.(Al).push .(At)).get? .(W)=some .(At):=by
  have:=Heap.get?_push_size .(Al) (o:=PySem.W.instObj C s.heap.objs.size) rfl
  rwa [Heap.size_push]at this
 have t1:PySem.W.Looks .(J) (.(Al).push .(At)) (typeOf (.ref .(W))) (.ref C):=(PySem.W.Looks.ld e2).andThen .now
 have t2:PySem.W.Looks .(J) (.(Al).push .(At)) (isInstance (.ref .(W)) (.type "object")) true:=t1.andThen (Y.top.keeps fun b o e=>Heap.get?_push_of_some _ (Heap.get?_push_of_some _ e))
 refine codeAny_call_builtin PySem.W.oi_plain PySem.W.entry_oi (@PySem.W.check_slot .(J) _ _ _ "object.__init__" "object" "__init__" (.ref .(W)) [] [] _ PySem.W.oi_kind PySem.W.oi_split t2 (PySem.W.oi_args (.ref .(W))) ?_)
 rw[PySem.W.oi_run]
 exact wpAny_pure (And.intro rfl ⟨V.ref .(W),_,I2,rfl,hq⟩)
theorem lj(M:sR X.K C)(hg:Gl X x)(hm:X.mg x=some (.ref C))(hdb:.(O)=false:=by decide):PE X (.Call (.Name x p) [] [] pos) (rp C):=by
 intro pins s σ H Q I h
 refine wpAny_Call_Name_kw (eI I hg hm ?_ hdb)
 exact PySem.W.callWith_K0 I.kIn M.kp (li M I h)
end
noncomputable def clos(env:Env):List (Str×NameKind)->List (Str×Addr)->List (Str×Addr)
 |[],cs=>cs
 | (n,k)::r,cs=>clos env r (if k == .free then(match env.cells.lookup n with|some a=>(n,a)::cs|none=>cs) else cs)
theorem ko(env:Env):∀(ns:List (Str×NameKind)) (cs:List (Str×Addr)),(∀y∈ns,y.2= .free->∃c,env.cells.lookup y.1=some c) ->
  (forIn ns cs fun(x:Str×NameKind) (r:List (Str×Addr))=>(if (x.2 == .free)=true then do let a <- cellOf env x.1;pure (ForInStep.yield ((x.1,a)::r)) else pure (ForInStep.yield r):Sem (ForInStep (List (Str×Addr)))))=pure (clos env ns cs)
 |[],cs,_=>rfl
 | (n,k)::r,cs,h=>by
  have ih:=ko env r
  rw[List.forIn_cons]
  by_cases hk:k= .free
  ·subst hk
   obtain⟨c,e⟩:=h (n,.free) List.mem_cons_self rfl
   have e':env.cells.lookup n=some c:=e
   simp only[beq_self_eq_true,if_true,cellOf,e',pure_bind,clos]
   exact ih _ fun y hy=>h y (List.mem_cons_of_mem _ hy)
  ·have hb:(k == NameKind.free)=false:=by simpa using hk
   simp only[hb,Bool.false_eq_true,if_false,pure_bind,clos]
   exact ih _ fun y hy=>h y (List.mem_cons_of_mem _ hy)
theorem dX{scope:Scope}{env:Env}(h:∀y∈scope.names,y.2= .free->∃c,env.cells.lookup y.1=some c):closureFor scope env=pure (clos env scope.names []):=by
 have q:=ko env scope.names [] h
 simp only[closureFor]
 first
  | (rw[q];rfl)
  | (refine Eq.trans (congrArg (fun z=>z >>= fun cs=>pure cs) q) ?_;rfl)
theorem j6{env:Env}{x:Str}{c:Addr}:∀{ns:List (Str×NameKind)} {cs:List (Str×Addr)},(clos env ns cs).lookup x=some c->cs.lookup x=some c\/env.cells.lookup x=some c
 |[],cs,h=> .inl h
 | (n,k)::r,cs,h=>by
  have ih:=j6 (ns:=r) h
  rcases ih with ih|ih
  ·by_cases hk:(k == NameKind.free)=true
   ·rw[if_pos hk]at ih
    cases e:env.cells.lookup n with
    |none=>rw[e]at ih;exact .inl ih
    |some a =>
     rw[e]at ih
     by_cases hx:x == n
     ·have hx':x=n:=by simpa using hx
      subst hx'
      simp at ih
      subst ih
      exact .inr e
     ·simp only[List.lookup_cons,hx]at ih
      exact .inl ih
   ·rw[if_neg hk]at ih
    exact .inl ih
  ·exact .inr ih
theorem g6{env:Env}{x:Str}{c:Addr}(hc:env.cells.lookup x=some c):∀{ns:List (Str×NameKind)} {cs:List (Str×Addr)},cs.lookup x=some c->(clos env ns cs).lookup x=some c
 |[],cs,h=>h
 | (n,k)::r,cs,h=>by
  refine g6 hc (ns:=r) ?_
  by_cases hk:(k == NameKind.free)=true
  ·rw[if_pos hk]
   cases e:env.cells.lookup n with
   |none=>exact h
   |some a =>
    by_cases hx:x == n
    ·have hx':x=n:=by simpa using hx
     subst hx'
     rw[hc]at e
     cases e
     simp
    ·simp only[List.lookup_cons,hx]
     exact h
  ·rw[if_neg hk]
   exact h
theorem g7{env:Env}{x:Str}{c:Addr}(hc:env.cells.lookup x=some c):∀{ns:List (Str×NameKind)} {cs:List (Str×Addr)},(x,NameKind.free)∈ns->(clos env ns cs).lookup x=some c
 |[],cs,h=>by simp at h
 | (n,k)::r,cs,h=>by
  rcases List.mem_cons.mp h with h|h
  ·cases h
   refine g6 hc (ns:=r) ?_
   simp[hc]
  ·exact g7 hc (ns:=r) h
theorem cY{scope:Scope}{env:Env}{x:Str}:∀{ns:List (Str×NameKind)} {k:NameKind},
  .(Ao).lookup x=some k->(k= .cell\/k= .free)->(∀y∈ns,y.2 ≠ .cell)->(x,NameKind.free)∈ns
 |[],_,h,_,_=>by simp at h
 | (n,j)::r,k,h,hk,nc=>by
  by_cases hx:x == n
  ·have hx':x=n:=by simpa using hx
   subst hx'
   have hj:j ≠ .cell:=nc _ List.mem_cons_self
   by_cases hc:(j == NameKind.free && env.scope.kind == .function && env.kindOf x == some .cell)=true
   ·have:j= .free:=by
     have:=(Bool.and_eq_true_iff.mp (Bool.and_eq_true_iff.mp hc).1).1
     simpa using this
    subst this
    exact List.mem_cons_self
   ·simp only[List.map_cons,hc,if_neg,Bool.false_eq_true,not_false_eq_true,List.lookup_cons,beq_self_eq_true]at h
    have:j=k:=by simpa using h
    subst this
    rcases hk with hk|hk
    ·exact absurd hk hj
    ·subst hk;exact List.mem_cons_self
  ·refine List.mem_cons_of_mem _ (cY (scope:=scope) (env:=env) (ns:=r) (k:=k) ?_ hk fun y hy=>nc y (List.mem_cons_of_mem _ hy))
   simp only[List.map_cons]at h
   by_cases hc:(j == NameKind.free && env.scope.kind == .function && env.kindOf n == some .cell)=true
   ·rw[if_pos hc]at h
    simpa only[List.lookup_cons,hx]using h
   ·rw[if_neg hc]at h
    simpa only[List.lookup_cons,hx]using h
theorem eM{env:Env}{x:Str}:∀{ns:List (Str×NameKind)},ns.lookup x=some .free ->
  .(Ao).lookup x=some .cell \/
  .(Ao).lookup x=some .free
 |[],h=>by simp at h
 | (n,j)::r,h=>by
  by_cases hx:x == n
  ·have hx':x=n:=by simpa using hx
   subst hx'
   have:j= .free:=by simpa using h
   subst this
   by_cases hc:(NameKind.free == NameKind.free && env.scope.kind == .function && env.kindOf x == some .cell)=true
   ·left;simp only[List.map_cons];rw[if_pos hc];simp
   ·right;simp only[List.map_cons];rw[if_neg hc];simp
  ·have h':r.lookup x=some .free:=by simpa only[List.lookup_cons,hx]using h
   have ih:=eM (env:=env) (ns:=r) h'
   simp only[List.map_cons]
   by_cases hc:(j == NameKind.free && env.scope.kind == .function && env.kindOf n == some .cell)=true
   ·rw[if_pos hc];simpa only[List.lookup_cons,hx]using ih
   ·rw[if_neg hc];simpa only[List.lookup_cons,hx]using ih
abbrev eN(X:Cx)(scope:Scope)(C:Addr)(N':List Str)(s₀:Shared)(H₀:Hp)(fp:List Addr):Cx :=
 { X with N:=N',s₀:=s₀,H₀:=H₀,env:=compEnvC scope (clos X.env scope.names []) C X.env,outer:=X.stack,stack:=X.stack,ex:=fp,fn:=fun _=>false,cw:=fun _=>false,pn:=[],xe:=fun _ _=>False }
def g8(X:Cx)(scope:Scope):List (Str×Nat)->Prop
 |[]=>True
 |p::r=>(scope.names.lookup p.1=some .free/\X.N[p.2]? =some p.1/\(X.env.scope.names.lookup p.1=some .cell\/X.env.scope.names.lookup p.1=some .free))/\g8 X scope r
theorem g8.mem{X:Cx}{scope:Scope}:∀{l:List (Str×Nat)},g8 X scope l->∀p∈l,scope.names.lookup p.1=some .free/\X.N[p.2]? =some p.1/\(X.env.scope.names.lookup p.1=some .cell\/X.env.scope.names.lookup p.1=some .free)
 |[],_,p,h=>by simp at h
 |q::r,h,p,hp=>by
  rcases List.mem_cons.mp hp with e|e
  ·rw[e];exact h.1
  ·exact g8.mem h.2 p e
def iv(X:Cx)(names:List (Str×NameKind)):Prop:=(names.all fun y=>y.2 != .free || X.env.scope.names.lookup y.1 == some .cell || X.env.scope.names.lookup y.1 == some .free)=true
theorem iv.mem{X:Cx}{l:List (Str×NameKind)}(h:iv X l):∀y∈l,y.2= .free->(X.env.scope.names.lookup y.1=some .cell\/X.env.scope.names.lookup y.1=some .free):=fun y hy e=>by
 have q:=List.all_eq_true.mp h y hy
 rw[e]at q
 have q':((X.env.scope.names.lookup y.1 == some .cell) || (X.env.scope.names.lookup y.1 == some .free))=true:=q
 rcases Bool.or_eq_true_iff.mp q' with z|z
 ·exact .inl (eq_of_beq z)
 ·exact .inr (eq_of_beq z)
structure cR(X:Cx)(scope:Scope)(own:List Str)(caps:List (Str×Nat)):Prop where
 kind:scope.kind= .function
 nocell:∀y∈scope.names,y.2 ≠ .cell
 names:∀y∈scope.names,y.2= .local->scope.names.lookup y.1=some .local
 caps:g8 X scope caps
 frees:iv X scope.names
abbrev bE(own:List Str)(caps:List (Str×Nat)):List Str:=own++caps.map (·.1)
abbrev iw(own:List Str)(caps:List (Str×Nat))(σ :St):St:=List.replicate own.length none++caps.map fun p=>(σ[p.2]?).getD none
theorem eO{prog:Program}{w:World}{A:Around}{R:Result->Shared->Prop}{s:Shared}{elt target iter:Expr}{ifs:List Expr}{scope:Scope}{pos:Pos}{it acc:Value}{env:Env}(I:Nat->Shared->Prop)
  (turn:∀n s,I n s->wpAny (model prog w) A (pyNext it) (fun r s₁=>match r with
   |none=>R (.ok .next) s₁
   |some v=>wpAny (model prog w) A (letOwnedTupleGo target it v) (fun _ s₁'=>wpAny (model prog w) A (assign target env v) (fun _ s₂ =>
     wpAny (model prog w) A (forIn ifs true fun c r=>if r=true then do let ok <- isTrue c env (eval c env);pure (ForInStep.yield ok) else pure (ForInStep.yield r)) (fun ok s₃ =>
      if ok=true then wpAny (model prog w) A (eval elt env) (fun x s₄ =>
       wpAny (model prog w) A (call (.builtin "list.append") [acc,x]) (fun _ s₅ =>∃m,m<n/\I m s₅) (fun _ _=>False) s₄) (fun _ _=>False) s₃
      else ∃m,m<n/\I m s₃) (fun _ _=>False) s₂) (fun _ _=>False) s₁') (fun _ _=>False) s₁) (fun _ _=>False) s)
  (n:Nat) (h:I n s) :
  codeAny (model prog w) A (.compLoop (.ListComp elt [⟨target,iter,ifs,0⟩] scope pos) 0 it acc env) R s:=by
 refine codeAny_loop rfl I (fun n s hI=> ?_) n h
 show wpAny _ A ((compTurn (.ListComp elt [⟨target,iter,ifs,0⟩] scope pos) 0 it acc env).onRaise (fun x=>do noteFrame x env;theTreesLotGoes x)) _ _ s
 refine wpAny_noted ?_
 rw[compTurn_list]
 refine wpAny_bind (wpAny_standAt (wpAny_bind (wpAny_mono (turn n s hI) (fun r s₁ h₁=> ?_) fun _ _ h'=>h'.elim)))
 cases r with
 |none=>exact wpAny_pure h₁
 |some v =>
  refine wpAny_bind (wpAny_mono h₁ (fun _ s₁' h₁'=> ?_) fun _ _ h'=>h'.elim)
  refine wpAny_bind (wpAny_mono h₁' (fun _ s₂ h₂=>wpAny_bind (wpAny_mono h₂ (fun ok s₃ h₃ => ?_) fun _ _ h'=>h'.elim)) fun _ _ h'=>h'.elim)
  cases ok with
  |false=>exact wpAny_pure ⟨rfl,h₃⟩
  |true =>
   exact wpAny_bind (wpAny_bind (wpAny_mono h₃ (fun x s₄ h₄ =>wpAny_bind (wpAny_mono h₄ (fun _ s₅ h₅ =>wpAny_pure (wpAny_pure ⟨rfl,h₅⟩)) fun _ _ h'=>h'.elim)) fun _ _ h'=>h'.elim))
section
variable{X:Cx}{pins:List (Addr×Obj)}{σ :St}{H:Hp}{s s1:Shared}{scope:Scope}{own:List Str}{caps:List (Str×Nat)}{fp:List Addr}
theorem aw.block{h1:Heap}{tk:Nat}(I:aw X pins σ H s)(S:cR X scope own caps)(hf:∀b∈fp,fY X pins H b)
  (hns:h1.Ns s.heap.objs.size fun _=>none) (hk:∀b o,s.heap.get? b=some o->h1.get? b=some o) (hfl:∀b∈fp,b<s.heap.objs.size) :
  aw (eN X scope s.heap.objs.size (bE own caps) s H fp) [] (iw own caps σ) H { s with heap:=h1,toks:=tk }:=by
 have hfree:∀y∈scope.names,y.2= .free->∃c,X.env.cells.lookup y.1=some c:=fun y hy e=>I.ok.has _ (S.frees.mem y hy e)
 have sub:∀x c,(clos X.env scope.names []).lookup x=some c->X.env.cells.lookup x=some c:=fun x c e=>by
  rcases j6 e with z|z
  ·simp at z
  ·exact z
 have celT:∀{c:Addr} {v:Option Value},s.heap.IsCell c v->h1.IsCell c v:=fun {c v} ⟨o,ho,hd⟩=>⟨o,hk _ _ ho,hd⟩
 refine⟨⟨I.ok.mod,?_,I.ok.glob,I.ok.blt,Nat.le_refl _,fun y z c e1 e2=>I.ok.inj y z c (sub _ _ e1) (sub _ _ e2),fun y hy=> ?_,(fun y c e=>(nomatch e)),I.ok.hd,I.ok.frames,.inl rfl,fun b hb=>⟨Nat.ne_of_lt (hfl b hb),fun x c e=>(hf b hb).2.2.2.2.1 x c (sub x c e)⟩,
   I.bs,Nat.le_trans I.ok.bsz I.sz,fun b o e hb=> ?_,fun b hb z=> ?_,I.stack,I.stkFree,fun P z=>I.base.tbls P 0 (I.ok.tab P z),fun _ z=>z⟩,
  rfl,I.bare,Un.kept hk,⟨_,hns,fun i y v e1 e2 e3=> ?_⟩,fun y c e=> ?_,I.hok.fresh .(AD),fun y c e=>(I.freeC y c (sub y c e)).imp id fun⟨_,z⟩=>⟨rfl,z⟩,fun p hp=>absurd (show p∈([]:List (Addr×Obj)) from hp) (by simp),I.hok.kept hk,?_⟩
 ·exact S.kind
 ·have hy:(relabel scope X.env).names.lookup y=some .cell\/(relabel scope X.env).names.lookup y=some .free:=hy
  have m:(y,NameKind.free)∈scope.names:=by
   rcases hy with z|z
   ·exact cY (scope:=scope) (env:=X.env) z (.inl rfl) S.nocell
   ·exact cY (scope:=scope) (env:=X.env) z (.inr rfl) S.nocell
  obtain⟨c,e⟩:=hfree _ m rfl
  exact⟨c,g7 e m⟩
 ·rcases(hf b hb).2.2.2.1 with z|z
  ·exact I.ok.noex b o e z
  ·exact absurd (Nat.lt_of_lt_of_le (Heap.lt_size e) (Nat.le_trans I.ok.bsz z)) (Nat.lt_irrefl _)
 ·rcases List.mem_cons.mp (I.stkSub b z)with q|q
  ·exact(hf b hb).2.1 q
  ·exact(hf b hb).2.2.1 q
 ·-- a captured name
  have hi:own.length<=i:=by
   rcases Nat.lt_or_ge i own.length with q|q
   ·rw[List.getElem?_append_left (by simpa using q),List.getElem?_replicate,if_pos q]at e2
    cases e2
   ·exact q
  rw[List.getElem?_append_right hi,List.getElem?_map]at e1
  rw[List.getElem?_append_right (by simpa using hi),List.length_replicate,List.getElem?_map]at e2
  cases ep:caps[i-own.length]? with
  |none=>rw[ep]at e1;cases e1
  |some p =>
   rw[ep]at e1 e2
   have ey:p.1=y:=Option.some.inj e1
   subst ey
   obtain⟨f1,f2,f3⟩:=S.caps.mem p (List.mem_of_getElem? ep)
   have eσ : σ[p.2]? =some (some v):=by
    have e2':(σ[p.2]?).getD none=some v:=Option.some.inj e2
    cases q: σ[p.2]? with
    |none=>rw[q]at e2';cases e2'
    |some o=>rw[q]at e2';exact congrArg some e2'
   obtain⟨m,_,hl⟩:=I.loc
   obtain⟨u,ru,L⟩:=hl p.2 p.1 v f2 eσ (f3.elim (fun z=> .inr (.inl z)) fun z=> .inr (.inr z))
   refine⟨u,ru,.inr ⟨eM f1,?_⟩⟩
   rcases L with⟨L,_⟩|⟨_,c,e,ic⟩
   ·have L:X.env.scope.names.lookup p.1=some .local:=L
    rcases f3 with z|z <;> (rw[z]at L;cases L)
   ·exact⟨c,g7 e (PySem.mem_of_lookup f1),celT ic⟩
 ·obtain⟨v,z⟩:=I.cell y c (sub y c e)
  exact⟨v,celT z⟩
 ·show(iw own caps σ).length=(bE own caps).length
  simp
def wj(X:Cx)(ifs:List Expr)(t:TT):Prop:=∀(pins:List (Addr×Obj)) (s:Shared) (σ :St) (H:Hp) (Q:Bool->Hp->Prop),aw X pins σ H s->t σ H Q ->
 wpAny .(J) X.A (forIn ifs true fun c r=>if r=true then do let ok <- isTrue c X.env (eval c X.env);pure (ForInStep.yield ok) else pure (ForInStep.yield r)) (TP X pins σ Q) X.xe s
def xy:TT:=fun _ H Q=>Q true H
theorem p6{X:Cx}:wj X [] xy:=fun _ _ _ H _ I h=>wpAny_tests_nil ⟨H,I,h⟩
def md(own:List Str)(caps:List (Str×Nat))(g:TG)(tc:TT)(te:TE)(σ :St)(Q:VK)(J:It)(H1:Hp):Prop:=∀D,H1 D=none->∃W:Nat->Nat->St->Hp->Prop,(∃m,W 0 m (iw own caps σ) (upd H1 D (.lst [])))/\ ∀i m σ' H',W i m σ' H' ->
 (J.stop i H'/\Q (.ref D) H')\/(J.go i H'/\ ∃N:St->Hp->Prop,(∀σ2 H2,N σ2 H2->∃m',m'<m/\W (i+1) m' σ2 H2)/\ ∀x H2,J.yld i H' x H2->g x σ' H2 fun σ3 H3=>tc σ3 H3 fun b H4 =>
  if b=true then te σ3 H4 fun y H5=>∃ys,H5 D=some (.lst ys)/\ys.length<sizeLine/\N σ3 (upd H5 D (.lst (ys++[y]))) else N σ3 H4)
def tComp(own:List Str)(caps:List (Str×Nat))(wi:TI)(g:TG)(tc:TT)(te:TE):TE:=fun σ H Q=>wi σ H (md own caps g tc te σ Q)
theorem p7{elt tg iter:Expr}{ifs:List Expr}{pos:Pos}{wi:TI}{g:TG}{tc:TT}{te:TE}(S:cR X scope own caps)(hc:X.calm=true)(hi:PI X tg iter wi)
  (hg:∀C s₀ H₀ fp,PG .(X) tg g) (ht:∀C s₀ H₀ fp,wj .(X) ifs tc) (he:∀C s₀ H₀ fp,PE .(X) elt te)
  (hs:∀x,foldedSetIterable iter X.env x=pure x:=by intro _;rfl):PE X .(AC) (tComp own caps wi g tc te):=by
 intro pins s σ H Q I h
 rw[eval_ListComp]
 have hfree:∀y∈scope.names,y.2= .free->∃c,X.env.cells.lookup y.1=some c:=fun y hy e=>I.ok.has _ (S.frees.mem y hy e)
 refine wpAny_comprehension_free (use:=none) rfl hs (dX hfree) S.kind S.names (bq (hi pins s σ H _ I h) fun v s1 h1=>bq h1 fun itv s2 h2=> ?_)
 obtain⟨it,fp,tn,J,H2,e,I2,T,st2,f2,hW⟩:=h2
 subst e
 -- the new list
 refine wpAny_newList ?_
 have hD:H2 s2.heap.objs.size=none:=I2.fresh
 have I3:=I2.lnew (its:=[]) (ys:=[]) (t':=s2.toks) .nil (Nat.zero_le _)
 have k3:∀b o,s2.heap.get? b=some o->.(AI).get? b=some o:=fun b o q=>Heap.get?_push_of_some _ q
 have st3:tn 0 .(AI):=T.keep _ _ _ st2 fun b _ o q=>k3 b o q
 have lt2:∀b∈fp,b<s2.heap.objs.size:=fun b hb=>let ⟨o,q,_⟩:=T.obj _ _ st2 b hb;Heap.lt_size q
 have neD:∀b∈fp,b≠s2.heap.objs.size:=fun b hb=>Nat.ne_of_lt (lt2 b hb)
 have f3:∀b∈fp,fY X pins (upd H2 s2.heap.objs.size (.lst [])) b:=fun b hb=>⟨by rw[ay (neD b hb)];exact(f2 b hb).1,(f2 b hb).2⟩
 obtain⟨W,⟨m0,w0⟩,turn⟩:=hW _ hD
 generalize eD:s2.heap.objs.size=D at *
 generalize eH:upd H2 D (.lst [])=H3 at *
 generalize eh:s2.heap.push { cls:= .type "list",data:= .seq ([]:List Value).toArray }=hp3 at *
 have I3':aw X pins σ H3 { s2 with heap:=hp3 }:=I3
 -- the block's frame
 refine wpAny_newFunctionEnv S.nocell (fun y hy=>by simp at hy) (fun h1 hns hsb=> ?_) S.kind
 have kb:∀b o,hp3.get? b=some o->h1.get? b=some o:=fun b o q=>hsb.extBut b o (Nat.ne_of_lt (Heap.lt_size q)) (Heap.get?_push_of_some _ q)
 have lt3:∀b∈fp,b<hp3.objs.size:=fun b hb=>let ⟨o,q,_⟩:=T.obj _ _ st3 b hb;Heap.lt_size q
 have IB:=aw.block (s:={ s2 with heap:=hp3 }) (h1:=h1) (tk:=s2.toks) I3' S f3 hns kb lt3
 have stB:tn 0 h1:=T.keep _ _ _ st3 fun b _ o q=>kb b o q
 have back:∀{σ':St} {H':Hp} {s':Shared} {h':Heap},aw .(E) [] σ' H' s'->Heap.SameBut hp3.objs.size s'.heap h'->aw X pins σ H' { s' with heap:=h' }:=fun {σ' H' s' h'} J hsm=>by
  have nC:∀b o,H' b=some o->b≠hp3.objs.size:=fun b o q z=>by
   have:=J.free
   rw[z]at q
   have q2:H' hp3.objs.size=none:=this
   rw[q]at q2;cases q2
  have hok:fE X.prog X.w H' h':=fun b o q=>(J.hok b o q).stay (fun c v hc z=>hsm.extBut c v (by
   rcases hc with hc|hc
   ·rw[hc];exact nC b o q
   ·exact nC c _ hc) z) (fun _ z=>z) (fun _ _ z=>z) fun _ _ _ z=>z
  have nb:∀b o,hp3.get? b=some o->b≠hp3.objs.size:=fun b o q=>Nat.ne_of_lt (Heap.lt_size q)
  have un:Un (lJ X.stack) fp H3 H' hp3 h':=⟨fun b o q n hb hx=>hsm.extBut b o (nb b o q) (J.base.keep b o q n hb hx),fun b o q n hb hx=>by
    obtain⟨sl,z⟩:=J.base.slot b o q n hb hx
    exact⟨sl,hsm.extBut b _ (nb b o q) z⟩,J.base.free,fun b o q hx=>by
    obtain⟨o',z⟩:=J.base.there b o q hx
    exact⟨o',hsm.extBut b _ (nb b o q) z⟩,J.base.tups,J.base.frzs,J.base.tbls⟩
  have os:=J.os
  have bare:=J.bare
  obtain⟨hh,g,d,t,os'⟩:=s'
  obtain rfl:os'=s2.os:=os
  show aw X pins σ H' { ({ s2 with heap:=hp3 }:Shared)with heap:=h',gens:=g,drawn:=d,toks:=t }
  exact I3'.call (h':=h') (g':=g) (d':=d) (t':=t) (ch:=fp) un hok bare fun b hb=>⟨(f3 b hb).2.2.2.1,(f3 b hb).2.1,(f3 b hb).2.2.2.2.1,(f3 b hb).2.2.2.2.2⟩
 have statB:∀{H':Hp},(∀b∈fp,H' b=none)->∀b∈fp,fY .(E) [] H' b:=fun hn b hb =>
  ⟨hn b hb,Nat.ne_of_lt (lt3 b hb),fun z=>(IB.ok.exfs b hb) z,.inl hb,(IB.ok.exf b hb).2,fun p hp=>absurd (show p∈([]:List (Addr×Obj)) from hp) (by simp)⟩
 have loop:∀s₃ :Shared,s₃ ={ s2 with heap:=h1,toks:=s2.toks }->codeAny .(J) X.A (.compLoop .(AC) 0 (.ref it) (.ref D) (compEnvC scope (clos X.env scope.names []) hp3.objs.size X.env))
   (compPost .(J) X.A X.xe none (EP X pins σ Q) (.ref D) hp3.objs.size) s₃ :=by
  rintro s₃ rfl
  refine eO (fun n s'=>∃i σ' H',aw .(E) [] σ' H' s'/\tn i s'.heap/\(∀b∈fp,H' b=none)/\W i n σ' H') ?_ m0 ⟨0,iw own caps σ,H3,IB,stB,fun b hb=>(f3 b hb).1,w0⟩
  rintro n s3 ⟨i, σ3,H4,I4,st4,fr4,w4⟩
  rcases turn i n σ3 H4 w4 with⟨stop,qn⟩|⟨go,N,hN,step⟩
  ·refine bq (T.done .(E) rfl rfl rfl hc i [] s3 σ3 H4 _ I4 (statB fr4) st4 stop) fun r s4 ⟨hr,I5⟩=> ?_
   subst hr
   obtain⟨m,hn,_⟩:=I5.loc
   exact⟨m,hn,fun h' hsm=>⟨.ref D,H4,back I5 hsm,rfl,qn⟩⟩
  ·refine bq (T.item .(E) rfl rfl rfl hc i [] s3 σ3 H4 (fun _ _=>False) I4 (statB fr4) st4 go) fun r s4 ⟨u,hr,h4⟩=> ?_
   subst hr
   refine bq h4 fun _ s5 ⟨x,H5,I5,r5,y5,st5,fr5⟩=> ?_
   have I5':=I5.pinned (statB fr5) (T.obj _ _ st5)
   refine bq (hg hp3.objs.size { s2 with heap:=hp3 } H3 fp _ s5 σ3 H5 x u _ I5' r5 (step x H5 y5)) fun _ s6 ⟨σ6,H6,I6,q6⟩=> ?_
   refine bq (ht hp3.objs.size { s2 with heap:=hp3 } H3 fp _ s6 σ6 H6 _ I6 q6) fun ok s7 ⟨H7,I7,q7⟩=> ?_
   have again:∀{σ7:St} {H7:Hp} {s7:Shared},aw .(E) ([]++fb fp s5.heap) σ7 H7 s7->N σ7 H7->∃m,m<n/\ ∃i σ' H',aw .(E) [] σ' H' s7/\tn i s7.heap/\(∀b∈fp,H' b=none)/\W i m σ' H':=fun {σ7 H7 s7} I7 n7=>by
    obtain⟨m',hm,w7⟩:=hN σ7 H7 n7
    refine⟨m',hm,i+1, σ7,H7,I7.unpinned,T.keep _ _ _ st5 fun b hb o e=>.(Aa).1,fun b hb=> ?_,w7⟩
    obtain⟨o,e,d⟩:=T.obj _ _ st5 b hb
    exact .(Aa).2.1
   cases ok with
   |false =>
    rw[if_neg (by decide)]
    rw[if_neg (by decide)]at q7
    exact again I7 q7
   |true =>
    rw[if_pos rfl]
    rw[if_pos rfl]at q7
    refine bq (he hp3.objs.size { s2 with heap:=hp3 } H3 fp _ s7 σ6 H7 _ I7 q7) fun y s8 ⟨yv,H8,I8,r8,ys,e8,z8,n8⟩=> ?_
    refine bq (gZ (X:=eN X scope hp3.objs.size (bE own caps) { s2 with heap:=hp3 } H3 fp) _ s8 σ6 H8 (.ref D) [yv] (.ref D) [y] (fun _ H'=>N σ6 H') I8 rfl (.cons r8 .nil) ⟨D,ys,yv,rfl,rfl,e8,z8,n8⟩) fun _ s9 ⟨v9,H9,I9,_,q9⟩=> ?_
    exact again I9 q9
 exact codeAny_compStart_list (loop _ rfl) (T.self _ 0 _ _ _ stB (loop _ rfl))
end
inductive D where
 |at(v:V)
 |tup (ds:List D)
mutual
noncomputable def D.depth:D->Nat
 |.at _=>0
 |.tup ds=>me ds+1
noncomputable def me:List D->Nat
 |[]=>0
 |d::ds=>max d.depth (me ds)
end
section
variable{X:Cx}{pins:List (Addr×Obj)}{σ :St}{H:Hp}{s:Shared}
end
end L2
end
section
namespace PySem.SeqAt
open AutoSeq1 (wpAny_loadPart')
open MeetsSeq MeetsSeq2 MeetsSeq3 SeqRoads2
theorem fg{M:Model}{A:Around}{E:Value->Shared->Prop}{s:Shared}{β :Type}{n:Nat}(f:Nat-> β ->Sem (ForInStep β))(I:Nat-> β ->Shared->Prop)(Q: β ->Shared->Prop)
  (turn:∀i b s,i<n->I i b s->wpAny M A (f i b) (fun r s'=>match r with | .yield b'=>I (i+1) b' s' | .done b'=>Q b' s') E s)
  (fin:∀b s,I n b s->Q b s) (b: β) (h:I 0 b s):wpAny M A (forIn ([:n]:Std.Legacy.Range) b f) Q E s:=by
 rw[Std.Legacy.Range.forIn_eq_forIn_range']
 simp only[Std.Legacy.Range.size,Nat.sub_zero,Nat.add_sub_cancel,Nat.div_one]
 refine wpAny_forIn_list f (fun rest b s'=>∃i,rest=List.range' i (n-i)/\i<=n/\I i b s') Q ?_ ?_ _ _ ⟨0,by simp,Nat.zero_le _,h⟩
 ·rintro x rest b s' ⟨i,hr,hi,hI⟩
  have hlt:i<n:=by
   rcases Nat.lt_or_ge i n with q|q
   ·exact q
   ·rw[Nat.sub_eq_zero_of_le q]at hr;simp at hr
  obtain⟨rfl,hrest⟩:x=i/\rest=List.range' (i+1) (n-(i+1)):=by
   rw[show n-i=(n-(i+1))+1 by omega,List.range'_succ]at hr
   injection hr with h1 h2
   exact⟨h1,h2⟩
  refine wpAny_mono (turn x b s' hlt hI) (fun r s2 hr2=> ?_) fun _ _ z=>z
  cases r with
  |done b'=>exact hr2
  |yield b'=>exact⟨x+1,hrest,hlt,hr2⟩
 ·rintro b s' ⟨i,hr,hi,hI⟩
  have:i=n:=by
   rcases Nat.lt_or_ge i n with q|q
   ·rw[show n-i=(n-(i+1))+1 by omega,List.range'_succ]at hr;cases hr
   ·omega
  subst this
  exact fin _ _ hI
theorem tuple_indexAt(l:Addr)(items:Array Value)(n:Nat)(dd:Option Addr)(sl:Array (Option Value))(x:Value)(e:Value->Bool)(j:Nat)(hj:j<items.size)
  (hit:e items[j]=true) (hno:∀m (hm:m<items.size),m<j->e items[m]=false) :
  Meets (Builtin.«tuple.index» ⟨[.ref l,x],[]⟩)
   (fun A R s=>s.heap.get? l=some { cls:= .type "tuple",dict:=dd,data:= .seq items n,slots:=sl }/\(∀y,y∈items->EqAt A.in1 s y x (e y))/\R (.ok (.ret (.int j s.toks))) { s with toks:=s.toks+1 }) :=
 .of_wp fun prog w A R s h=>by
  obtain⟨hp,g,d,tk,os⟩:=s;obtain⟨hl,he,h⟩:=h
  wp_walk using wpAny_loadPart' hl,fg (n:=min items.size items.size) _ (fun i b s'=>b.1=none/\i<=j/\s'=⟨hp,g,d,tk,os⟩) _
  case turn =>
   rintro i b s' hi ⟨hb,hij,rfl⟩
   have hi':i<items.size:=by omega
   rw[Array.getElem?_eq_getElem hi']
   refine wpAny_bind (he _ (Array.getElem_mem hi') prog w _ _ ?_)
   by_cases ij:i=j
   ·subst ij
    rw[hit]
    wp_walk
    exact⟨_,rfl,h⟩
   ·rw[hno i hi' (by omega)]
    wp_walk
    exact⟨rfl,by omega,rfl⟩
  case fin =>
   rintro b s' ⟨hb,hij,rfl⟩
   omega
  case h =>
   exact⟨rfl,Nat.zero_le _,rfl⟩
end PySem.SeqAt
namespace L2
open PySem PySem.Spec PyProof.Rows
section
variable{X:Cx}
def p8(K:Fg):V->List V->Hp->VK->Prop:=fun x vs H Q=>∃a xs y j z,x= .ref a/\vs=[y]/\f8 K H a xs/\dW y=true/\xs.all dW=true/\xs[j]? =some z/\lZ z y=true/\(∀i z,i<j->xs[i]? =some z->lZ z y=false)/\Q (.int (j:Nat)) H
theorem lm:xr X "tuple.index" (p8 X.K):=by
 intro pins s σ H x vs v us Q I rx rv h
 obtain⟨a,xs,y,j,z,rfl,rfl,hS,fy,fs,ej,ez,hno,q⟩:=h
 obtain rfl:v=Value.ref a:=rx
 obtain⟨u,rfl,ru⟩:=rv.one
 obtain⟨its,r,pl,_⟩:=I.tuple hS
 have eqs:=iZ (A:=X.A.in1) (s:=s) ru fy r fs
 obtain⟨w,ew,rw'⟩:=r.get ej
 have hj:j<its.length:=(List.getElem?_eq_some_iff.mp ew).1
 obtain⟨ob,eo,hc,nn,hd⟩:=pl
 obtain⟨cls,dd,data,sl⟩:=ob
 simp only at hc hd
 subst hc hd
 have flat_at:∀{i:Nat} {z:V},xs[i]? =some z->dW z=true:=fun {i z} e=>by
  exact List.all_eq_true.mp fs z (List.mem_of_getElem? e)
 refine call_meets F.slot_tuple_index ⟨_,eo,rfl⟩ F.entry_tuple_index (F.args_tuple_index_2 _ _) (SeqAt.tuple_indexAt a its.toArray nn dd sl u (ue y) j (by simpa using hj) ?_ ?_) ⟨eo,fun w hw=>eqs w (by simpa using hw),?_⟩
 ·have:its[j]=w:=(List.getElem?_eq_some_iff.mp ew).2
  show ue y its[j]=true
  rw[this,jL rw' (flat_at ej)]
  exact ez
 ·intro m hm hmj
  have hm':m<its.length:=by simpa using hm
  have hx:m<xs.length:=by rw[r.length];exact hm'
  obtain⟨w',ew',r'⟩:=r.get (List.getElem?_eq_getElem hx)
  have:its[m]=w':=(List.getElem?_eq_some_iff.mp ew').2
  show ue y its[m]=false
  rw[this,jL r' (flat_at (List.getElem?_eq_getElem hx))]
  exact hno m _ hmj (List.getElem?_eq_getElem hx)
 ·exact⟨.int (j:Nat),H,I.tok _,⟨_,rfl⟩,q⟩
end
structure p9(P:Program)(w:World)(K:Fg)(mg:Str->Option Value)(base:Bs)(CX:gS)(k:Nat)(x:Str)(sp:Sp):Prop where
 ex:∃(f:Addr) (fd:FuncData) (ps:List Str),mg x=some (.ref f)/\PySem.W.keepIn K (.ref f)=true/\bM P w K mg base CX k f fd ps sp/\bj K fd ps []
def AI(sp:Sp)(E:XK)(t:TA):TE:=fun σ H Q=>t σ H fun vs H1=>sp vs H1 Q E
section
variable{X:Cx}{CX:gS}{k:Nat}{sp:Sp}{E:XK}{x:Str}{p pos:Pos}{e:Expr}{es:List Expr}{t:TA}
theorem ui(h:p9 X.prog X.w X.K X.mg X.base CX k x sp)(hr:bf k X.A)(hg:Gl X x)(hx:dz CX X E)(ha:PA X (e::es) t)(hdb:.(O)=false:=by decide)
  (he:starEach (e::es) X.env=.(Af)::starEach es X.env:=by rfl) (hpl:.(Z).any (·.1)=false:=by rfl):PE X .(Ab) (AI sp E t):=by
 obtain⟨f,fd,ps,hm,hk,F,hb⟩:=h.ex
 intro pins s σ H Q I hq
 refine oO (dvs:=[]) (ds:=[]) F hr hg hm hk hb .nil hx ha hdb he hpl pins s σ H Q I ?_
 have e0:(fun(vs:List V) (H1:Hp)=>sp (vs++[]) H1 Q E)=fun vs H1=>sp vs H1 Q E:=by funext vs H1;rw[List.append_nil]
 show t σ H (fun vs H1=>sp (vs++[]) H1 Q E)
 rw[e0]
 exact hq
end
theorem aV{X:Cx}{x:Str}{a:Addr}{pos:Pos}(hg:Gl X x)(hm:X.mg x=some (.ref a))(hd:.(O)=false:=by decide):PE X (.Name x pos) (tC (.ref a)):=il (v:= .ref a) hg hm rfl hd
def jO(K:Fg)(a:Addr)(xs:List V):Prop:=∃(o:Obj) (its:Array Value) (n:Nat),K.lookup a=some o/\o.cls= .type "tuple"/\o.dict=none/\o.data= .seq its n/\its.size<=sizeLine/\aG xs its.toList
theorem jO.sq{K:Fg}{a:Addr}{xs:List V}(h:jO K a xs)(H:Hp):f8 K H a xs:=let ⟨o,its,n,h1,h2,_,h3,h4,h5⟩:=h;.inr ⟨o,its,n,h1,h2,h3,h4,h5⟩
theorem jO.ty{K:Fg}{a:Addr}{xs:List V}(h:jO K a xs)(H:Hp):wf K "tuple" (.ref a) H:=let ⟨o,its,n,h1,h2,h0,h3,h4,h5⟩:=h;.inr (.inl ⟨rfl,o,h1,h2,h0⟩)
noncomputable def pb(H:Hp)(x dx C:Addr)(fs:List (Str×V)):Hp:=upd (upd H dx (.own x)) x (.ins C dx fs)
theorem kq{H:Hp}{x dx C:Addr}{fs:List (Str×V)}:pb H x dx C fs x=some (.ins C dx fs):=aE
theorem hE{H:Hp}{x dx C:Addr}{fs:List (Str×V)}(hx:H x=none)(hd:H dx=none):Same H (pb H x dx C fs):=fun b o e=>by
 unfold pb
 rw[ay (aU e hx),ay (aU e hd)]
 exact e
theorem bG{H:Hp}{p:Addr}(h:H p=none)(o:HO):Same H (upd H p o):=fun b u q=>by rw[ay (aU q h)];exact q
def xz(C:Addr)(fs:List Str)(t:TA):TE:=fun σ H Q=>t σ H fun vs H1=>vs.length=fs.length/\ ∀x dx,H1 x=none->H1 dx=none->dx≠x->Q (.ref x) (pb H1 x dx C (fs.zip vs))
def kr(C:Addr)(fs:List Str):Sp:=fun vs H Q _=>∃p dx r,vs= .ref p::r/\r.length=fs.length/\H p=some (.ins C dx [])/\Q .non (upd H p (.ins C dx (fs.zip r)))
structure dY(P:Program)(w:World)(K:Fg)(mg:Str->Option Value)(base:Bs)(x:Str)(C:Addr)(fs:List Str):Prop where
 glob:mg x=some (.ref C)
 cl:iQ K C
 ex:∃(f:Addr) (fd:FuncData) (ps:List Str),Mk K C f/\bM P w K mg base fS 1 f fd ps (kr C fs)/\bj K fd ps []
section
variable{X:Cx}{C:Addr}{fs:List Str}{x:Str}{p pos:Pos}{e:Expr}{es:List Expr}{t:TA}{k:Nat}
theorem rq(h:dY X.prog X.w X.K X.mg X.base x C fs)(hr:bf (k+2) X.A)(hg:Gl X x)(ha:PA X (e::es) t)(hdb:.(O)=false:=by decide)
  (he:starEach (e::es) X.env=.(Af)::starEach es X.env:=by rfl) (hpl:.(Z).any (·.1)=false:=by rfl):PE X .(Ab) (xz C fs t):=by
 obtain⟨f,fd,ps,M,F,hb⟩:=h.ex
 intro pins s σ H Q I hq
 refine wpAny_Call_Name_kw (eI I hg h.glob ?_ hdb)
 refine PySem.W.callWith_K (h₀:=X.base) I.ok.mod.kin M.kp (bq (ha pos pins s σ H _ I hq) fun us s1 ⟨vs,H1,I1,r,hl,q⟩=>⟨I1.kIn,?_⟩) he hpl
 refine iV (dvs:=[]) (ds:=[]) (E:=E0) M F (hr.mono (Nat.le_add_left 2 k)) hb .nil j5 I1 r fun x dx n1 n2 ne=> ?_
 refine⟨x,dx,vs++[],rfl,by rw[List.append_nil];exact hl,aE,rfl,?_⟩
 rw[List.append_nil,fP]
 exact q x dx n1 n2 ne
end
section
variable{P:Program}{w:World}{K:Fg}{mg:Str->Option Value}{base:Bs}{C f:Addr}{fd:FuncData}{qual:Str}{st:Stmt}
theorem g9{a:Str}{p1 p2 p3 p4:Pos}(F:fM K "__init__" qual st f fd)(hb:bw st=[.Assign [.Attribute (.Name "self" p1) a p2] (.Name a p3) p4])(S:aj ["self",a] ["self",a] (ag st))
  (cl:iQ K C) (na:bu K C a) (hd:(a == .(U))=false) (hcd:(a == ("__classdict__":Str))=false):bM P w K mg base fS 1 f fd ["self",a] (kr C [a]):=by
 refine F.ok S (fun vs H Q E h=> ?_) (fun cdv A outer s H vs Q E hr h=> ?_)
 ·obtain⟨p,dx,r,rfl,hl,_⟩:=h
  match r,hl with|[_],_=>rfl
 ·obtain⟨p,dx,r,rfl,hl,hp,q⟩:=h
  match r,hl with
  |[v],_ =>
   have vis:∀x∈(["self",a]:List Str),oy (ag st) x:=fun x hx=>(S.par x hx).elim (fun z=> .inl z) fun z=> .inr (.inl z)
   rw[hb]
   refine⟨_,fQ (en (br (i:=0) rfl (vis "self" (by simp))) (br (i:=1) rfl (vis a (by simp)) hd hcd) rfl),?_⟩
   exact⟨v,rfl,_,rfl,p,C,dx,[],rfl,hp,cl,na,by show 0<1000;decide,q⟩
theorem eP{a b:Str}{p1 p2 p3 p4 q1 q2 q3 q4:Pos}(F:fM K "__init__" qual st f fd)(hb:bw st=[.Assign [.Attribute (.Name "self" p1) a p2] (.Name a p3) p4,.Assign [.Attribute (.Name "self" q1) b q2] (.Name b q3) q4])
  (S:aj ["self",a,b] ["self",a,b] (ag st)) (cl:iQ K C) (na:bu K C a) (nb:bu K C b) (hd:(a == .(U))=false) (hcd:(a == ("__classdict__":Str))=false)
  (hd':(b == .(U))=false) (hcd':(b == ("__classdict__":Str))=false) (ab:¬a=b):bM P w K mg base fS 1 f fd ["self",a,b] (kr C [a,b]):=by
 refine F.ok S (fun vs H Q E h=> ?_) (fun cdv A outer s H vs Q E hr h=> ?_)
 ·obtain⟨p,dx,r,rfl,hl,_⟩:=h
  match r,hl with|[_,_],_=>rfl
 ·obtain⟨p,dx,r,rfl,hl,hp,q⟩:=h
  match r,hl with
  |[v,u],_ =>
   have vis:∀x∈(["self",a,b]:List Str),oy (ag st) x:=fun x hx=>(S.par x hx).elim (fun z=> .inl z) fun z=> .inr (.inl z)
   rw[hb]
   refine⟨_,cO (en (br (i:=0) rfl (vis "self" (by simp))) (br (i:=1) rfl (vis a (by simp)) hd hcd) rfl) (fQ (en (br (i:=0) rfl (vis "self" (by simp))) (br (i:=2) rfl (vis b (by simp)) hd' hcd') rfl)),?_⟩
   refine⟨v,rfl,_,rfl,p,C,dx,[],rfl,hp,cl,na,(by show 0<1000;decide),u,rfl,_,rfl,p,C,dx,_,rfl,aE,cl,nb,(by show 1<1000;decide),?_⟩
   have e:bO b u (bO a v [])=[(a,v),(b,u)]:=by
    show(if a=b then _ else(a,v)::bO b u [])=_
    rw[if_neg ab]
    rfl
   rw[fP,e]
   exact q
theorem mf{a b c:Str}{p1 p2 p3 p4 q1 q2 q3 q4 r1 r2 r3 r4:Pos}(F:fM K "__init__" qual st f fd)(hb:bw st=[.Assign [.Attribute (.Name "self" p1) a p2] (.Name a p3) p4,.Assign [.Attribute (.Name "self" q1) b q2] (.Name b q3) q4,.Assign [.Attribute (.Name "self" r1) c r2] (.Name c r3) r4])
  (S:aj ["self",a,b,c] ["self",a,b,c] (ag st)) (cl:iQ K C) (na:bu K C a) (nb:bu K C b) (nc:bu K C c) (hd:(a == .(U))=false) (hcd:(a == ("__classdict__":Str))=false)
  (hd':(b == .(U))=false) (hcd':(b == ("__classdict__":Str))=false) (hd'':(c == .(U))=false) (hcd'':(c == ("__classdict__":Str))=false) (ab:¬a=b) (ac:¬a=c) (bc:¬b=c):bM P w K mg base fS 1 f fd ["self",a,b,c] (kr C [a,b,c]):=by
 refine F.ok S (fun vs H Q E h=> ?_) (fun cdv A outer s H vs Q E hr h=> ?_)
 ·obtain⟨p,dx,r,rfl,hl,_⟩:=h
  match r,hl with|[_,_,_],_=>rfl
 ·obtain⟨p,dx,r,rfl,hl,hp,q⟩:=h
  match r,hl with
  |[v,u,z],_ =>
   have vis:∀x∈(["self",a,b,c]:List Str),oy (ag st) x:=fun x hx=>(S.par x hx).elim (fun z=> .inl z) fun z=> .inr (.inl z)
   have e:bO b u (bO a v [])=[(a,v),(b,u)]:=by
    show(if a=b then _ else(a,v)::bO b u [])=_
    rw[if_neg ab]
    rfl
   rw[hb]
   refine⟨_,cO (en (br (i:=0) rfl (vis "self" (by simp))) (br (i:=1) rfl (vis a (by simp)) hd hcd) rfl) (cO (en (br (i:=0) rfl (vis "self" (by simp))) (br (i:=2) rfl (vis b (by simp)) hd' hcd') rfl) (fQ (en (br (i:=0) rfl (vis "self" (by simp))) (br (i:=3) rfl (vis c (by simp)) hd'' hcd'') rfl))),?_⟩
   refine⟨v,rfl,_,rfl,p,C,dx,[],rfl,hp,cl,na,(by show 0<1000;decide),u,rfl,_,rfl,p,C,dx,_,rfl,aE,cl,nb,(by show 1<1000;decide),z,rfl,_,rfl,p,C,dx,_,rfl,aE,cl,nc,?_,?_⟩
   ·rw[e];show 2<1000;decide
   ·have e':bO c z [(a,v),(b,u)]=[(a,v),(b,u),(c,z)]:=by
     show(if a=c then _ else(a,v)::(if b=c then _ else(b,u)::bO c z []))=_
     rw[if_neg ac,if_neg bc]
     rfl
    rw[fP,fP,e,e']
    exact q
end
def iy(lo:Int)(n:Nat):List V:=(List.range n).map fun(i:Nat)=>V.int (lo+(i:Int))
theorem pc{lo:Int}{n i:Nat}(h:i<n):(iy lo n)[i]? =some (.int (lo+(i:Int))):=by
 unfold iy
 rw[List.getElem?_map,List.getElem?_range h]
 rfl
theorem j7{lo:Int}{n:Nat}:(iy lo n).length=n:=by unfold iy;simp
structure bx(K:Fg)(C:Addr):Prop where
 pg:PySem.W.plainGet K C Str.empty=true
 hd:PySem.W.hasDictIn K C=true
 po:PySem.W.plainOver K C=true
 sa:PySem.W.findIn K (.ref C) "__setattr__"=some (some (.builtin "object.__setattr__"))
 ca:PySem.W.findIn K (.ref C) "__class__"=some (some (.builtin "object.__class__"))
 cs:PySem.W.specialIn K (.builtin "object.__class__") "__get__"=some (some (.builtin "getset_descriptor.__get__"))
 ct:PySem.W.takesIn K (.builtin "object.__class__")=some true
 cm:PySem.W.mroIn K C (.type "object")=some true
 mks:PySem.W.makesIn K C=true
 kp:PySem.W.keepIn K (.ref C)=true
theorem bx.cls{K:Fg}{C:Addr}(h:bx K C):iQ K C:=⟨h.pg,h.hd,h.po,h.sa⟩
theorem bx.ty{K:Fg}{C:Addr}(h:bx K C){H:Hp}{a dx:Addr}{fs:List (Str×V)}(e:H a=some (.ins C dx fs)):eK K H (.ref a) (.ref C):= .ins e h.cls h.ca h.cs h.ct h.cm
def cq(K:Fg)(f:Addr)(x qual:Str)(st:Stmt):Prop:=∃fd,fM K x qual st f fd
theorem xA{K:Fg}{x qual:Str}{st:Stmt}{f:Addr}{oc:Value}{od an:Option Addr}{osl:Array (Option Value)}{kV doc pm cdv ct:Value}(l:K.lookup f=some ⟨oc,od,.func (PySem.W.fnOf x qual (dJ st) (bw st) (ag st) .none kV doc pm an cdv ct),osl⟩)
  (c:PySem.W.codeIn K cdv qual=true) (k:PySem.W.keepIn K (.ref f)=true):cq K f x qual st:=⟨_,ro l c k⟩
theorem pd{K:Fg}{a:Addr}{its:Array Value}{n:Nat}{sl:Array (Option Value)}{xs:List V}(l:K.lookup a=some ⟨.type "tuple",none,.seq its n,sl⟩)(hs:its.size<=sizeLine)(hv:aG xs its.toList):jO K a xs :=
 ⟨_,its,n,l,rfl,rfl,rfl,hs,hv⟩
theorem kt{P:Program}{w:World}{K:Fg}{mg:Str->Option Value}{base:Bs}{CX:gS}{k:Nat}{f:Addr}{fd:FuncData}{ps:List Str}{sp:Sp}(no:∀vs H Q E,¬sp vs H Q E):bM P w K mg base CX k f fd ps sp :=
 ⟨fun vs H Q E h=>absurd h (no vs H Q E),fun A outer s H args us vs Q E _ _ _ _ h=>absurd h (no vs H Q E)⟩
structure rz(K:Fg)(mg:Str->Option Value)(x:Str)(st:Stmt)(ps:List Str)(f:Addr)(fd:FuncData):Prop where
 F:fM K x x st f fd
 b:bj K fd ps []
 m:mg x=some (.ref f)
theorem rz.at{P:Program}{w:World}{K:Fg}{mg:Str->Option Value}{base:Bs}{k:Nat}{x:Str}{st:Stmt}{ps:List Str}{f:Addr}{fd:FuncData}{sp:Sp}(h:rz K mg x st ps f fd)(G:bM P w K mg base fS k f fd ps sp) :
  p9 P w K mg base fS k x sp:=⟨f,fd,ps,h.m,h.F.kp,G,h.b⟩
section
variable{X:Cx}
theorem mh{x:Str}{i:Int}{tk:Tok}{pos:Pos}(hg:Gl X x)(hm:X.mg x=some (.int i tk))(hd:.(O)=false:=by decide):PE X (.Name x pos) (tC (.int i)):=il (v:= .int i) hg hm ⟨_,rfl⟩ hd
end
structure om where
 params:Arguments
 body:FuncBody
 scope:Scope
 free:List Str
abbrev AJ(n:om)(nm qual:Str)(cl:List (Str×Addr))(doc pm cdv ct:Value):FuncData :=
 { name:=nm,qualname:=qual,params:=n.params,body:=n.body,scope:=n.scope,globals:=mainGlobals,closure:=cl,defaults:= .none,kwdefaults:= .none,doc:=doc,pyModule:=pm,annotations:=none,code:=cdv,closureTuple:=ct,builtins:=builtinsNs }
def ku(n:om)(H:Hp)(q:Addr)(cl:List (Str×Addr)):Prop :=
 ∃(o:Obj) (u:HO) (nm qual:Str) (doc pm:Value) (cc:Addr) (ct:Value) (oc:Obj) (u2:HO),H q=some (.frz o u)/\o.cls= .type "function"/\o.data= .func (AJ n nm qual cl doc pm (.ref cc) ct)/\H cc=some (.frz oc u2)/\pV oc
structure fU(H:Hp)(free:List Str)(cl:List (Str×Addr))(vs:List V):Prop where
 len:free.length=vs.length
 val:∀(i:Nat) x v,free[i]? =some x->vs[i]? =some v->∃c ob u w,cl.lookup x=some c/\H c=some (.frz ob u)/\ob.data= .cell (some w)/\aP v w
 sub:∀x c,cl.lookup x=some c->x∈free
 inj:∀x y c,cl.lookup x=some c->cl.lookup y=some c->x=y
theorem ku.keep{n:om}{H H':Hp}{q:Addr}{cl:List (Str×Addr)}(h:ku n H q cl)(k:∀a o u,H a=some (.frz o u)->H' a=some (.frz o u)):ku n H' q cl :=
 let ⟨o,u,nm,qual,doc,pm,cc,ct,oc,u2,e1,e2,e3,e4,e5⟩:=h
 ⟨o,u,nm,qual,doc,pm,cc,ct,oc,u2,k _ _ _ e1,e2,e3,k _ _ _ e4,e5⟩
theorem fU.keep{H H':Hp}{fr:List Str}{cl:List (Str×Addr)}{vs:List V}(h:fU H fr cl vs)(k:∀a o u,H a=some (.frz o u)->H' a=some (.frz o u)):fU H' fr cl vs :=
 ⟨h.len,fun i x v e1 e2=>let ⟨c,ob,u,w,a1,a2,a3,a4⟩:=h.val i x v e1 e2;⟨c,ob,u,w,a1,k _ _ _ a2,a3,a4⟩,h.sub,h.inj⟩
section
variable{P:Program}{w:World}{A:Around}{s:Shared}{R:Result->Shared->Prop}{a:Addr}{args:Args}{o oc:Obj}{fd:FuncData}{cc:Addr}{fv:Array Value}{q:Str}{tq:Tok}
end
abbrev zS:=List V->List V->Hp->VK->XK->Prop
section
variable{CX:gS}{P:Program}{w:World}{K:Fg}{mg:Str->Option Value}{base:Bs}{k:Nat}{n:om}{N ps:List Str}{sp:zS}
end
section
variable{X:Cx}{CX:gS}{k:Nat}{E:XK}{x m:Str}{p pos apos:Pos}{e o:Expr}{es:List Expr}{ta:TE}{t:TA}{ι :Type}{nn: ι ->om}{sp: ι ->zS}
end
section
variable{X:Cx}{pins:List (Addr×Obj)}{σ :St}{H:Hp}{s:Shared}
end
end L2
end
section
namespace DN
open PySem L2
inductive PV where
 |non|bl (b:Bool)|int (i:Int)|str (x:Str)
 |tup (xs:List PV)|lst (xs:List PV)|obj (k:Nat) (xs:List PV)|dic (ks:List Key) (xs:List PV)|clo (f:Nat) (xs:List PV)|dit (ks:List (List Key)) (xs:List PV)
  |dbo (ks:List Key) (xs:List PV)
  |exn (k:Nat)
inductive Rx (α :Type) where
 |ok (a: α)|bad|exc (c:Nat)
noncomputable def Rx.bind{α β :Type}:Rx α ->(α ->Rx β)->Rx β
 |.ok a,f=>f a
 |.bad,_=> .bad
 |.exc c,_=> .exc c
theorem ak{α β :Type}{m:Rx α}{f: α ->Rx β}{b: β}(h:m.bind f= .ok b):∃a,m= .ok a/\f a= .ok b:=by
 cases m with
 |ok a=>exact⟨a,rfl,h⟩
 |bad=>cases h
 |exc c=>cases h
@[simp]theorem aM{α β :Type}(a: α)(f: α ->Rx β):(Rx.ok a).bind f=f a:=rfl
@[simp]theorem uj{α β :Type}(f: α ->Rx β):(Rx.bad:Rx α).bind f= .bad:=rfl
@[simp]theorem uk{α β :Type}(c:Nat)(f: α ->Rx β):(Rx.exc c:Rx α).bind f= .exc c:=rfl
structure Pg where
 cA:Nat->Addr
 fN:Nat->List Str
 nF:Nat->om
abbrev Av:=Addr->Prop
def sS(K:Fg)(H:Hp)(A:Av)(a:Addr)(vs:List V):Prop :=
 (H a=some (.lst vs)/\ ¬A a)\/(∃o,H a=some (.frz o (.lst vs))/\ ∀v∈vs,∃i,v=V.int i) \/
  ((∃(o:Obj) (its:Array Value) (n:Nat),K.lookup a=some o/\o.cls= .type "list"/\o.dict=none/\o.data= .seq its n/\its.size<=sizeLine/\aG vs its.toList)/\ ∀v∈vs,∃i,v=V.int i)
theorem sS.sq{K:Fg}{H:Hp}{A:Av}{a:Addr}{vs:List V}(h:sS K H A a vs):dI K H a vs:=by
 rcases h with⟨h,_⟩|⟨o,h,_⟩|⟨h,_⟩
 ·exact .inl (.inl h)
 ·exact .inl (.inr ⟨o,h⟩)
 ·exact .inr h
mutual
noncomputable def cW(K:Fg)(G:Pg)(H:Hp)(A:Av):PV->V->Prop
 |.non,v=>v= .non
 |.bl b,v=>v= .bl b
 |.int i,v=>v= .int i
 |.str x,v=>v= .str x
 |.tup xs,v=>∃a vs,v= .ref a/\H a=some (.tup vs)/\az K G H A xs vs
 |.lst xs,v=>∃a vs,v= .ref a/\sS K H A a vs/\az K G H A xs vs
 |.obj k xs,v=>∃a dx vs,v= .ref a/\H a=some (.ins (G.cA k) dx ((G.fN k).zip vs))/\(G.fN k).length=vs.length/\ ¬A a/\az K G H A xs vs
 |.dic ks xs,v=>∃a vs ep,v= .ref a/\H a=some (.dK (ks.zip vs) ep)/\ks.length=vs.length/\ ¬A a/\az K G H A xs vs
 |.dit ks xs,v=>∃a vs ep,v= .ref a/\H a=some (.dT (ks.zip vs) ep)/\ks.length=vs.length/\ ¬A a/\az K G H A xs vs
 |.dbo _ _,_=>False
 |.exn k,v=>∃a o u,v= .ref a/\H a=some (.frz o u)/\o.cls= .ref (G.cA (1000+k))
 |.clo f xs,v=>∃q cl vs,v= .ref q/\ku (G.nF f) H q cl/\fU H (G.nF f).free cl vs/\az K G H A xs vs
noncomputable def az(K:Fg)(G:Pg)(H:Hp)(A:Av):List PV->List V->Prop
 |[],vs=>vs=[]
 |x::xs,vs=>∃v r,vs=v::r/\cW K G H A x v/\az K G H A xs r
end
abbrev Mt(o:HO):Prop:=(∀xs,o ≠ .tup xs)/\ ∀o' u,o ≠ .frz o' u
structure Kp(K:Fg)(G:Pg)(H:Hp)(A:Av)(H':Hp)(A':Av):Prop where
 rd:∀a o,H a=some o->¬A a->H' a=some o
 tp:∀a vs,H a=some (.tup vs)->H' a=some (.tup vs)
 fz:∀a o u,H a=some (.frz o u)->H' a=some (.frz o u)
 av:∀a,H a≠none->A' a->A a
section
variable{K:Fg}{G:Pg}{H H' H2:Hp}{A A' A2:Av}
theorem Kp.rdL(k:Kp K G H A H' A'){a:Addr}{vs:List V}(h:sS K H A a vs):sS K H' A' a vs:=by
 rcases h with⟨h,n⟩|⟨o,h,hi⟩|h
 ·exact .inl ⟨k.rd _ _ h n,fun z=>n (k.av _ (by rw[h];simp) z)⟩
 ·exact .inr (.inl ⟨o,k.fz _ _ _ h,hi⟩)
 ·exact .inr (.inr h)
mutual
theorem Kp.rep(k:Kp K G H A H' A'):∀{w:PV} {v:V},cW K G H A w v->cW K G H' A' w v
 |.non,_,h=>h
 |.bl _,_,h=>h
 |.int _,_,h=>h
 |.str _,_,h=>h
 |.tup xs,v,h=>by
  obtain⟨a,vs,e,s,r⟩:=h
  exact⟨a,vs,e,k.tp _ _ s,Kp.reps k r⟩
 |.lst xs,v,h=>by
  obtain⟨a,vs,e,s,r⟩:=h
  exact⟨a,vs,e,k.rdL s,Kp.reps k r⟩
 |.obj c xs,v,h=>by
  obtain⟨a,dx,vs,e,s,l,n,r⟩:=h
  exact⟨a,dx,vs,e,k.rd _ _ s n,l,fun z=>n (k.av _ (by rw[s];simp) z),Kp.reps k r⟩
 |.dic ks xs,v,h=>by
  obtain⟨a,vs,ep,e,s,l,n,r⟩:=h
  exact⟨a,vs,ep,e,k.rd _ _ s n,l,fun z=>n (k.av _ (by rw[s];simp) z),Kp.reps k r⟩
 |.dit ks xs,v,h=>by
  obtain⟨a,vs,ep,e,s,l,n,r⟩:=h
  exact⟨a,vs,ep,e,k.rd _ _ s n,l,fun z=>n (k.av _ (by rw[s];simp) z),Kp.reps k r⟩
 |.dbo _ _,v,h=>h.elim
 |.exn _,v,h=>by
  obtain⟨a,o,u,e,s,c⟩:=h
  exact⟨a,o,u,e,k.fz _ _ _ s,c⟩
 |.clo f xs,v,h=>by
  obtain⟨q,cl,vs,e,hc,hce,r⟩:=h
  exact⟨q,cl,vs,e,hc.keep k.fz,hce.keep k.fz,Kp.reps k r⟩
theorem Kp.reps(k:Kp K G H A H' A'):∀{ws:List PV} {vs:List V},az K G H A ws vs->az K G H' A' ws vs
 |[],vs,h=>h
 |w::ws,vs,h=>by
  obtain⟨v,r,e,h1,h2⟩:=h
  exact⟨v,r,e,Kp.rep k h1,Kp.reps k h2⟩
end
theorem Kp.of_same(s:Same H H'):Kp K G H A H' A:=⟨fun a o h _=>s _ _ h,fun a vs h=>s _ _ h,fun a o u h=>s _ _ h,fun a _ h=>h⟩
theorem Kp.weak(h:∀a,A' a->A a):Kp K G H A H A':=⟨fun a o h _=>h,fun a vs h=>h,fun a o u h=>h,fun a _ z=>h a z⟩
theorem Kp.trans(k:Kp K G H A H' A')(k2:Kp K G H' A' H2 A2):Kp K G H A H2 A2 :=
 ⟨fun a o h n=>k2.rd _ _ (k.rd _ _ h n) fun z=>n (k.av _ (by rw[h];simp) z),fun a vs h=>k2.tp _ _ (k.tp _ _ h),fun a o u h=>k2.fz _ _ _ (k.fz _ _ _ h),
  fun a n z=>by
   by_cases q:A a
   ·exact q
   ·cases e:H a with
    |none=>exact absurd e n
    |some o=>exact k.av a n (k2.av a (by rw[k.rd _ _ e q];simp) z)⟩
theorem Kp.own{p:Addr}{o u:HO}(hA:A p)(hp:H p=some o)(m:Mt o):Kp K G H A (upd H p u) A :=
 ⟨fun a x h n=>by
   rw[ay (by intro z;subst z;exact n hA)];exact h,
  fun a vs h=>by
   rw[ay (by intro z;subst z;rw[hp]at h;exact m.1 _ (Option.some.inj h))];exact h,
  fun a o' u' h=>by
   rw[ay (by intro z;subst z;rw[hp]at h;exact m.2 _ _ (Option.some.inj h))];exact h,
  fun a _ h=>h⟩
theorem Kp.take{p:Addr}(hp:H p=none)(hs:Same H H')(h:∀a,A' a->a=p\/A a):Kp K G H A H' A' :=
 ⟨fun a o h _=>hs _ _ h,fun a vs h=>hs _ _ h,fun a o u h=>hs _ _ h,fun a n z=>by
  rcases h a z with e|e
  ·subst e;exact absurd hp n
  ·exact e⟩
theorem cW.same{w:PV}{v:V}(h:cW K G H A w v)(s:Same H H'):cW K G H' A w v:=(Kp.of_same s).rep h
theorem az.same{ws:List PV}{vs:List V}(h:az K G H A ws vs)(s:Same H H'):az K G H' A ws vs:=(Kp.of_same s).reps h
theorem az.len:∀{ws:List PV} {vs:List V},az K G H A ws vs->ws.length=vs.length
 |[],vs,h=>by have h:vs=[]:=h;rw[h];rfl
 |w::ws,vs,h=>by
  obtain⟨v,r,e,_,h2⟩:=h
  subst e
  rw[List.length_cons,List.length_cons,az.len h2]
theorem az.get:∀{ws:List PV} {vs:List V} {i:Nat} {w:PV},az K G H A ws vs->ws[i]? =some w->∃v,vs[i]? =some v/\cW K G H A w v
 |[],vs,i,w,h,e=>by simp at e
 |x::ws,vs,0,w,h,e=>by
  obtain⟨v,r,e',h1,h2⟩:=h
  subst e'
  simp at e;subst e
  exact⟨v,by simp,h1⟩
 |x::ws,vs,i+1,w,h,e=>by
  obtain⟨v,r,e',h1,h2⟩:=h
  subst e'
  obtain⟨u,q1,q2⟩:=az.get (i:=i) h2 (by simpa using e)
  exact⟨u,by simpa using q1,q2⟩
theorem az.app:∀{ws ws':List PV} {vs vs':List V},az K G H A ws vs->az K G H A ws' vs'->az K G H A (ws++ws') (vs++vs')
 |[],ws',vs,vs',h,h'=>by have h:vs=[]:=h;subst h;exact h'
 |w::ws,ws',vs,vs',h,h'=>by
  obtain⟨v,r,e,h1,h2⟩:=h
  subst e
  exact⟨v,r++vs',rfl,h1,az.app h2 h'⟩
theorem az.one{w:PV}{v:V}(h:cW K G H A w v):az K G H A [w] [v]:=⟨v,[],rfl,h,rfl⟩
theorem az.snoc{ws:List PV}{vs:List V}{w:PV}{v:V}(h:az K G H A ws vs)(h':cW K G H A w v):az K G H A (ws++[w]) (vs++[v]):=h.app (.one h')
theorem az.take:∀{ws:List PV} {vs:List V} (n:Nat),az K G H A ws vs->az K G H A (ws.take n) (vs.take n)
 |ws,vs,0,h=>by simp[az]
 |[],vs,n+1,h=>by have h:vs=[]:=h;subst h;rfl
 |w::ws,vs,n+1,h=>by
  obtain⟨v,r,e,h1,h2⟩:=h
  subst e
  exact⟨v,r.take n,rfl,h1,az.take n h2⟩
theorem az.drop:∀{ws:List PV} {vs:List V} (n:Nat),az K G H A ws vs->az K G H A (ws.drop n) (vs.drop n)
 |ws,vs,0,h=>by simpa using h
 |[],vs,n+1,h=>by have h:vs=[]:=h;subst h;rfl
 |w::ws,vs,n+1,h=>by
  obtain⟨v,r,e,h1,h2⟩:=h
  subst e
  exact az.drop n h2
theorem az.ints:∀(ns:List Int),az K G H A (ns.map PV.int) (ns.map V.int)
 |[]=>rfl
 |n::ns=>⟨_,_,rfl,rfl,az.ints ns⟩
end
inductive Ow where
 |lst (xs:List PV)|dic (ks:List Key) (xs:List PV)|obj (k:Nat) (xs:List PV)|dit (ks:List (List Key)) (xs:List PV)
inductive Sl where
 |no|v (w:PV)|own (o:Ow)|bor (w:PV)|ino (o:Ow)|ini (k:Nat) (xs:List PV)
  |dol (ks:List Key) (xss:List (List PV))|als (d j:Nat)
  |rgn (w:PV)
abbrev aH:=List Sl
noncomputable def Ow.pv:Ow->PV
 |.lst xs=> .lst xs
 |.dic ks xs=> .dic ks xs
 |.obj k xs=> .obj k xs
 |.dit ks xs=> .dit ks xs
def dQ(K:Fg)(G:Pg)(H:Hp)(A:Av):Ow->Addr->Prop
 |.lst xs,p=>∃vs,H p=some (.lst vs)/\az K G H A xs vs
 |.dic ks xs,p=>∃vs ep,H p=some (.dK (ks.zip vs) ep)/\ks.length=vs.length/\az K G H A xs vs
 |.dit ks xs,p=>∃vs ep,H p=some (.dT (ks.zip vs) ep)/\ks.length=vs.length/\az K G H A xs vs
 |.obj k xs,p=>∃dx vs,H p=some (.ins (G.cA k) dx ((G.fN k).zip vs))/\(G.fN k).length=vs.length/\az K G H A xs vs
def pe(K:Fg)(G:Pg)(H:Hp)(A:Av)(k:Nat)(xs:List PV)(p:Addr):Prop:=∃dx vs,H p=some (.ins (G.cA k) dx (((G.fN k).take xs.length).zip vs))/\xs.length<=(G.fN k).length/\az K G H A xs vs
structure Fr where
 H0:Hp
 A0:Av
 B0:Av
 lx:Option Addr
def ga(c:Fr)(H:Hp):Prop:=∀a o,c.H0 a=some o->c.lx≠some a->H a=some o
theorem ga.trans{c:Fr}{H H':Hp}(h:ga c H)(s:Same H H'):ga c H':=fun a o e n=>s _ _ (h a o e n)
theorem ga.free{c:Fr}{H:Hp}{p:Addr}(h:ga c H)(hp:H p=none)(n:c.lx≠some p):c.H0 p=none:=by
 cases e:c.H0 p with
 |none=>rfl
 |some o=>rw[h p o e n]at hp;cases hp
theorem ga.same{c:Fr}{H:Hp}(h:ga c H)(n:c.lx=none):Same c.H0 H:=fun a o e=>h a o e (by rw[n];simp)
theorem ga.of{c:Fr}{H:Hp}(s:Same c.H0 H):ga c H:=fun a o e _=>s a o e
abbrev Ows:=Nat->Option Addr
def av(c:Fr)(ow:Ows):Av:=fun a=>c.A0 a\/ ∃i,ow i=some a
def gb(K:Fg)(G:Pg)(H:Hp)(A B:Av)(w:PV)(v:V):Prop:=∃(ks:List Key) (xss:List (List PV)) (p:Addr) (qs:List Addr) (ep:Nat),w= .dbo ks (xss.map PV.lst)/\v= .ref p/\H p=some (.dK (ks.zip (qs.map V.ref)) ep)/\B p/\ks.length=qs.length/\xss.length=qs.length/\ ∀(j:Nat) q xs,qs[j]? =some q->xss[j]? =some xs->dQ K G H A (.lst xs) q/\B q
def bz(K:Fg)(G:Pg)(H:Hp)(A:Av)(w:PV)(v:V):Prop:=cW K G H A w v\/(∃x p,w=x.pv/\v= .ref p/\dQ K G H A x p)\/gb K G H A (fun _=>True) w v
def vx(n d j:Nat):Nat:=n+(1000*d+j)
def iz(K:Fg)(G:Pg)(c:Fr)(n:Nat)(H:Hp)(A:Av)(ow:Ows)(i:Nat):Sl->Option V->Prop
 |.no,_=>ow i=none
 |.v w,o=>ow i=none/\ ∃v,o=some v/\cW K G H A w v
 |.own x,o=>∃p,ow i=some p/\o=some (.ref p)/\dQ K G H A x p
 |.bor w,o=>ow i=none/\ ∃v,o=some v/\(cW K G H A w v\/(∃x p,w=x.pv/\v= .ref p/\dQ K G H A x p/\c.B0 p)\/gb K G H A c.B0 w v)
 |.ino x,o=>ow i=none/\i=0/\ ∃p,o=some (.ref p)/\c.lx=some p/\dQ K G H A x p
 |.ini k xs,o=>ow i=none/\i=0/\ ∃p,o=some (.ref p)/\c.lx=some p/\pe K G H A k xs p
 |.dol ks xss,o=>∃(p:Addr) (qs:List Addr),ow i=some p/\o=some (.ref p)/\(∃ep,H p=some (.dK (ks.zip (qs.map V.ref)) ep))/\ks.length=qs.length/\xss.length=qs.length/\qs.length<=1000/\ ∀j q xs,qs[j]? =some q->xss[j]? =some xs->ow (vx n i j)=some q/\dQ K G H A (.lst xs) q
 |.als d j,o=>ow i=none/\ ∃q,o=some (.ref q)/\ow (vx n d j)=some q
 |.rgn w,o=>ow i=none/\ ∃(k:Nat) (x:PV) (xs:List PV) (ys:List PV) (a dx:Addr) (v1:V) (p1 p0:Addr) (vs us:List V),w= .obj k [x,.lst (.lst xs::ys)]/\o=some (.ref a)/\H a=some (.ins (G.cA k) dx ((G.fN k).zip [v1,.ref p1]))/\H p1=some (.lst (.ref p0::vs))/\H p0=some (.lst us)/\ow (vx n i 0)=some p1/\ow (vx n i 1)=some p0/\cW K G H (fun b=>A b/\b≠p1/\b≠p0) w (.ref a)
structure aN(K:Fg)(G:Pg)(c:Fr)(H:Hp)(ow:Ows)(ps:aH)(σ :St):Prop where
 len:ps.length= σ.length
 same:ga c H
 lent:∀p,c.lx=some p->c.A0 p/\H p≠none
 a0:∀a,c.A0 a->c.H0 a≠none
 b0:∀a,c.B0 a->c.H0 a≠none/\c.lx≠some a
 fresh:∀i p,ow i=some p->c.H0 p=none
 inj:∀i j p,ow i=some p->ow j=some p->i=j
 out:∀i p,ow i=some p->i<ps.length\/H p≠none
 slot:∀i s o,ps[i]? =some s-> σ[i]? =some o->iz K G c ps.length H (av c ow) ow i s o
section
variable{K:Fg}{G:Pg}{H H':Hp}{A A':Av}{c:Fr}{ow:Ows}{ps:aH}{σ :St}
theorem dQ.at{x:Ow}{p:Addr}(h:dQ K G H A x p):∃o,H p=some o/\Mt o:=by
 cases x with
 |lst xs=>obtain⟨vs,e,_⟩:=h;exact⟨_,e,And.intro (fun _ z=>by cases z) (fun _ _ z=>by cases z)⟩
 |dic ks xs=>obtain⟨vs,ep,e,_⟩:=h;exact⟨_,e,And.intro (fun _ z=>by cases z) (fun _ _ z=>by cases z)⟩
 |dit ks xs=>obtain⟨vs,ep,e,_⟩:=h;exact⟨_,e,And.intro (fun _ z=>by cases z) (fun _ _ z=>by cases z)⟩
 |obj k xs=>obtain⟨dx,vs,e,_⟩:=h;exact⟨_,e,And.intro (fun _ z=>by cases z) (fun _ _ z=>by cases z)⟩
theorem pe.keep{k:Nat}{xs:List PV}{p:Addr}(h:pe K G H A k xs p)(kp:Kp K G H A H' A')(e:H' p=H p):pe K G H' A' k xs p:=by
 obtain⟨dx,vs,q,l,r⟩:=h;exact⟨dx,vs,by rw[e];exact q,l,kp.reps r⟩
theorem dQ.keep{x:Ow}{p:Addr}(h:dQ K G H A x p)(k:Kp K G H A H' A')(e:H' p=H p):dQ K G H' A' x p:=by
 cases x with
 |lst xs=>obtain⟨vs,q,r⟩:=h;exact⟨vs,by rw[e];exact q,k.reps r⟩
 |dic ks xs=>obtain⟨vs,ep,q,l,r⟩:=h;exact⟨vs,ep,by rw[e];exact q,l,k.reps r⟩
 |dit ks xs=>obtain⟨vs,ep,q,l,r⟩:=h;exact⟨vs,ep,by rw[e];exact q,l,k.reps r⟩
 |obj c xs=>obtain⟨dx,vs,q,l,r⟩:=h;exact⟨dx,vs,by rw[e];exact q,l,k.reps r⟩
theorem aN.get(R:aN K G c H ow ps σ){i:Nat}{s:Sl}(e:ps[i]? =some s):∃o, σ[i]? =some o/\iz K G c ps.length H (av c ow) ow i s o:=by
 have hi:i<ps.length:=(List.getElem?_eq_some_iff.mp e).1
 have hi':i<σ.length:=by rw[<-R.len];exact hi
 exact⟨σ[i],List.getElem?_eq_getElem hi',R.slot i s _ e (List.getElem?_eq_getElem hi')⟩
theorem aN.getV(R:aN K G c H ow ps σ){i:Nat}{w:PV}(e:ps[i]? =some (.v w)):∃v, σ[i]? =some (some v)/\cW K G H (av c ow) w v:=by
 obtain⟨o,eo,_,v,rfl,r⟩:=R.get e
 exact⟨v,eo,r⟩
theorem aN.getO(R:aN K G c H ow ps σ){i:Nat}{x:Ow}(e:ps[i]? =some (.own x)):∃p,ow i=some p/\ σ[i]? =some (some (.ref p))/\dQ K G H (av c ow) x p:=by
 obtain⟨o,eo,p,e1,rfl,r⟩:=R.get e
 exact⟨p,e1,eo,r⟩
theorem aN.used(R:aN K G c H ow ps σ):∀a,av c ow a->H a≠none:=by
 intro a h
 rcases h with h|⟨i,h⟩
 ·by_cases hl:c.lx=some a
  ·exact(R.lent a hl).2
  ·cases e:c.H0 a with
   |none=>exact absurd e (R.a0 a h)
   |some o=>rw[R.same _ _ e hl];simp
 ·rcases R.out i a h with hi|hv
  case inr=>exact hv
  obtain⟨o,eo,q⟩:=R.get (List.getElem?_eq_getElem hi)
  cases e:ps[i] with
  |no=>rw[e]at q;rw[show ow i=none from q]at h;cases h
  |v w=>rw[e]at q;rw[q.1]at h;cases h
  |bor w=>rw[e]at q;rw[q.1]at h;cases h
  |ino x=>rw[e]at q;rw[q.1]at h;cases h
  |ini k xs=>rw[e]at q;rw[q.1]at h;cases h
  |als d j=>rw[e]at q;rw[q.1]at h;cases h
  |rgn w=>rw[e]at q;rw[q.1]at h;cases h
  |dol ks xss =>
   rw[e]at q
   obtain⟨p,qs,e1,_,⟨_,hp⟩,_⟩:=q
   rw[e1]at h;cases h
   rw[hp];simp
  |own x =>
   rw[e]at q
   obtain⟨p,e1,_,r⟩:=q
   rw[e1]at h;cases h
   obtain⟨o',e',_⟩:=r.at
   rw[e'];simp
theorem gb.keep{B:Av}{w:PV}{v:V}(h:gb K G H A B w v)(k:Kp K G H A H' A')(e:∀p,B p->H p≠none->H' p=H p):gb K G H' A' B w v:=by
 obtain⟨ks,xss,p,qs,ep,e1,e2,e3,b,l1,l2,h⟩:=h
 refine⟨ks,xss,p,qs,ep,e1,e2,by rw[e p b (by rw[e3];simp)];exact e3,b,l1,l2,fun j q xs h1 h2=> ?_⟩
 obtain⟨r,b⟩:=h j q xs h1 h2
 obtain⟨o,eo,_⟩:=r.at
 exact⟨r.keep k (e q b (by rw[eo];simp)),b⟩
theorem gb.mono{B B':Av}{w:PV}{v:V}(h:gb K G H A B w v)(f:∀a,B a->H a≠none->B' a):gb K G H A B' w v:=by
 obtain⟨ks,xss,p,qs,ep,e1,e2,e3,b,l1,l2,h⟩:=h
 refine⟨ks,xss,p,qs,ep,e1,e2,e3,f p b (by rw[e3];simp),l1,l2,fun j q xs h1 h2=> ?_⟩
 obtain⟨r,b⟩:=h j q xs h1 h2
 obtain⟨o,eo,_⟩:=r.at
 exact⟨r,f q b (by rw[eo];simp)⟩
theorem dA{w:PV}{v:V}{A A':Av}(b0:∀a,c.B0 a->c.H0 a≠none/\c.lx≠some a)(s:ga c H)(s':ga c H')(k:Kp K G H A H' A')(h:cW K G H A w v\/(∃x p,w=x.pv/\v= .ref p/\dQ K G H A x p/\c.B0 p)\/gb K G H A c.B0 w v) :
  cW K G H' A' w v\/(∃x p,w=x.pv/\v= .ref p/\dQ K G H' A' x p/\c.B0 p)\/gb K G H' A' c.B0 w v:=by
 have st:∀p,c.B0 p->H' p=H p:=fun p n=>by
  cases q:c.H0 p with
  |none=>exact absurd q (b0 p n).1
  |some o=>rw[s _ _ q (b0 p n).2,s' _ _ q (b0 p n).2]
 rcases h with h|⟨x,p,e1,e2,r,n⟩|h
 ·exact .inl (k.rep h)
 ·exact .inr (.inl ⟨x,p,e1,e2,r.keep k (st p n),n⟩)
 ·exact .inr (.inr (h.keep k fun p b _=>st p b))
theorem j8{n i:Nat}{w:PV}{o:Option V}{ow':Ows}{A A':Av}(q:iz K G c n H A ow i (.rgn w) o)(k:Kp K G H A H' A')(hr:ow' i=ow i)(hv:∀d j q,ow (vx n d j)=some q->ow' (vx n d j)=some q)
  (hw:∀j p,j<1000->ow (vx n i j)=some p->H' p=H p):iz K G c n H' A' ow' i (.rgn w) o:=by
 obtain⟨z,k',x,xs,ys,a,dx,v1,p1,p0,vs,us,e1,e2,e3,e4,e5,e6,e7,r⟩:=q
 have h1:=hw 0 p1 (by decide) e6
 have h0:=hw 1 p0 (by decide) e7
 have kk:Kp K G H (fun b=>A b/\b≠p1/\b≠p0) H' (fun b=>A' b/\b≠p1/\b≠p0):=⟨fun b o hb n=>by
   by_cases y1:b=p1
   ·subst y1;rw[h1];exact hb
   ·by_cases y0:b=p0
    ·subst y0;rw[h0];exact hb
    ·exact k.rd _ _ hb fun y=>n ⟨y,y1,y0⟩,k.tp,k.fz,fun b hb y=>⟨k.av b hb y.1,y.2⟩⟩
 refine⟨by rw[hr];exact z,k',x,xs,ys,a,dx,v1,p1,p0,vs,us,e1,e2,?_,by rw[h1];exact e4,by rw[h0];exact e5,hv _ _ _ e6,hv _ _ _ e7,kk.rep r⟩
 rw[e1]at r
 obtain⟨a',dx',vs',ea,hs,_,n,_⟩:=r
 cases ea
 exact kk.rd _ _ e3 n
theorem iz.keep{n i:Nat}{x:Sl}{o:Option V}{ow':Ows}{A A':Av}(q:iz K G c n H A ow i x o)(b0:∀a,c.B0 a->c.H0 a≠none/\c.lx≠some a)(s:ga c H)(s':ga c H')(k:Kp K G H A H' A')(hr:ow' i=ow i)(hv:∀d j q,ow (vx n d j)=some q->ow' (vx n d j)=some q)
  (ho:∀p,ow i=some p->H' p=H p) (hw:∀j p,j<1000->ow (vx n i j)=some p->H' p=H p) (el:∀p,c.lx=some p->H' p=H p):iz K G c n H' A' ow' i x o:=by
 cases x with
 |no=>show ow' i=none;rw[hr];exact q
 |v w=>obtain⟨z,v,e3,r⟩:=q;exact⟨by rw[hr];exact z,v,e3,k.rep r⟩
 |own y=>obtain⟨p,e3,e4,r⟩:=q;exact⟨p,by rw[hr];exact e3,e4,r.keep k (ho p e3)⟩
 |bor w=>obtain⟨z,v,e3,r⟩:=q;exact⟨by rw[hr];exact z,v,e3,dA b0 s s' k r⟩
 |ino y=>obtain⟨z,z2,p,e3,e4,r⟩:=q;exact⟨by rw[hr];exact z,z2,p,e3,e4,r.keep k (el p e4)⟩
 |ini c xs=>obtain⟨z,z2,p,e3,e4,r⟩:=q;exact⟨by rw[hr];exact z,z2,p,e3,e4,r.keep k (el p e4)⟩
 |dol ks xss =>
  obtain⟨p,qs,e1,e2,hp,l1,l2,l3,h⟩:=q
  refine⟨p,qs,by rw[hr];exact e1,e2,by rw[ho p e1];exact hp,l1,l2,l3,fun j q xs h1 h2=> ?_⟩
  obtain⟨h3,h4⟩:=h j q xs h1 h2
  exact⟨hv i j q h3,h4.keep k (hw j q (Nat.lt_of_lt_of_le (List.getElem?_eq_some_iff.mp h1).1 l3) h3)⟩
 |als d j=>obtain⟨z,q',e3,e4⟩:=q;exact⟨by rw[hr];exact z,q',e3,hv d j q' e4⟩
 |rgn w=>exact j8 q k hr hv hw
theorem aN.keep(R:aN K G c H ow ps σ)(s:ga c H')(k:Kp K G H (av c ow) H' (av c ow))(e:∀i p,ow i=some p->H' p=H p)(el:∀p,c.lx=some p->H' p=H p):aN K G c H' ow ps σ :=by
 refine⟨R.len,s,fun p h=>⟨(R.lent p h).1,by rw[el p h];exact(R.lent p h).2⟩,R.a0,R.b0,R.fresh,R.inj,fun i p h=> ?_,fun i x o e1 e2=> ?_⟩
 ·rcases R.out i p h with q|q
  ·exact .inl q
  ·right;rw[e i p h];exact q
 ·exact(R.slot i x o e1 e2).keep R.b0 R.same s k rfl (fun _ _ _ h=>h) (fun p h=>e i p h) (fun j p _ h=>e _ p h) el
theorem aN.grow(R:aN K G c H ow ps σ)(s:Same H H'):aN K G c H' ow ps σ :=
 R.keep (R.same.trans s) (Kp.of_same s) (fun i p e=>by
  cases q:H p with
  |none=>exact absurd q (R.used p (.inr ⟨i,e⟩))
  |some o=>exact s _ _ q) fun p e=>by
  cases q:H p with
  |none=>exact absurd q (R.lent p e).2
  |some o=>exact s _ _ q
noncomputable def dR(n:Nat)(ow:Ows)(i:Nat):Ows:=fun j=>if j=i/\i<n then none else ow j
noncomputable def rA(ow:Ows)(i:Nat)(p:Addr):Ows:=fun j=>if j=i then some p else ow j
theorem iA{n i:Nat}:∀a,av c (dR n ow i) a->av c ow a:=by
 intro a h
 rcases h with h|⟨j,h⟩
 ·exact .inl h
 ·unfold dR at h
  split at h
  ·cases h
  ·exact .inr ⟨j,h⟩
theorem rB{n i:Nat}:∀d j q,ow (vx n d j)=some q->dR n ow i (vx n d j)=some q:=by
 intro d j q h
 unfold dR
 rw[if_neg (by rintro⟨z,hi⟩;unfold vx at z;omega)]
 exact h
theorem aN.setV(R:aN K G c H ow ps σ){i:Nat}{w:PV}{v:V}(r:cW K G H (av c ow) w v):aN K G c H (dR ps.length ow i) (ps.set i (.v w)) (σ.set i (some v)):=by
 have k:Kp K G H (av c ow) H (av c (dR ps.length ow i)):=Kp.weak iA
 refine⟨by simp[R.len],R.same,R.lent,R.a0,R.b0,fun j p e=> ?_,fun j j' p e e'=> ?_,fun j p h=> ?_,fun j x o e1 e2=> ?_⟩
 ·unfold dR at e;split at e
  ·cases e
  ·exact R.fresh j p e
 ·unfold dR at e e'
  split at e
  ·cases e
  ·split at e'
   ·cases e'
   ·exact R.inj j j' p e e'
 ·unfold dR at h;split at h
  ·cases h
  ·rw[List.length_set];exact R.out j p h
 ·rw[List.length_set]
  by_cases hj:j=i
  ·subst hj
   have hl:j<ps.length:=by
    have:=(List.getElem?_eq_some_iff.mp e1).1
    simpa using this
   rw[List.getElem?_set_self hl]at e1
   rw[List.getElem?_set_self (by rw[<-R.len];exact hl)]at e2
   cases e1;cases e2
   exact⟨by unfold dR;rw[if_pos ⟨rfl,hl⟩],v,rfl,k.rep r⟩
  ·rw[List.getElem?_set_ne (fun z=>hj z.symm)]at e1 e2
   have eo:dR ps.length ow i j=ow j:=by unfold dR;rw[if_neg (fun z=>hj z.1)]
   exact(R.slot j x o e1 e2).keep R.b0 R.same R.same k eo rB .(D) (fun _ _ _ _=>rfl) .(D)
theorem aN.chgL(R:aN K G c H ow ps σ){s s':Sl}{p:Addr}{o u:HO}(e:ps[0]? =some s)(hl:c.lx=some p)(hp:H p=some o)(m:Mt o)(r:∀v, σ[0]? =some v->iz K G c ps.length (upd H p u) (av c ow) ow 0 s' v) :
  aN K G c (upd H p u) ow (ps.set 0 s') σ /\Kp K G H (av c ow) (upd H p u) (av c ow):=by
 have hA:=(R.lent p hl).1
 have k:Kp K G H (av c ow) (upd H p u) (av c ow):=Kp.own (.inl hA) hp m
 have sm:ga c (upd H p u):=fun b o' h n=>by
  rw[ay (by intro z;subst z;exact n hl)]
  exact R.same _ _ h n
 have us:∀j q,ow j=some q->upd H p u q=H q:=fun j q h=>ay (by intro z;subst z;exact absurd (R.fresh j q h) (R.a0 q hA))
 refine⟨⟨by simp[R.len],sm,fun q h=>⟨(R.lent q h).1,?_⟩,R.a0,R.b0,R.fresh,R.inj,fun j q h=> ?_,fun j z o' h1 h2=> ?_⟩,k⟩
 ·rw[hl]at h;cases h;rw[aE];simp
 ·rw[List.length_set]
  rcases R.out j q h with z|z
  ·exact .inl z
  ·right;rw[us j q h];exact z
 ·rw[List.length_set]
  by_cases hj:j=0
  ·subst hj
   have hlt:0<ps.length:=(List.getElem?_eq_some_iff.mp e).1
   rw[List.getElem?_set_self hlt]at h1
   cases h1
   exact r o' h2
  ·rw[List.getElem?_set_ne (fun z=>hj z.symm)]at h1
   have q:=R.slot j z o' h1 h2
   cases z with
   |no=>exact q
   |v w'=>obtain⟨z,v',e3,r'⟩:=q;exact⟨z,v',e3,k.rep r'⟩
   |own y'=>obtain⟨p',e3,e4,r'⟩:=q;exact⟨p',e3,e4,r'.keep k (us j p' e3)⟩
   |bor w=>obtain⟨z,v',e3,r'⟩:=q;exact⟨z,v',e3,dA R.b0 R.same sm k r'⟩
   |ino y=>exact absurd q.2.1 hj
   |ini kk xs=>exact absurd q.2.1 hj
   |dol ks xss =>
    obtain⟨p',qs,e1,e2,hp',l1,l2,l3,h⟩:=q
    refine⟨p',qs,e1,e2,by rw[us j p' e1];exact hp',l1,l2,l3,fun jj q xs h1 h2=> ?_⟩
    obtain⟨h3,h4⟩:=h jj q xs h1 h2
    exact⟨h3,h4.keep k (us _ q h3)⟩
   |als d jj=>exact q
   |rgn w=>exact j8 q k rfl (fun _ _ _ h=>h) (fun jj p' _ e=>us _ p' e)
end
end DN
end
section
namespace DN
open PySem PySem.Spec PyProof.Rows L2
abbrev DP:=aH->Rx PV
abbrev DA:=aH->Rx (List PV)
abbrev DT:=aH->Rx Bool
abbrev DM:=aH->Rx (PV×aH)
abbrev kv:=aH->Rx (List PV×aH)
def qa(K:Fg)(G:Pg)(d:DP):TE:=fun σ H Q=>∃(c:Fr) (ow:Ows) (ps:aH) (w:PV),aN K G c H ow ps σ /\d ps= .ok w/\ ∀v H',Same H H'->cW K G H' (av c ow) w v->Q v H'
def xB(K:Fg)(G:Pg)(d:DP):TE:=fun σ H Q=>∃(c:Fr) (ow:Ows) (ps:aH) (w:PV),aN K G c H ow ps σ /\d ps= .ok w/\ ∀v H',Same H H'->bz K G H' (av c ow) w v->Q v H'
def lK(K:Fg)(G:Pg)(d:DT):TT:=fun σ H Q=>∃(c:Fr) (ow:Ows) (ps:aH) (b:Bool),aN K G c H ow ps σ /\d ps= .ok b/\ ∀H',Same H H'->Q b H'
def dB(K:Fg)(G:Pg)(H:Hp)(A:Av):List Bool->List PV->List V->Prop
 |[],ws,vs=>ws=[]/\vs=[]
 |m::ms,ws,vs=>∃w wr v vr,ws=w::wr/\vs=v::vr/\(if m=true then bz K G H A w v else cW K G H A w v)/\dB K G H A ms wr vr
def xC(K:Fg)(G:Pg)(ms:List Bool)(d:DA):TA:=fun σ H Q=>∃(c:Fr) (ow:Ows) (ps:aH) (ws:List PV),aN K G c H ow ps σ /\d ps= .ok ws/\ ∀vs H',Same H H'->dB K G H' (av c ow) ms ws vs->Q vs H'
def zT(K:Fg)(G:Pg)(d:DA):TE:=fun σ H Q=>∃(c:Fr) (ow:Ows) (ps:aH) (ws:List PV),aN K G c H ow ps σ /\d ps= .ok ws/\ ∀p vs H',Same H H'->H p=none->H' p=some (.lst vs)->az K G H' (fun a=>av c ow a\/a=p) ws vs->Q (.ref p) H'
abbrev JP(X:Cx)(G:Pg)(e:Expr)(d:DP):Prop:=PE X e (qa X.K G d)
abbrev JB(X:Cx)(G:Pg)(e:Expr)(d:DP):Prop:=PE X e (xB X.K G d)
abbrev JT(X:Cx)(G:Pg)(e:Expr)(d:DT):Prop:=PT X e (lK X.K G d)
abbrev JW(X:Cx)(G:Pg)(e:Expr)(d:DT):Prop:=PW X e (lK X.K G d)
abbrev JA(X:Cx)(G:Pg)(ms:List Bool)(es:List Expr)(d:DA):Prop:=PA X es (xC X.K G ms d)
abbrev JN(X:Cx)(G:Pg)(e:Expr)(d:DA):Prop:=PE X e (zT X.K G d)
theorem imp{X:Cx}{e:Expr}{t t':TE}(h:PE X e t)(f:∀σ H Q,t' σ H Q->t σ H Q):PE X e t':=fun pins s σ H Q I q=>h pins s σ H Q I (f σ H Q q)
theorem pf{X:Cx}{e:Expr}{t t':TT}(h:PT X e t)(f:∀σ H Q,t' σ H Q->t σ H Q):PT X e t':=fun pins s σ H Q I q=>h pins s σ H Q I (f σ H Q q)
theorem um{X:Cx}{e:Expr}{t t':TT}(h:PW X e t)(f:∀σ H Q,t' σ H Q->t σ H Q):PW X e t':=fun wh pins s σ H Q I q=>h wh pins s σ H Q I (f σ H Q q)
theorem rC{X:Cx}{es:List Expr}{t t':TA}(h:PA X es t)(f:∀σ H Q,t' σ H Q->t σ H Q):PA X es t':=fun pos pins s σ H Q I q=>h pos pins s σ H Q I (f σ H Q q)
section
variable{K:Fg}{G:Pg}{H H':Hp}{A A':Av}
theorem bz.same{w:PV}{v:V}(h:bz K G H A w v)(s:Same H H'):bz K G H' A w v:=by
 rcases h with h|⟨x,p,e1,e2,r⟩|h
 ·exact .inl (h.same s)
 ·obtain⟨o,eo,_⟩:=r.at
  exact .inr (.inl ⟨x,p,e1,e2,r.keep (Kp.of_same s) (by rw[s _ _ eo,eo])⟩)
 ·exact .inr (.inr (h.keep (Kp.of_same s) fun p _ n=>by
   cases e:H p with
   |none=>exact absurd e n
   |some o=>exact s _ _ e))
theorem bz.lst{xs:List PV}{v:V}(h:bz K G H A (.lst xs) v):∃a vs,v= .ref a/\dI K H a vs/\az K G H A xs vs:=by
 rcases h with⟨a,vs,e,r,q⟩|⟨x,p,e1,e2,r⟩|⟨_,_,_,_,_,e1,_⟩
 ·exact⟨a,vs,e,r.sq,q⟩
 ·cases x with
  |lst ys=>cases e1;obtain⟨vs,q,r⟩:=r;exact⟨p,vs,e2,dI.of q,r⟩
  |dic ks ys=>cases e1
  |dit ks ys=>cases e1
  |obj k ys=>cases e1
 ·cases e1
theorem bz.tup{xs:List PV}{v:V}(h:bz K G H A (.tup xs) v):∃a vs,v= .ref a/\f8 K H a vs/\az K G H A xs vs:=by
 rcases h with⟨a,vs,e,s,r⟩|⟨x,p,e1,e2,r⟩|⟨_,_,_,_,_,e1,_⟩
 ·exact⟨a,vs,e,f8.of s,r⟩
 ·cases x <;> cases e1
 ·cases e1
theorem bz.int{i:Int}{v:V}(h:bz K G H A (.int i) v):v= .int i:=by
 rcases h with h|⟨x,p,e1,e2,r⟩|⟨_,_,_,_,_,e1,_⟩
 ·exact h
 ·cases x <;> cases e1
 ·cases e1
theorem bz.str{i:Str}{v:V}(h:bz K G H A (.str i) v):v= .str i:=by
 rcases h with h|⟨x,p,e1,e2,r⟩|⟨_,_,_,_,_,e1,_⟩
 ·exact h
 ·cases x <;> cases e1
 ·cases e1
theorem bz.bl{i:Bool}{v:V}(h:bz K G H A (.bl i) v):v= .bl i:=by
 rcases h with h|⟨x,p,e1,e2,r⟩|⟨_,_,_,_,_,e1,_⟩
 ·exact h
 ·cases x <;> cases e1
 ·cases e1
theorem bz.non{v:V}(h:bz K G H A .non v):v= .non:=by
 rcases h with h|⟨x,p,e1,e2,r⟩|⟨_,_,_,_,_,e1,_⟩
 ·exact h
 ·cases x <;> cases e1
 ·cases e1
theorem bz.obj{k:Nat}{xs:List PV}{v:V}(h:bz K G H A (.obj k xs) v):∃a dx vs,v= .ref a/\H a=some (.ins (G.cA k) dx ((G.fN k).zip vs))/\(G.fN k).length=vs.length/\az K G H A xs vs:=by
 rcases h with⟨a,dx,vs,e,q,l,n,r⟩|⟨x,p,e1,e2,r⟩|⟨_,_,_,_,_,e1,_⟩
 ·exact⟨a,dx,vs,e,q,l,r⟩
 ·cases x with
  |lst ys=>cases e1
  |dic ks ys=>cases e1
  |dit ks ys=>cases e1
  |obj k' ys=>cases e1;obtain⟨dx,vs,q,l,r⟩:=r;exact⟨p,dx,vs,e2,q,l,r⟩
 ·cases e1
theorem bz.dic{ks:List Key}{xs:List PV}{v:V}(h:bz K G H A (.dic ks xs) v):∃a vs ep,v= .ref a/\H a=some (.dK (ks.zip vs) ep)/\ks.length=vs.length/\az K G H A xs vs:=by
 rcases h with⟨a,vs,ep,e,q,l,n,r⟩|⟨x,p,e1,e2,r⟩|⟨_,_,_,_,_,e1,_⟩
 ·exact⟨a,vs,ep,e,q,l,r⟩
 ·cases x with
  |lst ys=>cases e1
  |dic ks' ys=>cases e1;obtain⟨vs,ep,q,l,r⟩:=r;exact⟨p,vs,ep,e2,q,l,r⟩
  |dit ks ys=>cases e1
  |obj k ys=>cases e1
 ·cases e1
theorem dB.len:∀{ms:List Bool} {ws:List PV} {vs:List V},dB K G H A ms ws vs->ws.length=ms.length/\vs.length=ms.length
 |[],ws,vs,h=>by obtain⟨rfl,rfl⟩:=h;exact⟨rfl,rfl⟩
 |m::ms,ws,vs,h=>by
  obtain⟨w,wr,v,vr,rfl,rfl,r,rr⟩:=h
  have:=dB.len rr
  simp[this]
end
section
variable{X:Cx}{G:Pg}{e a b:Expr}{da db:DP}{pos:Pos}
theorem b_of(h:JP X G e da):JB X G e da:=imp h fun σ H Q ⟨c,ow,ps,w,R,e,q⟩=>⟨c,ow,ps,w,R,e,fun v H' s r=>q v H' s (.inl r)⟩
def aK(d:DA):DP:=fun ps=>(d ps).bind fun ws=> .ok (.lst ws)
theorem p_of_n{d:DA}(h:JN X G e d):JP X G e (aK d):=imp h fun σ H Q ⟨c,ow,ps,w,R,e,q⟩=>by
 obtain⟨ws,e1,e2⟩:=ak e
 cases e2
 refine⟨c,ow,ps,ws,R,e1,fun p vs H' s hp hv r=>q (.ref p) H' s ⟨p,vs,rfl,.inl ⟨hv,fun z=>R.used p z hp⟩,(Kp.weak fun a z=>Or.inl z).reps r⟩⟩
def uo(d:DP):DM:=fun ps=>(d ps).bind fun w=> .ok (w,ps)
noncomputable def aa(i:Nat):DP:=fun ps=>match ps[i]? with|some (.v w)=> .ok w|_=> .bad
noncomputable def dSee(i:Nat):DP:=fun ps=>match ps[i]? with|some (.v w)=> .ok w|some (.own x)=> .ok x.pv|some (.bor w)=> .ok w|some (.dol ks xss)=> .ok (.dbo ks (xss.map PV.lst))|_=> .bad
theorem p_var(i:Nat){x:Str}{pos:Pos}(hN:X.N[i]? =some x:=by rfl)(hv:oy X.env.scope x:=by first|exact Or.inl rfl|exact Or.inr (Or.inl rfl)|exact Or.inr (Or.inr rfl))(hd:(x == .(U))=false:=by decide)
  (hcd:(x == ("__classdict__":Str))=false:=by decide):JP X G (.Name x pos) (aa i):=imp (br hN hv hd hcd) fun σ H Q ⟨c,ow,ps,w,R,e,q⟩=>by
 unfold aa at e
 split at e
 ·rename_i w' h
  cases e
  obtain⟨v,ev,r⟩:=R.getV h
  exact⟨v,ev,q v H (Same.refl H) r⟩
 ·cases e
theorem b_var(i:Nat){x:Str}{pos:Pos}(hN:X.N[i]? =some x:=by rfl)(hv:oy X.env.scope x:=by first|exact Or.inl rfl|exact Or.inr (Or.inl rfl)|exact Or.inr (Or.inr rfl))(hd:(x == .(U))=false:=by decide)
  (hcd:(x == ("__classdict__":Str))=false:=by decide):JB X G (.Name x pos) (dSee i):=imp (br hN hv hd hcd) fun σ H Q ⟨c,ow,ps,w,R,e,q⟩=>by
 unfold dSee at e
 split at e
 ·rename_i w' h
  cases e
  obtain⟨v,ev,r⟩:=R.getV h
  exact⟨v,ev,q v H (Same.refl H) (.inl r)⟩
 ·rename_i x' h
  cases e
  obtain⟨p,e1,e2,r⟩:=R.getO h
  exact⟨_,e2,q _ H (Same.refl H) (.inr (.inl ⟨x',p,rfl,rfl,r⟩))⟩
 ·rename_i w' h
  cases e
  obtain⟨o,eo,_,v,rfl,r⟩:=R.get h
  refine⟨v,eo,q v H (Same.refl H) ?_⟩
  rcases r with r|⟨x,p,e1,e2,r,_⟩|r
  ·exact .inl r
  ·exact .inr (.inl ⟨x,p,e1,e2,r⟩)
  ·exact .inr (.inr (r.mono fun _ _ _=>trivial))
 ·rename_i ks xss h
  cases e
  obtain⟨o,eo,p,qs,_,rfl,⟨ep,hp⟩,l1,l2,_,h⟩:=R.get h
  exact⟨_,eo,q _ H (Same.refl H) (.inr (.inr ⟨ks,xss,p,qs,ep,rfl,rfl,hp,trivial,l1,l2,fun j q xs h1 h2=>⟨(h j q xs h1 h2).2,trivial⟩⟩))⟩
 ·cases e
def dC(w:PV):DP:=fun _=> .ok w
theorem hG{t:V}{w:PV}(h:PE X e (tC t))(hr:∀H A,cW X.K G H A w t):JP X G e (dC w):=imp h fun σ H Q ⟨c,ow,ps,w,R,e,q⟩=>by
 cases e
 exact q _ H (Same.refl H) (hr _ _)
theorem p_int{i j pos}:JP X G (.Constant (.int i) j pos) (dC (.int i)):=hG lO fun _ _=>rfl
theorem gc{i j pos}:JP X G (.Constant (.bool i) j pos) (dC (.bl i)):=hG tF fun _ _=>rfl
theorem mi{j pos}:JP X G (.Constant .none j pos) (dC .non):=hG qC fun _ _=>rfl
theorem ar{i j pos}:JP X G (.Constant (.str i) j pos) (dC (.str i)):=hG qD fun _ _=>rfl
theorem p_topI{x:Str}{i:Int}{tk:Tok}{pos:Pos}(hg:Gl X x)(hm:X.mg x=some (.int i tk))(hd:.(O)=false:=by decide):JP X G (.Name x pos) (dC (.int i)):=hG (mh hg hm hd) fun _ _=>rfl
theorem eu{x:Str}{i:Str}{tk:Tok}{pos:Pos}(hg:Gl X x)(hm:X.mg x=some (.str i tk))(hd:.(O)=false:=by decide):JP X G (.Name x pos) (dC (.str i)):=hG (il (v:= .str i) hg hm ⟨_,rfl⟩ hd) fun _ _=>rfl
noncomputable def d2(f:PV->PV->Rx PV)(a b:DP):DP:=fun ps=>(a ps).bind fun x=>(b ps).bind fun y=>f x y
abbrev gd(H:Hp)(A:Av):Prop:=∀a,A a->H a≠none
def on(K:Fg)(G:Pg)(f:PV->PV->Rx PV)(r:R2):Prop:=∀(H:Hp) (A:Av) (x y w:PV) (v u:V) (Q:VK),gd H A->f x y= .ok w->bz K G H A x v->bz K G H A y u->(∀z H',Same H H'->cW K G H' A w z->Q z H')->r v u H Q
theorem ph{K:Fg}{f:PV->PV->Rx PV}{r:R2}(hf:on K G f r){σ :L2.St}{H:Hp}{Q:VK}(h:qa K G (d2 f da db) σ H Q):tU r (xB K G da) (xB K G db) σ H Q:=by
 obtain⟨c,ow,ps,w,R,e,q⟩:=h
 obtain⟨x,e1,e⟩:=ak e
 obtain⟨y,e2,e⟩:=ak e
 exact⟨c,ow,ps,x,R,e1,fun v H1 s1 r1=>⟨c,ow,ps,y,R.grow s1,e2,fun u H2 s2 r2=>hf H2 _ x y w v u Q ((R.grow s1).grow s2).used e (r1.same s2) r2 fun z H3 s3 r3=>q z H3 ((s1.trans s2).trans s3) r3⟩⟩
theorem jP{op:Operator}{r:R2}{f:PV->PV->Rx PV}(ho:fZ X (binaryOp op) r)(hf:on X.K G f r)(ha:JB X G a da)(hb:JB X G b db):JP X G (.BinOp a op b pos) (d2 f da db):=imp (lT ho ha hb) fun _ _ _=>ph hf
theorem up{op:CmpOp}{r:R2}{f:PV->PV->Rx PV}(ho:fZ X (compareOp op) r)(hf:on X.K G f r)(ha:JB X G a da)(hb:JB X G b db)(hm:behindInMarks op b=false):JP X G (.Compare a [op] [b] pos) (d2 f da db):=imp (oI ho ha hb hm) fun _ _ _=>ph hf
noncomputable def dTr(d:DP):DT:=fun ps=>(d ps).bind fun x=>match x with | .bl b=> .ok b|_=> .bad
theorem kx{op:CmpOp}{r:R2}{f:PV->PV->Rx PV}(ho:fZ X (compareOp op) r)(hf:on X.K G f r)(ha:JB X G a da)(hb:JB X G b db)(hm:behindInMarks op b=false):JT X G (.Compare a [op] [b] pos) (dTr (d2 f da db)) :=
 pf (oJ ho ha hb hm) fun σ H Q ⟨c,ow,ps,b,R,e,q⟩=>by
  obtain⟨x,e1,e2⟩:=ak e
  have:x= .bl b:=by
   cases x <;> first|(cases e2;rfl)|cases e2
  subst this
  exact ph hf ⟨c,ow,ps,_,R,e1,fun v H' s r=>⟨b,r,q H' s⟩⟩
theorem xD{f:PV->PV->Rx PV}(hf:on X.K G f (xt X.K))(ha:JB X G a da)(hb:JB X G b db)(hs:iq b):JP X G (.Subscript a b pos) (d2 f da db):=imp (q8 lY ha hb hs) fun _ _ _=>ph hf
noncomputable def fI(g:Int->Int->PV):PV->PV->Rx PV
 |.int i,.int j=> .ok (g i j)
 |_,_=> .bad
noncomputable def sT(C:Int->Int->Prop)[∀i j,Decidable (C i j)](g:Int->Int->PV):PV->PV->Rx PV
 |.int i,.int j=>if C i j then .ok (g i j) else .bad
 |_,_=> .bad
theorem mj{K:Fg}{g:Int->Int->PV}{g':Int->Int->V}(h:∀i j H A,cW K G H A (g i j) (g' i j)):on K G (fI g) (pY g'):=by
 intro H A x y w v u Q hu e r1 r2 q
 cases x <;> try cases e
 cases y <;> try cases e
 exact⟨_,_,r1.int,r2.int,q _ H (Same.refl H) (h _ _ _ _)⟩
theorem ky{K:Fg}{C:Int->Int->Prop}[∀i j,Decidable (C i j)]{C':Int->Int->Prop}{g:Int->Int->PV}{g':Int->Int->V}(hc:∀i j,C i j->C' i j)(h:∀i j H A,cW K G H A (g i j) (g' i j)):on K G (sT C g) (rI C' g'):=by
 intro H A x y w v u Q hu e r1 r2 q
 cases x <;> try cases e
 cases y <;> try cases e
 rename_i i j
 have e:(if C i j then Rx.ok (g i j) else .bad)= .ok w:=e
 split at e
 ·rename_i hC
  cases e
  exact⟨_,_,r1.int,r2.int,hc _ _ hC,q _ H (Same.refl H) (h _ _ _ _)⟩
 ·cases e
abbrev bZ:=fI fun i j=> .int (i+j)
abbrev jQ:=fI fun i j=> .int (i-j)
abbrev oo:=fI fun i j=> .bl (decide (i<j))
abbrev sU:=fI fun i j=> .bl (decide (j<i))
abbrev pi:=fI fun i j=> .int (Builtin.bitAnd i j)
abbrev pj:=sT (fun i j=>(-(2 ^ 64)<i/\i<2 ^ 64)\/(-(2 ^ 64)<j/\j<2 ^ 64)) fun i j=> .int (i*j)
abbrev fMod:=sT (fun _ j=>0<j) fun i j=> .int (i % j)
abbrev fDiv:=sT (fun _ j=>0<j/\j<1073741824) fun i j=> .int (i / j)
abbrev pk:=sT (fun _ j=>0<=j) fun i j=> .int (i / 2 ^ j.toNat)
theorem bS(ha:JB X G a da)(hb:JB X G b db):JP X G (.BinOp a .Add b pos) (d2 bZ da db):=jP qU (mj fun _ _ _ _=>rfl) ha hb
theorem j9(ha:JB X G a da)(hb:JB X G b db):JP X G (.BinOp a .Sub b pos) (d2 jQ da db):=jP qV (mj fun _ _ _ _=>rfl) ha hb
theorem mk(ha:JB X G a da)(hb:JB X G b db):JP X G (.BinOp a .BitAnd b pos) (d2 pi da db):=jP qZ (mj fun _ _ _ _=>rfl) ha hb
theorem ml(ha:JB X G a da)(hb:JB X G b db):JP X G (.BinOp a .Mult b pos) (d2 pj da db):=jP qW (ky (fun _ _ h=>h) fun _ _ _ _=>rfl) ha hb
theorem cG(ha:JB X G a da)(hb:JB X G b db):JP X G (.BinOp a .Mod b pos) (d2 fMod da db):=jP qX (ky (fun _ _ h=>h) fun _ _ _ _=>rfl) ha hb
theorem eQ(ha:JB X G a da)(hb:JB X G b db):JP X G (.BinOp a .FloorDiv b pos) (d2 fDiv da db):=jP oH (ky (fun _ _ h=>h) fun _ _ _ _=>rfl) ha hb
theorem mm(ha:JB X G a da)(hb:JB X G b db):JP X G (.BinOp a .RShift b pos) (d2 pk da db):=jP qY (ky (fun _ _ h=>h) fun _ _ _ _=>rfl) ha hb
theorem pq(ha:JB X G a da)(hb:JB X G b db):JT X G (.Compare a [.Lt] [b] pos) (dTr (d2 oo da db)):=kx tW (mj fun _ _ _ _=>rfl) ha hb (g3 _)
theorem rD(ha:JB X G a da)(hb:JB X G b db):JT X G (.Compare a [.Gt] [b] pos) (dTr (d2 sU da db)):=kx tX (mj fun _ _ _ _=>rfl) ha hb (g3 _)
def wl:PV->Bool
 |.non=>true
 |_=>false
def xE(d:DP):DP:=fun ps=>(d ps).bind fun x=> .ok (.bl (wl x))
noncomputable def uq(d:DP):DP:=fun ps=>(d ps).bind fun x=> .ok (.bl (!wl x))
theorem t_val{d:DP}(h:JP X G e d)(he:∀whole,isTrue e X.env whole=(do let v <- whole;standAt e.pos;holding [v] (truthy v)):=by intro _;rfl):JT X G e (dTr d):=pf (qE h he) fun σ H Q ⟨c,ow,ps,b,R,e,q⟩=>by
 obtain⟨x,e1,e2⟩:=ak e
 have:x= .bl b:=by
  cases x <;> first|(cases e2;rfl)|cases e2
 subst this
 exact⟨c,ow,ps,_,R,e1,fun v H' s r=>⟨b,r,q H' s⟩⟩
def fK(a b:DT):DT:=fun ps=>(a ps).bind fun x=>if x=true then b ps else .ok false
def dw(a b:DT):DT:=fun ps=>(a ps).bind fun x=>if x=true then .ok true else b ps
noncomputable def aY(a:DT):DT:=fun ps=>(a ps).bind fun x=> .ok (!x)
theorem ur{K:Fg}{ta tb:DT}{σ :L2.St}{H:Hp}{Q:Bool->Hp->Prop}(h:lK K G (fK ta tb) σ H Q):tH (lK K G ta) (lK K G tb) σ H Q:=by
 obtain⟨c,ow,ps,b,R,e,q⟩:=h
 obtain⟨x,e1,e2⟩:=ak e
 refine⟨c,ow,ps,x,R,e1,fun H' s=> ?_⟩
 split at e2
 ·rename_i hx;subst hx
  exact iteT ⟨c,ow,ps,b,R.grow s,e2,fun H2 s2=>q H2 (s.trans s2)⟩
 ·rename_i hx
  cases e2
  have:x=false:=by simpa using hx
  subst this
  exact jM (q H' s)
theorem xF{K:Fg}{ta tb:DT}{σ :L2.St}{H:Hp}{Q:Bool->Hp->Prop}(h:lK K G (dw ta tb) σ H Q):zP (lK K G ta) (lK K G tb) σ H Q:=by
 obtain⟨c,ow,ps,b,R,e,q⟩:=h
 obtain⟨x,e1,e2⟩:=ak e
 refine⟨c,ow,ps,x,R,e1,fun H' s=> ?_⟩
 split at e2
 ·rename_i hx;subst hx
  cases e2
  exact iteT (q H' s)
 ·rename_i hx
  have:x=false:=by simpa using hx
  subst this
  exact jM ⟨c,ow,ps,b,R.grow s,e2,fun H2 s2=>q H2 (s.trans s2)⟩
section
variable{ta tb:DT}{rest:List Expr}
theorem jR(ha:JT X G a ta):JW X G (.BoolOp .And [a] pos) ta:=oB ha
theorem hJ(ha:JT X G a ta):JW X G (.BoolOp .Or [a] pos) ta:=qF ha
theorem mn(ha:JT X G a ta)(hb:JW X G (.BoolOp .And (b::rest) pos) tb):JW X G (.BoolOp .And (a::b::rest) pos) (fK ta tb):=um (qG ha hb) fun _ _ _=>ur
theorem jS(ha:JT X G a ta)(hb:JW X G (.BoolOp .Or (b::rest) pos) tb):JW X G (.BoolOp .Or (a::b::rest) pos) (dw ta tb):=um (tI ha hb) fun _ _ _=>xF
theorem pr(h:JW X G e ta):JT X G e ta:=PW.pt h
theorem dZ(ha:JT X G a ta):JT X G (.UnaryOp .Not a pos) (aY ta):=pf (qH ha) fun σ H Q ⟨c,ow,ps,b,R,e,q⟩=>by
 obtain⟨x,e1,e2⟩:=ak e
 cases e2
 exact⟨c,ow,ps,x,R,e1,fun H' s=>q H' s⟩
end
noncomputable def cH(a b:DP):DP:=fun ps=>(a ps).bind fun x=>match x with | .bl true=>b ps | .bl false=> .ok (.bl false)|_=> .bad
def pw(a b:DP):DP:=fun ps=>(a ps).bind fun x=>match x with | .bl true=> .ok (.bl true) | .bl false=>b ps|_=> .bad
noncomputable def ge(a:DP):DP:=fun ps=>(a ps).bind fun x=>match x with | .bl k=> .ok (.bl (!k))|_=> .bad
section
variable{rest:List Expr}
theorem ee{op}(h:JP X G a da):JP X G (.BoolOp op [a] pos) da:=qI h
theorem cL(ha:JP X G a da)(hb:JP X G (.BoolOp .And (b::rest) pos) db):JP X G (.BoolOp .And (a::b::rest) pos) (cH da db):=imp (qJ ha hb) fun σ H Q ⟨c,ow,ps,w,R,e,q⟩=>by
 obtain⟨x,e1,e2⟩:=ak e
 refine .(Au)
 split at e2
 ·exact⟨true,r,iteT ⟨c,ow,ps,w,R.grow s,e2,fun v2 H2 s2 r2=>q v2 H2 (s.trans s2) r2⟩⟩
 ·cases e2;exact⟨false,r,jM (q _ H' s rfl)⟩
 ·cases e2
theorem qb(ha:JP X G a da)(hb:JP X G (.BoolOp .Or (b::rest) pos) db):JP X G (.BoolOp .Or (a::b::rest) pos) (pw da db):=imp (tL ha hb) fun σ H Q ⟨c,ow,ps,w,R,e,q⟩=>by
 obtain⟨x,e1,e2⟩:=ak e
 refine .(Au)
 split at e2
 ·cases e2;exact⟨true,r,iteT (q _ H' s rfl)⟩
 ·exact⟨false,r,jM ⟨c,ow,ps,w,R.grow s,e2,fun v2 H2 s2 r2=>q v2 H2 (s.trans s2) r2⟩⟩
 ·cases e2
theorem gf(ha:JP X G a da):JP X G (.UnaryOp .Not a pos) (ge da):=imp (qK ha) fun σ H Q ⟨c,ow,ps,w,R,e,q⟩=>by
 obtain⟨x,e1,e2⟩:=ak e
 refine .(Au)
 split at e2
 ·cases e2;exact⟨_,r,q _ H' s rfl⟩
 ·cases e2
noncomputable def xG(d:DP):DP:=fun ps=>(d ps).bind fun x=>match x with | .int i=> .ok (.int (-i))|_=> .bad
def ln(t:DT)(a b:DP):DP:=fun ps=>(t ps).bind fun x=>if x=true then a ps else b ps
theorem p_ifV{t:Expr}{dt:DT}(ht:JT X G t dt)(ha:JP X G a da)(hb:JP X G b db):JP X G (.IfExp t a b pos) (ln dt da db):=imp (lP ht ha hb) fun σ H Q ⟨c,ow,ps,w,R,e,q⟩=>by
 obtain⟨x,e1,e2⟩:=ak e
 refine⟨c,ow,ps,x,R,e1,fun H' s=> ?_⟩
 split at e2
 ·rename_i hx;subst hx;exact iteT ⟨c,ow,ps,w,R.grow s,e2,fun v2 H2 s2 r2=>q v2 H2 (s.trans s2) r2⟩
 ·rename_i hx
  have:x=false:=by simpa using hx
  subst this
  exact jM ⟨c,ow,ps,w,R.grow s,e2,fun v2 H2 s2 r2=>q v2 H2 (s.trans s2) r2⟩
end
end
section
variable{X:Cx}{G:Pg}{e a b:Expr}{es:List Expr}{da db:DP}{pos:Pos}
noncomputable def fIx:PV->PV->Rx PV
 |.lst xs,.int i=>match gA xs i with|some w=> .ok w|none=> .bad
 |.tup xs,.int i=>match gA xs i with|some w=> .ok w|none=> .bad
 |.str z,.int i=>if z.length<=sizeLine then(match gA z.cps.toList i with|some c=> .ok (.str ⟨#[c]⟩)|none=> .bad) else .bad
 |_,_=> .bad
theorem kz{K:Fg}{H:Hp}{A:Av}{xs:List PV}{vs:List V}{i:Int}{w:PV}(r:az K G H A xs vs)(e:gA xs i=some w):∃v,gA vs i=some v/\cW K G H A w v:=by
 unfold gA at e ⊢
 rw[<-r.len]
 cases q:oT xs.length i with
 |none=>rw[q]at e;cases e
 |some j =>
  rw[q]at e
  exact r.get e
theorem ut{K:Fg}:on K G fIx (xt K):=by
 intro H A x y w v u Q hu e r1 r2 q
 cases x <;> try cases e
 ·cases y <;> try cases e
  rename_i z i
  have e:(if z.length<=sizeLine then(match gA z.cps.toList i with|some c=>Rx.ok (PV.str ⟨#[c]⟩)|none=> .bad) else .bad)= .ok w:=e
  split at e
  ·rename_i hz
   split at e
   ·rename_i c hc
    cases e
    exact .inr (.inr ⟨z,i,c,r1.str,r2.int,hz,hc,q _ H (Same.refl H) rfl⟩)
   ·cases e
  ·cases e
 ·cases y <;> try cases e
  rename_i xs i
  have e:(match gA xs i with|some w=>Rx.ok w|none=> .bad)= .ok w:=e
  split at e
  ·rename_i w' hw
   cases e
   obtain⟨p,vs,ev,sq,rs⟩:=r1.tup
   obtain⟨v',e1,r'⟩:=kz rs hw
   exact .inr (.inl ⟨p,vs,i,v',ev,r2.int,sq,e1,q _ H (Same.refl H) r'⟩)
  ·cases e
 ·cases y <;> try cases e
  rename_i xs i
  have e:(match gA xs i with|some w=>Rx.ok w|none=> .bad)= .ok w:=e
  split at e
  ·rename_i w' hw
   cases e
   obtain⟨p,vs,ev,sq,rs⟩:=r1.lst
   obtain⟨v',e1,r'⟩:=kz rs hw
   exact .inl ⟨p,vs,i,v',ev,r2.int,sq,e1,q _ H (Same.refl H) r'⟩
  ·cases e
theorem p_at(ha:JB X G a da)(hb:JB X G b db)(hs:iq b):JP X G (.Subscript a b pos) (d2 fIx da db):=xD ut ha hb hs
def dNil:DA:=fun _=> .ok []
noncomputable def dCons(a:DP)(r:DA):DA:=fun ps=>(a ps).bind fun x=>(r ps).bind fun xs=> .ok (x::xs)
theorem a_nil:JA X G [] [] dNil:=rC jG fun σ H Q ⟨c,ow,ps,ws,R,e,q⟩=>by
 cases e
 exact q [] H (Same.refl H) ⟨rfl,rfl⟩
theorem a_cons{ms:List Bool}{d:DA}(ha:JP X G e da)(hr:JA X G ms es d)(hs:starEach (e::es) X.env=.(Af)::starEach es X.env:=by rfl):JA X G (false::ms) (e::es) (dCons da d) :=
 rC (eL ha hr hs) fun σ H Q ⟨c,ow,ps,ws,R,e,q⟩=>by
  obtain⟨x,e1,e⟩:=ak e
  obtain⟨xs,e2,e⟩:=ak e
  cases e
  exact⟨c,ow,ps,x,R,e1,fun v H1 s1 r1=>⟨c,ow,ps,xs,R.grow s1,e2,fun vs H2 s2 r2=>q (v::vs) H2 (s1.trans s2) ⟨x,xs,v,vs,rfl,rfl,by rw[if_neg Bool.false_ne_true];exact r1.same s2,r2⟩⟩⟩
theorem cI{ms:List Bool}{d:DA}(ha:JB X G e da)(hr:JA X G ms es d)(hs:starEach (e::es) X.env=.(Af)::starEach es X.env:=by rfl):JA X G (true::ms) (e::es) (dCons da d) :=
 rC (eL ha hr hs) fun σ H Q ⟨c,ow,ps,ws,R,e,q⟩=>by
  obtain⟨x,e1,e⟩:=ak e
  obtain⟨xs,e2,e⟩:=ak e
  cases e
  exact⟨c,ow,ps,x,R,e1,fun v H1 s1 r1=>⟨c,ow,ps,xs,R.grow s1,e2,fun vs H2 s2 r2=>q (v::vs) H2 (s1.trans s2) ⟨x,xs,v,vs,rfl,rfl,by rw[if_pos rfl];exact r1.same s2,r2⟩⟩⟩
theorem dB.reps'{K:Fg}{H:Hp}{A:Av}:∀{ms:List Bool} {ws:List PV} {vs:List V},dB K G H A ms ws vs->ms.all (! ·)=true->az K G H A ws vs
 |[],ws,vs,h,_=>by obtain⟨rfl,rfl⟩:=h;rfl
 |m::ms,ws,vs,h,hm=>by
  obtain⟨w,wr,v,vr,rfl,rfl,r,rr⟩:=h
  rw[List.all_cons,Bool.and_eq_true]at hm
  have:m=false:=by simpa using hm.1
  subst this
  rw[if_neg Bool.false_ne_true]at r
  exact⟨v,vr,rfl,r,dB.reps' rr hm.2⟩
def aS(d:DA):DP:=fun ps=>(d ps).bind fun ws=> .ok (.tup ws)
theorem aF{ms:List Bool}{d:DA}{x1}(h:JA X G ms es d)(hm:ms.all (! ·)=true:=by rfl)(hl:ms.length<=1000:=by decide):JP X G (.Tuple es x1 pos) (aS d):=imp (r6 h) fun σ H Q ⟨c,ow,ps,w,R,e,q⟩=>by
 obtain⟨ws,e1,e⟩:=ak e
 cases e
 refine⟨c,ow,ps,ws,R,e1,fun vs H1 s1 r1=>⟨?_,fun p hp=> ?_⟩⟩
 ·rw[r1.len.2];exact Nat.le_of_lt (h8 hl)
 ·exact q _ _ (s1.trans (bG hp _)) ⟨p,vs,rfl,aE,(r1.reps' hm).same (bG hp _)⟩
theorem dD{ms:List Bool}{d:DA}(h:JA X G ms es d)(hm:ms.all (! ·)=true:=by rfl)(hl:ms.length<=1000:=by decide):JN X G (.List es pos) d:=imp (r7 h) fun σ H Q ⟨c,ow,ps,ws,R,e,q⟩=>by
 refine⟨c,ow,ps,ws,R,e,fun vs H1 s1 r1=>⟨?_,fun p hp=> ?_⟩⟩
 ·rw[r1.len.2];exact Nat.le_of_lt (h8 hl)
 ·exact q p vs _ (s1.trans (bG hp _)) (s1.free hp) aE ((Kp.take hp (bG hp _) fun a z=>z.symm).reps (r1.reps' hm))
noncomputable def cg(a b:DP):DA:=fun ps=>(a ps).bind fun x=>(b ps).bind fun y=>match x,y with | .lst xs,.lst ys=>if xs.length+ys.length<=sizeLine then .ok (xs++ys) else .bad|_,_=> .bad
theorem hU(ha:JB X G a da)(hb:JB X G b db)(ho:fZ X (binaryOp .Add) (fun x y H Q=>∃l m xs zs,x= .ref l/\y= .ref m/\dI X.K H l xs/\dI X.K H m zs/\xs.length+zs.length<=sizeLine/\ ∀p,H p=none->Q (.ref p) (upd H p (.lst (xs++zs))))) :
  JN X G (.BinOp a .Add b pos) (cg da db):=imp (lT ho ha hb) fun σ H Q ⟨c,ow,ps,ws,R,e,q⟩=>by
 obtain⟨x,e1,e⟩:=ak e
 obtain⟨y,e2,e⟩:=ak e
 refine⟨c,ow,ps,x,R,e1,fun v H1 s1 r1=>⟨c,ow,ps,y,R.grow s1,e2,fun u H2 s2 r2=> ?_⟩⟩
 split at e
 ·rename_i xs ys
  split at e
  ·rename_i hl
   cases e
   obtain⟨l,vs,e3,sq,rs⟩:=(r1.same s2).lst
   obtain⟨m,us,e4,sq',rs'⟩:=r2.lst
   refine⟨l,m,vs,us,e3,e4,sq,sq',by rw[<-rs.len,<-rs'.len];exact hl,fun p hp=> ?_⟩
   have sp:=bG hp (.lst (vs++us))
   exact q p _ _ ((s1.trans s2).trans sp) ((s1.trans s2).free hp) aE ((Kp.take hp sp fun a z=>z.symm).reps (rs.app rs'))
  ·cases e
 ·cases e
theorem dL:fZ X (binaryOp .Add) (fun x y H Q=>∃l m xs zs,x= .ref l/\y= .ref m/\dI X.K H l xs/\dI X.K H m zs/\xs.length+zs.length<=sizeLine/\ ∀p,H p=none->Q (.ref p) (upd H p (.lst (xs++zs)))):=by
 intro pins s σ H x y v u Q I rx ry h
 obtain⟨l,b,xs,zs,rfl,rfl,e1,e2,z,q⟩:=h
 obtain⟨its,r1,⟨⟨cls,dd,data,sl⟩,n,ho,hc,hd0,hd⟩,z1⟩:=I.list e1
 obtain⟨itb,r2,⟨⟨cls2,dd2,data2,sl2⟩,n2,ho2,hc2,hd02,hd2⟩,z2⟩:=I.list e2
 simp only at hc hd hc2 hd2
 subst hc hd hc2 hd2
 obtain rfl:v=Value.ref l:=rx
 obtain rfl:u=Value.ref b:=ry
 have hl1:=r1.length
 have hl2:=r2.length
 have ea:its.toArray++itb.toArray=(its++itb).toArray:=by simp
 refine concat_meets ⟨_,ho,rfl⟩ ⟨_,ho2,rfl⟩ noFill_list_add seq_list_add PySem.F.slot_list_add PySem.F.entry_list_add (PySem.F.args_list_add_2 _ _) (list_addW l b its.toArray itb.toArray n n2 dd dd2 sl sl2 (by rw[List.size_toArray,List.size_toArray];omega)) ⟨ho,ho2,?_⟩
 rw[ea]
 exact⟨.ref _,_,I.lnew (t':=s.toks) (r1.append r2) (by rw[List.length_append];omega),rfl,q _ I.fresh⟩
def AK(K:Fg)(G:Pg)(d:aH->Rx (Option Int)):TO:=fun σ H Q=>∃(c:Fr) (ow:Ows) (ps:aH) (o:Option Int),aN K G c H ow ps σ /\d ps= .ok o/\ ∀H',Same H H'->Q o H'
abbrev JO(X:Cx)(G:Pg)(e:Option Expr)(d:aH->Rx (Option Int)):Prop:=PO X e (AK X.K G d)
def gB:aH->Rx (Option Int):=fun _=> .ok none
noncomputable def f7(d:DP):aH->Rx (Option Int):=fun ps=>(d ps).bind fun x=>match x with | .int i=> .ok (some i)|_=> .bad
theorem o_none:JO X G none gB:=fun pins s σ H Q I hq=>oR pins s σ H Q I (by
 obtain⟨c,ow,ps,o,R,e,q⟩:=hq
 cases e
 exact q H (Same.refl H))
theorem o_some(h:JP X G e da):JO X G (some e) (f7 da):=fun pins s σ H Q I hq=>oS h pins s σ H Q I (by
 obtain⟨c,ow,ps,o,R,e,q⟩:=hq
 obtain⟨x,e1,e2⟩:=ak e
 refine .(Au)
 split at e2
 ·cases e2;exact⟨_,r,q H' s⟩
 ·cases e2)
noncomputable def gH(xs:List PV)(lo hi:Option Int):List PV:=(xs.drop (HT.sIx xs.length 0 lo)).take (HT.sIx xs.length xs.length hi-HT.sIx xs.length 0 lo)
noncomputable def cr(d:DP)(dl dh:aH->Rx (Option Int)):DA:=fun ps=>(d ps).bind fun x=>(dl ps).bind fun lo=>(dh ps).bind fun hi=>match x with | .lst xs=> .ok (gH xs lo hi)|_=> .bad
theorem n_cut{lo hi:Option Expr}{dl dh:aH->Rx (Option Int)}{p2:Pos}(he:JB X G e da)(hl:JO X G lo dl)(hh:JO X G hi dh):JN X G (.Subscript e (.Slice lo hi none p2) pos) (cr da dl dh):=imp (iY oX he hl hh) fun σ H Q ⟨c,ow,ps,ws,R,e,q⟩=>by
 obtain⟨x,e1,e⟩:=ak e
 obtain⟨l,e2,e⟩:=ak e
 obtain⟨h,e3,e⟩:=ak e
 refine⟨c,ow,ps,x,R,e1,fun v H1 s1 r1=>⟨c,ow,ps,l,R.grow s1,e2,fun H2 s2=>⟨c,ow,ps,h,(R.grow s1).grow s2,e3,fun H3 s3=> ?_⟩⟩⟩
 split at e
 ·cases e
  obtain⟨a,vs,e4,sq,rs⟩:=((r1.same s2).same s3).lst
  refine⟨a,vs,e4,sq,fun p hp=> ?_⟩
  have sp:=bG hp (.lst (gE vs l h))
  have sA:=(s1.trans s2).trans s3
  refine q p _ _ (sA.trans sp) (sA.free hp) aE ((Kp.take hp sp fun a z=>z.symm).reps ?_)
  unfold gH gE
  rw[rs.len]
  exact(rs.drop _).take _
 ·cases e
def ad(f:List PV->Rx PV)(d:DA):DP:=fun ps=>(d ps).bind f
def uu(K:Fg)(G:Pg)(ms:List Bool)(f:List PV->Rx PV)(r:List V->Hp->VK->Prop):Prop:=∀(H:Hp) (A:Av) (ws:List PV) (vs:List V) (w:PV) (Q:VK),gd H A->f ws= .ok w->dB K G H A ms ws vs->(∀z H',Same H H'->cW K G H' A w z->Q z H')->r vs H Q
theorem qc{K:Fg}{ms:List Bool}{f:List PV->Rx PV}{r:List V->Hp->VK->Prop}{d:DA}(hf:uu K G ms f r){σ :L2.St}{H:Hp}{Q:VK}(h:qa K G (ad f d) σ H Q):xo r (xC K G ms d) σ H Q:=by
 obtain⟨c,ow,ps,w,R,e,q⟩:=h
 obtain⟨ws,e1,e2⟩:=ak e
 exact⟨c,ow,ps,ws,R,e1,fun vs H' s r=>hf H' _ ws vs w Q (R.grow s).used e2 r fun z H2 s2 r2=>q z H2 (s.trans s2) r2⟩
theorem dM{x:Str}{p:Pos}{id:String}{ms:List Bool}{f:List PV->Rx PV}{r:List V->Hp->VK->Prop}{d:DA}(hc:g0 X (.builtin id) r)(hf:uu X.K G ms f r)(hg:Gl X x)(hm:X.mg x=none)(hv:bootBuiltins x=some (.builtin id))(ha:JA X G ms (e::es) d)(hn:x ≠ "__name__":=by decide)(hdb:.(O)=false:=by decide)
  (he:starEach (e::es) X.env=.(Af)::starEach es X.env:=by rfl) (hpl:.(Z).any (·.1)=false:=by rfl):JP X G .(Ab) (ad f d):=imp (iX hc hg hm hv ha hn hdb he hpl) fun _ _ _=>qc hf
theorem ja{x:Str}{p:Pos}{T:String}{ms:List Bool}{f:List PV->Rx PV}{r:List V->Hp->VK->Prop}{d:DA}(hc:g0 X (.type T) r)(hf:uu X.K G ms f r)(hg:Gl X x)(hm:X.mg x=none)(hv:bootBuiltins x=some (.type T))(ha:JA X G ms (e::es) d)(hn:x ≠ "__name__":=by decide)(hdb:.(O)=false:=by decide)
  (he:starEach (e::es) X.env=.(Af)::starEach es X.env:=by rfl) (hpl:.(Z).any (·.1)=false:=by rfl):JP X G .(Ab) (ad f d):=imp (lb hc hg hm hv ha hn hdb he hpl) fun _ _ _=>qc hf
theorem dB.one{K:Fg}{H:Hp}{A:Av}{ws:List PV}{vs:List V}(h:dB K G H A [true] ws vs):∃w v,ws=[w]/\vs=[v]/\bz K G H A w v:=by
 obtain⟨w,wr,v,vr,rfl,rfl,r,rfl,rfl⟩:=h
 exact⟨w,v,rfl,rfl,r⟩
noncomputable def dS:List PV->Rx PV
 |[.str y]=>if y.length<=sizeLine then .ok (.int y.length) else .bad
 |[.lst xs]=> .ok (.int xs.length)
 |[.tup xs]=> .ok (.int xs.length)
 |_=> .bad
theorem fh{K:Fg}:uu K G [true] dS (fun xs H Q=>∃x n,xs=[x]/\u0 K x H n/\Q (.int n) H):=by
 intro H A ws vs w Q hu e r q
 obtain⟨x,v,rfl,rfl,rb⟩:=r.one
 clear r
 cases x <;> try cases e
 ·rename_i y
  have e:(if y.length<=sizeLine then Rx.ok (PV.int y.length) else .bad)= .ok w:=e
  split at e
  ·rename_i hy
   cases e
   rw[rb.str]
   exact⟨_,_,rfl,⟨hy,rfl⟩,q _ H (Same.refl H) rfl⟩
  ·cases e
 ·obtain⟨a,vs,rfl,sq,rs⟩:=rb.tup
  exact⟨_,_,rfl,.inr ⟨vs,sq,rfl⟩,q _ H (Same.refl H) (by show _=_;rw[rs.len])⟩
 ·obtain⟨a,vs,rfl,sq,rs⟩:=rb.lst
  exact⟨_,_,rfl,.inl ⟨vs,sq,rfl⟩,q _ H (Same.refl H) (by show _=_;rw[rs.len])⟩
def mo:List PV->Rx PV
 |[.int i]=> .ok (.int i)
 |[.bl k]=> .ok (.int (if k then 1 else 0))
 |_=> .bad
theorem mq{K:Fg}:uu K G [true] mo (fun xs H Q=>(∃i,xs=[V.int i]/\Q (.int i) H)\/ ∃k,xs=[V.bl k]/\Q (.int (if k then 1 else 0)) H):=by
 intro H A ws vs w Q hu e r q
 obtain⟨x,v,rfl,rfl,rb⟩:=r.one
 clear r
 cases x <;> try cases e
 ·rw[rb.bl];exact .inr ⟨_,rfl,q _ H (Same.refl H) rfl⟩
 ·rw[rb.int];exact .inl ⟨_,rfl,q _ H (Same.refl H) rfl⟩
def rE(f:List PV->Rx (List PV))(d:DA):DA:=fun ps=>(d ps).bind f
noncomputable def kd:PV->Nat
 |.non=>0 | .bl _=>1 | .int _=>2 | .str _=>3 | .tup _=>4 | .lst _=>5 | .dic _ _=>6 | .clo _ _=>9 | .dit _ _=>9 | .dbo _ _=>9 | .exn _=>9 | .obj k _=>k+10
noncomputable def jT(G:Pg):Nat->Value
 |0=> .type "NoneType" |1=> .type "bool" |2=> .type "int" |3=> .type "str" |4=> .type "tuple" |5=> .type "list" |6=> .type "dict" |7=> .none|8=> .none|9=> .none
 |k+10=> .ref (G.cA k)
def jb(K:Fg)(C:Addr):Prop:=∀H a dx fs,H a=some (.ins C dx fs)->eK K H (.ref a) (.ref C)
noncomputable def bT(l:List (Nat×Bool))(d:DP):DP:=fun ps=>(d ps).bind fun x=>match l.lookup (kd x)with|some b=> .ok (.bl b)|none=> .bad
structure bU(K:Fg)(G:Pg)(cv:Value)(l:List (Nat×Bool)):Prop where
 kit:∀k b,l.lookup k=some b->PySem.W.kitOne K (jT G k) cv=some b
 cls:∀k b,l.lookup (k+10)=some b->jb K (G.cA k)
 n9:∀b,l.lookup 9≠some b
theorem mr(cv:Value)(l:List (Nat×Bool))(ok:bU X.K G cv l):g0 X (.builtin "isinstance") (fun xs H Q=>∃A w v c b,xs=[v,c]/\(∀u,aP c u->u=cv)/\bz X.K G H A w v/\l.lookup (kd w)=some b/\Q (.bl b) H):=by
 intro pins s σ H xs us Q I r h
 obtain⟨A,w,v,c,b,rfl,hc,rw',hl,q⟩:=h
 obtain⟨u,u',rfl,ru,rc⟩:=tZ r
 obtain rfl:=hc _ rc
 have kit:=ok.kit _ _ hl
 have fin:∀tk,EP X pins σ Q (.bool b) { s with toks:=tk }:=fun tk=>⟨.bl b,H,I.tok tk,rfl,q⟩
 cases w with
 |non=>rw[rw'.non]at ru;exact cj I ru .non kit fin
 |bl k=>rw[rw'.bl]at ru;exact cj I ru (.bl _) kit fin
 |int i=>rw[rw'.int]at ru;exact cj I ru (.int _) kit fin
 |str i=>rw[rw'.str]at ru;exact cj I ru (.str _) kit fin
 |tup ws =>
  obtain⟨a,vs,rfl,sq,rs⟩:=rw'.tup
  cases (show u=Value.ref a from ru)
  obtain⟨its,_,p,_⟩:=I.tuple sq
  obtain⟨o,h1,h2,_⟩:=p
  exact PySem.W.kia_one PySem.W.kitx_tuple I.kIn ⟨o,h1,h2⟩ kit (fun z=>nomatch z) fin
 |lst ws =>
  obtain⟨a,vs,rfl,sq,rs⟩:=rw'.lst
  cases (show u=Value.ref a from ru)
  obtain⟨its,_,⟨o,n,h1,h2,_⟩,_⟩:=I.list sq
  exact PySem.W.kia_one PySem.W.kitx_list I.kIn ⟨o,h1,h2⟩ kit (fun z=>nomatch z) fin
 |clo f ws=>exact absurd hl (ok.n9 b)
 |dit ks ws=>exact absurd hl (ok.n9 b)
 |dbo ks ws=>exact absurd hl (ok.n9 b)
 |exn _=>exact absurd hl (ok.n9 b)
 |dic ks ws =>
  obtain⟨a,vs,ep,rfl,hH,_,rs⟩:=rw'.dic
  exact cj I ru (.dK hH) kit fin
 |obj k ws =>
  obtain⟨a,dx,vs,rfl,hH,_,rs⟩:=rw'.obj
  exact cj I ru (ok.cls k b hl H a dx _ hH) kit fin
theorem bH{ce:Expr}{cvv:V}{cv:Value}{l:List (Nat×Bool)}{p:Pos}(hg:Gl X "isinstance")(hm:X.mg "isinstance"=none)(ok:bU X.K G cv l)(hcv:∀u,aP cvv u->u=cv)(ha:JB X G e da)(hc:PE X ce (tC cvv))
  (he:starEach [e,ce] X.env=.(Af)::starEach [ce] X.env:=by rfl) (he2:starEach [ce] X.env=(false,eval ce X.env)::starEach [] X.env:=by rfl) (hpl:(backTo pos (starEach [ce] X.env)).any (·.1)=false:=by rfl) :
  JP X G (.Call (.Name "isinstance" p) [e,ce] [] pos) (bT l da) :=
 imp (iX (mr cv l ok) hg hm boot_isinstance (eL ha (eL hc jG he2) he) (by decide) (by decide) he hpl) fun σ H Q ⟨c,ow,ps,w,R,e,q⟩=>by
  obtain⟨x,e1,e2⟩:=ak e
  refine .(Au)
  split at e2
  ·rename_i b hb
   cases e2
   exact⟨_,x,v,cvv,b,rfl,hcv,r,hb,q _ H' s rfl⟩
  ·cases e2
theorem eA{f:Str}{v:V}:∀{ns:List Str} {vs:List V} {j:Nat},ns.Nodup->ns[j]? =some f->vs[j]? =some v->(ns.zip vs).lookup f=some v
 |[],vs,j,_,h,_=>by simp at h
 |n::ns,[],j,_,_,h=>by simp at h
 |n::ns,u::vs,0,_,h1,h2=>by
  simp at h1 h2;subst h1;subst h2
  simp
 |n::ns,u::vs,j+1,nd,h1,h2=>by
  have h1':ns[j]? =some f:=by simpa using h1
  have hne:(f == n)=false:=by
   have:f≠n:=fun z=>by subst z;exact(List.nodup_cons.mp nd).1 (List.mem_of_getElem? h1')
   simpa using this
  rw[List.zip_cons_cons,List.lookup_cons,hne]
  exact eA (j:=j) (List.nodup_cons.mp nd).2 h1' (by simpa using h2)
structure bV(K:Fg)(G:Pg)(f:Str)(l:List (Nat×Nat)):Prop where
 all:∀k j,l.lookup k=some j->iQ K (G.cA k)/\bu K (G.cA k) f/\(G.fN k).Nodup/\(G.fN k)[j]? =some f
noncomputable def ax(l:List (Nat×Nat))(d:DP):DP:=fun ps=>(d ps).bind fun x=>match x with
 |.obj k xs=>(match l.lookup k with|some j=>(match xs[j]? with|some w=> .ok w|none=> .bad)|none=> .bad)
 |_=> .bad
theorem p_fld{f:Str}{l:List (Nat×Nat)}(ok:bV X.K G f l)(ha:JP X G e da)(hb:attributeBase e f X.env (eval e X.env)=eval e X.env):JP X G (.Attribute e f pos) (ax l da):=imp (jD ha hb) fun σ H Q ⟨c,ow,ps,w,R,e,q⟩=>by
 obtain⟨x,e1,e2⟩:=ak e
 refine .(Au)
 cases x with
 |obj k xs =>
  have e2:(match l.lookup k with|some j=>(match xs[j]? with|some w=>Rx.ok w|none=> .bad)|none=> .bad)= .ok w:=e2
  split at e2
  ·rename_i j hj
   split at e2
   ·rename_i w' hw
    cases e2
    obtain⟨a,dx,vs,rfl,hH,hl,na,rs⟩:=r
    obtain⟨c1,c2,c3,c4⟩:=ok.all k j hj
    obtain⟨u,hu,ru⟩:=rs.get hw
    exact⟨a,_,dx,_,u,rfl,hH,c1,c2,eA c3 c4 hu,q u H' s ru⟩
   ·cases e2
  ·cases e2
 |_=>cases e2
end
def zU(K:Fg)(G:Pg)(B:Av)(H:Hp)(A:Av):Sl->Option V->Prop
 |.no,_=>True
 |.v w,o=>∃v,o=some v/\cW K G H A w v
 |.own _,_=>False
 |.bor w,o=>∃v,o=some v/\(cW K G H A w v\/(∃x p,w=x.pv/\v= .ref p/\dQ K G H A x p/\B p)\/gb K G H A B w v)
 |.ino _,_=>False
 |.ini _ _,_=>False
 |.dol _ _,_=>False
 |.als _ _,_=>False
 |.rgn _,_=>False
structure eB(K:Fg)(G:Pg)(B:Av)(H:Hp)(A:Av)(ps:aH)(σ :L2.St):Prop where
 len:ps.length= σ.length
 slot:∀(i:Nat) (s:Sl) (o:Option V),ps[i]? =some s-> σ[i]? =some o->zU K G B H A s o
section
variable{K:Fg}{G:Pg}{H H':Hp}{A A' B:Av}{ps:aH}{σ :L2.St}
def iR:Ows:=fun _=>none
theorem wm{c:Fr}(a:Addr):av c iR a->c.A0 a:=by
 rintro(h|⟨i,h⟩)
 ·exact h
 ·cases h
theorem eB.toS(R:eB K G B H A ps σ)(u:gd H A)(ub:gd H B):aN K G ⟨H,A,B,none⟩ H iR ps σ :=by
 refine⟨R.len,ga.of (Same.refl H),(fun p e=>(nomatch e)),u,(fun a z=>⟨ub a z,fun e=>nomatch e⟩),(fun i p e=>(nomatch e)),(fun i j p e=>(nomatch e)),(fun _ _ e=>(nomatch e)),fun i s o e1 e2=> ?_⟩
 have q:=R.slot i s o e1 e2
 have k:Kp K G H A H (av ⟨H,A,B,none⟩ iR):=Kp.weak fun a z=>wm a z
 cases s with
 |no=>rfl
 |v w=>obtain⟨v,e,r⟩:=q;exact⟨rfl,v,e,k.rep r⟩
 |own x=>exact q.elim
 |ino x=>exact q.elim
 |ini k xs=>exact q.elim
 |dol ks xss=>exact q.elim
 |als d j=>exact q.elim
 |rgn w=>exact q.elim
 |bor w =>
  obtain⟨v,e,r⟩:=q
  refine⟨rfl,v,e,?_⟩
  rcases r with r|⟨x,p,e1,e2,r,n⟩|r
  ·exact .inl (k.rep r)
  ·exact .inr (.inl ⟨x,p,e1,e2,r.keep k rfl,n⟩)
  ·exact .inr (.inr (r.keep k fun _ _ _=>rfl))
theorem eB.ofS{c:Fr}(R:aN K G c H iR ps σ)(hl:c.lx=none):eB K G c.B0 H c.A0 ps σ :=by
 refine⟨R.len,fun i s o e1 e2=> ?_⟩
 have q:=R.slot i s o e1 e2
 have k:Kp K G H (av c iR) H c.A0:=Kp.weak fun a z=> .inl z
 cases s with
 |no=>exact True.intro
 |v w=>obtain⟨_,v,e,r⟩:=q;exact⟨v,e,k.rep r⟩
 |own x=>obtain⟨p,e,_⟩:=q;cases e
 |ino x=>obtain⟨_,_,p,_,e,_⟩:=q;rw[hl]at e;cases e
 |ini k xs=>obtain⟨_,_,p,_,e,_⟩:=q;rw[hl]at e;cases e
 |dol ks xss=>obtain⟨p,qs,e,_⟩:=q;cases e
 |als d j=>obtain⟨_,q',_,e⟩:=q;cases e
 |rgn w=>obtain⟨_,_,_,_,_,_,_,_,_,_,_,_,_,_,_,_,_,e,_⟩:=q;cases e
 |bor w =>
  obtain⟨_,v,e,r⟩:=q
  refine⟨v,e,?_⟩
  rcases r with r|⟨x,p,e1,e2,r,n⟩|r
  ·exact .inl (k.rep r)
  ·exact .inr (.inl ⟨x,p,e1,e2,r.keep k rfl,n⟩)
  ·exact .inr (.inr (r.keep k fun _ _ _=>rfl))
noncomputable def Sl.out:Sl->Sl
 |.own x=> .bor x.pv
 |.ino x=> .bor x.pv
 |.ini _ _=> .no
 |.dol _ _=> .no
 |.als _ _=> .no
 |.rgn _=> .no
 |s=>s
def jU(own:List Str)(caps:List (Str×Nat))(ps:aH):aH:=List.replicate own.length .no++caps.map fun p=>((ps[p.2]?).getD .no).out
theorem aN.caps{c:Fr}{ow:Ows}(R:aN K G c H ow ps σ)(own:List Str)(caps:List (Str×Nat)):eB K G (fun p=>H p≠none) H (av c ow) (jU own caps ps) (iw own caps σ):=by
 refine⟨by simp[jU,iw],fun i s o e1 e2=> ?_⟩
 unfold jU at e1
 unfold iw at e2
 rcases Nat.lt_or_ge i own.length with h|h
 ·rw[List.getElem?_append_left (by simpa using h),List.getElem?_replicate,if_pos h]at e1
  cases e1
  exact True.intro
 ·rw[List.getElem?_append_right (by simpa using h),List.length_replicate,List.getElem?_map]at e1 e2
  cases ep:caps[i-own.length]? with
  |none=>rw[ep]at e1;cases e1
  |some p =>
   rw[ep]at e1 e2
   have e1:((ps[p.2]?).getD .no).out=s:=Option.some.inj e1
   have e2:(σ[p.2]?).getD none=o:=Option.some.inj e2
   cases eq:ps[p.2]? with
   |none=>rw[eq]at e1;subst e1;exact True.intro
   |some t =>
    obtain⟨o',eo,q⟩:=R.get eq
    rw[eq]at e1;rw[eo]at e2
    have e2:o'=o:=e2
    subst e2
    subst e1
    cases t with
    |no=>exact True.intro
    |v w=>obtain⟨_,v,e,r⟩:=q;exact⟨v,e,r⟩
    |own x=>obtain⟨p,_,e,r⟩:=q;obtain⟨o',eo,_⟩:=r.at;exact⟨_,e,.inr (.inl ⟨x,p,rfl,rfl,r,by show H p≠none;rw[eo];simp⟩)⟩
    |ino x=>obtain⟨_,_,p,e,_,r⟩:=q;obtain⟨o',eo,_⟩:=r.at;exact⟨_,e,.inr (.inl ⟨x,p,rfl,rfl,r,by show H p≠none;rw[eo];simp⟩)⟩
    |ini k xs=>exact True.intro
    |dol ks xss=>exact True.intro
    |als d j=>exact True.intro
    |rgn w=>exact True.intro
    |bor w =>
     obtain⟨_,v,e,r⟩:=q
     refine⟨v,e,?_⟩
     rcases r with r|⟨x,p,e1,e2,r,_⟩|r
     ·exact .inl r
     ·obtain⟨o',eo,_⟩:=r.at
      exact .inr (.inl ⟨x,p,e1,e2,r,by show H p≠none;rw[eo];simp⟩)
     ·exact .inr (.inr (r.mono fun _ _ n=>n))
end
def mv(K:Fg)(G:Pg)(ms:List Bool)(g:List PV->Rx PV):Sp:=fun vs H Q _=>∃A ws w,gd H A/\dB K G H A ms ws vs/\g ws= .ok w/\ ∀v H',Same H H'->cW K G H' A w v->Q v H'
section
variable{X:Cx}{G:Pg}{e a b o:Expr}{es:List Expr}{da db:DP}{d:DA}{pos p apos:Pos}{x m:Str}{k:Nat}{ms:List Bool}{g:List PV->Rx PV}
theorem p_fn(h:p9 X.prog X.w X.K X.mg X.base fS k x (mv X.K G ms g))(hr:bf k X.A)(hg:Gl X x)(ha:JA X G ms (e::es) d)(hdb:.(O)=false:=by decide)
  (he:starEach (e::es) X.env=.(Af)::starEach es X.env:=by rfl) (hpl:.(Z).any (·.1)=false:=by rfl):JP X G .(Ab) (ad g d) :=
 imp (ui (E:=E0) h hr hg j5 ha hdb he hpl) fun σ H Q ⟨c,ow,ps,w,R,e,q⟩=>by
  obtain⟨ws,e1,e2⟩:=ak e
  exact⟨c,ow,ps,ws,R,e1,fun vs H' s r=>⟨_,ws,w,(R.grow s).used,r,e2,fun v H2 s2 r2=>q v H2 (s.trans s2) r2⟩⟩
theorem jc{f:Str}:∀{ns:List Str} {vs:List V},f∉ns->(ns.zip vs).lookup f=none
 |[],vs,_=>rfl
 |n::ns,[],_=>rfl
 |n::ns,u::vs,h=>by
  have h1:(f == n)=false:=by
   have:f≠n:=fun z=>h (by rw[z];exact List.mem_cons_self)
   simpa using this
  rw[List.zip_cons_cons,List.lookup_cons,h1]
  exact jc fun z=>h (List.mem_cons_of_mem _ z)
structure iB(P:Program)(w:World)(K:Fg)(mg:Str->Option Value)(base:Bs)(G:Pg)(k:Nat)(m:Str)(ms:List Bool)(tab:List (Nat×Nat))(g:Nat->List PV->Rx PV):Prop where
 all:∀c f,tab.lookup c=some f->iu P w K mg base fS k (G.cA c) m (mv K G (false::ms) (g f))/\m∉G.fN c
noncomputable def bn(tab:List (Nat×Nat))(g:Nat->List PV->Rx PV)(d:DP)(r:DA):DP:=fun ps=>(d ps).bind fun x=>match x with
 |.obj c xs=>(match tab.lookup c with|some f=>(r ps).bind fun ws=>g f (.obj c xs::ws)|none=> .bad)
 |_=> .bad
theorem kC{tab:List (Nat×Nat)}{g:Nat->List PV->Rx PV}(h:iB X.prog X.w X.K X.mg X.base G k m ms tab g){σ :L2.St}{H:Hp}{Q:VK}(hq:qa X.K G (bn tab g da d) σ H Q) :
  jN (ι :={ q:Nat×Nat // tab.lookup q.1=some q.2 }) (fun i=>G.cA i.1.1) m (fun i=>mv X.K G (false::ms) (g i.1.2)) E0 (qa X.K G da) (xC X.K G ms d) σ H Q:=by
 obtain⟨c,ow,ps,w,R,e,q⟩:=hq
 obtain⟨x,e1,e2⟩:=ak e
 refine .(Au)
 cases x with
 |obj kc xs =>
  have e2:(match tab.lookup kc with|some f=>(d ps).bind fun ws=>g f (.obj kc xs::ws)|none=> .bad)= .ok w:=e2
  split at e2
  ·rename_i f hf
   obtain⟨ws,e3,e4⟩:=ak e2
   obtain⟨a,dx,vs,ev,hH,hl,na,rs⟩:=id r
   refine⟨⟨(kc,f),hf⟩,a,dx,_,ev,hH,jc (h.all kc f hf).2,c,ow,ps,ws,R.grow s,e3,fun vs2 H2 s2 r2=> ?_⟩
   exact⟨_,.obj kc xs::ws,w,((R.grow s).grow s2).used,⟨_,_,_,_,rfl,rfl,by rw[if_neg Bool.false_ne_true];exact r.same s2,r2⟩,e4,fun v3 H3 s3 r3=>q v3 H3 ((s.trans s2).trans s3) r3⟩
  ·cases e2
 |_=>cases e2
theorem p_meth{tab:List (Nat×Nat)}{g:Nat->List PV->Rx PV}{pl:Sem Bool}(h:iB X.prog X.w X.K X.mg X.base G k m ms tab g)(hr:bf k X.A)(ho:JP X G o da)(ha:JA X G ms (e::es) d)
  (hst:starEach (e::es) X.env=.(Af)::starEach es X.env:=by rfl) (hpl:.(Z).any (·.1)=false:=by rfl)
  (ht:eval (.Call (.Attribute o m apos) (e::es) [] pos) X.env=(do
   let ov <- eval o X.env
   standAt apos.atName
   let (f,first) <- holding [ov] (getMethod ov m pl)
   callWith pos f first (backTo pos (starEach (e::es) X.env)) (backToKw pos (keywordEach [] X.env))):=by rfl):JP X G (.Call (.Attribute o m apos) (e::es) [] pos) (bn tab g da d) :=
 imp (ma (ι :={ q:Nat×Nat // tab.lookup q.1=some q.2 }) (pl:=pl) ho (fun i=>(h.all i.1.1 i.1.2 i.2).1) hr j5 ha hst hpl ht) fun _ _ _=>kC h
theorem eR{tab:List (Nat×Nat)}{g:Nat->List PV->Rx PV}{pl:Sem Bool}(h:iB X.prog X.w X.K X.mg X.base G k m [] tab g)(hr:bf k X.A)(ho:JP X G o da)
  (ht:eval (.Call (.Attribute o m apos) [] [] pos) X.env=(do
   let ov <- eval o X.env
   standAt apos.atName
   let (f,first) <- holding [ov] (getMethod ov m pl)
   callWith pos f first (backTo pos (starEach [] X.env)) (backToKw pos (keywordEach [] X.env))):=by rfl):JP X G (.Call (.Attribute o m apos) [] [] pos) (bn tab g da dNil) :=
 imp (lg (ι :={ q:Nat×Nat // tab.lookup q.1=some q.2 }) (pl:=pl) ho (fun i=>(h.all i.1.1 i.1.2 i.2).1) hr j5 ht) fun σ H Q hq=>by
  obtain⟨c,ow,ps,x,R,e1,f⟩:=kC h hq
  refine .(Au)
  obtain⟨i,a,dx,fs,e2,e3,e4,c',ow',ps',ws,R',e5,f2⟩:=f v H' s r
  have:ws=[]:=by cases e5;rfl
  subst this
  exact⟨i,a,dx,fs,e2,e3,e4,f2 [] H' (Same.refl H') ⟨rfl,rfl⟩⟩
def cu(c:Nat)(d:DA):DP:=fun ps=>(d ps).bind fun ws=> .ok (.obj c ws)
theorem p_new{c:Nat}(h:dY X.prog X.w X.K X.mg X.base x (G.cA c) (G.fN c))(hr:bf (k+2) X.A)(hg:Gl X x)(ha:JA X G ms (e::es) d)(hl:(G.fN c).length=ms.length)(hm:ms.all (! ·)=true:=by rfl)(hdb:.(O)=false:=by decide)
  (he:starEach (e::es) X.env=.(Af)::starEach es X.env:=by rfl) (hpl:.(Z).any (·.1)=false:=by rfl):JP X G .(Ab) (cu c d) :=
 imp (rq h hr hg ha hdb he hpl) fun σ H Q ⟨f,ow,ps,w,R,e,q⟩=>by
  obtain⟨ws,e1,e2⟩:=ak e
  cases e2
  refine⟨f,ow,ps,ws,R,e1,fun vs H' s r=>⟨by rw[r.len.2,hl],fun y dy n1 n2 ne=> ?_⟩⟩
  have sn:=hE (C:=G.cA c) (fs:=(G.fN c).zip vs) n1 n2
  exact q _ _ (s.trans sn) ⟨y,dy,vs,rfl,kq,by rw[r.len.2,hl],fun z=>(R.grow s).used y z n1,(r.reps' hm).same sn⟩
theorem iC{c:Nat}(M:sR X.K (G.cA c))(hf:G.fN c=[])(hg:Gl X x)(hm:X.mg x=some (.ref (G.cA c)))(hdb:.(O)=false:=by decide):JP X G (.Call (.Name x p) [] [] pos) (dC (.obj c [])) :=
 imp (lj M hg hm hdb) fun σ H Q ⟨f,ow,ps,w,R,e,q⟩=>by
  cases e
  intro y dy n1 n2 ne
  have sn:=hE (C:=G.cA c) (fs:=[]) n1 n2
  exact q _ _ sn ⟨y,dy,[],rfl,by rw[List.zip_nil_right];exact kq,by rw[hf];rfl,fun z=>R.used y z n1,rfl⟩
abbrev DG:=PV->aH->Rx aH
def tG(K:Fg)(G:Pg)(g:DG):TG:=fun v σ H Q=>∃(c:Fr) (ow:Ows) (ps:aH) (w:PV) (ps':aH),aN K G c H ow ps σ /\cW K G H (av c ow) w v/\g w ps= .ok ps' /\
 ∀σ' ow',aN K G c H ow' ps' σ'->(∀a,av c ow' a->av c ow a)->Q σ' H
def AL(K:Fg)(G:Pg)(g:List PV->aH->Rx aH):oE:=fun vs σ H Q=>∃(c:Fr) (ow:Ows) (ps:aH) (ws:List PV) (ps':aH),aN K G c H ow ps σ /\az K G H (av c ow) ws vs/\g ws ps= .ok ps' /\
 ∀σ' ow',aN K G c H ow' ps' σ'->(∀a,av c ow' a->av c ow a)->Q σ' H
abbrev JG(X:Cx)(G:Pg)(t:Expr)(g:DG):Prop:=PG X t (tG X.K G g)
abbrev wn(X:Cx)(G:Pg)(t:List Expr)(g:List PV->aH->Rx aH):Prop:=qM X t (AL X.K G g)
theorem uv{e:Expr}{t t':TG}(h:PG X e t)(f:∀v σ H Q,t' v σ H Q->t v σ H Q):PG X e t':=fun pins s σ H v u Q I r q=>h pins s σ H v u Q I r (f v σ H Q q)
theorem qd{e:List Expr}{t t':oE}(h:qM X e t)(f:∀v σ H Q,t' v σ H Q->t v σ H Q):qM X e t':=fun pins s σ H v u Q I r q=>h pins s σ H v u Q I r (f v σ H Q q)
def gSet(i:Nat):DG:=fun w ps=> .ok (ps.set i (.v w))
theorem bv{i:Nat}(hN:X.N.Nodup)(hi:X.N[i]? =some x)(hx:oz X.env.scope x)(hf:X.fn x=true\/X.env.scope.names.lookup x=some .local:=by first|exact .inl rfl|exact .inr rfl|assumption):JG X G (.Name x pos) (gSet i) :=
 uv (oF hN hi hx hf) fun v σ H Q ⟨c,ow,ps,w,ps',R,r,e,q⟩=>by
  cases e
  exact q _ _ (R.setV r) iA
noncomputable def hV:List PV->aH->Rx aH
 |[],ps=> .ok ps
 |_::_,_=> .bad
noncomputable def bI(g:DG)(gs:List PV->aH->Rx aH):List PV->aH->Rx aH
 |w::ws,ps=>(g w ps).bind fun ps'=>gs ws ps'
 |[],_=> .bad
theorem iD:wn X G [] hV:=qd oG fun vs σ H Q ⟨c,ow,ps,ws,ps',R,r,e,q⟩=>by
 cases ws with
 |nil=>cases e;exact⟨r,q σ ow R fun _ z=>z⟩
 |cons w ws=>cases e
theorem bA{t:Expr}{ts:List Expr}{g:DG}{gs:List PV->aH->Rx aH}(h1:JG X G t g)(h2:wn X G ts gs)(hs:(assignEach (t::ts) X.env).map (·.2)=assign t X.env::(assignEach ts X.env).map (·.2):=by rfl):wn X G (t::ts) (bI g gs) :=
 qd (lQ h1 h2 hs) fun vs σ H Q ⟨c,ow,ps,ws,ps',R,r,e,q⟩=>by
  cases ws with
  |nil=>cases e
  |cons w ws =>
   obtain⟨v,vr,rfl,r1,r2⟩:=r
   obtain⟨ps1,e1,e2⟩:=ak e
   refine⟨v,vr,rfl,c,ow,ps,w,ps1,R,r1,e1,fun σ' ow' R' wk=> ?_⟩
   exact⟨c,ow',ps1,ws,ps',R',(Kp.weak wk).reps r2,e2,fun σ2 ow2 R2 wk2=>q σ2 ow2 R2 fun a z=>wk a (wk2 a z)⟩
noncomputable def hX(n:Nat)(gs:List PV->aH->Rx aH):DG:=fun w ps=>match w with | .tup ws=>if ws.length=n then gs ws ps else .bad|_=> .bad
theorem kE{ts:List Expr}{j n:Nat}{gs:List PV->aH->Rx aH}(hc:X.calm=true)(h:wn X G ts gs)(hn:(assignEach ts X.env).length=n:=by rfl)(hst:(assignEach ts X.env).findIdx? (·.1)=none:=by rfl):JG X G (.Tuple ts j pos) (hX n gs) :=
 uv (qN hc h hn hst) fun v σ H Q ⟨c,ow,ps,w,ps',R,r,e,q⟩=>by
  cases w with
  |tup ws =>
   have e:(if ws.length=n then gs ws ps else .bad)= .ok ps':=e
   split at e
   ·rename_i hl
    obtain⟨a,vs,rfl,sq,rs⟩:=r
    exact⟨a,vs,rfl,f8.of sq,by rw[<-rs.len];exact hl,c,ow,ps,ws,ps',R,rs,e,q⟩
   ·cases e
  |_=>cases e
end
def Wk(K:Fg)(G:Pg)(c:Fr)(J:It)(H:Hp)(A:Av)(vs:List V):Prop:=∀H' A',Kp K G H A H' A'->ga c H' ->
 (∀(i:Nat) (x:V),vs[i]? =some x->J.go i H'/\ ∀y H2,J.yld i H' y H2->H2=H'/\y=x)/\J.stop vs.length H'
def AM(J:It)(H:Hp)(vs:List V):Prop:=∀H',Same H H'->(∀(i:Nat) (x:V),vs[i]? =some x->J.go i H'/\ ∀y H2,J.yld i H' y H2->H2=H'/\y=x)/\J.stop vs.length H'
def AN(K:Fg)(G:Pg)(d:DA):TI:=fun σ H R=>∃(c:Fr) (ow:Ows) (ps:aH) (ws:List PV),aN K G c H ow ps σ /\d ps= .ok ws/\ ∀J H' vs,Same H H'->az K G H' (av c ow) ws vs->Wk K G c J H' (av c ow) vs->R J H'
def wo(K:Fg)(G:Pg)(d:DA):TI:=fun σ H R=>∃(c:Fr) (ow:Ows) (ps:aH) (ws:List PV),aN K G c H ow ps σ /\d ps= .ok ws/\ ∀J H' vs,Same H H'->az K G H' (av c ow) ws vs->AM J H' vs->R J H'
abbrev JI(X:Cx)(G:Pg)(tg it:Expr)(d:DA):Prop:=PI X tg it (AN X.K G d)
abbrev wq(X:Cx)(G:Pg)(tg it:Expr)(d:DA):Prop:=PI X tg it (wo X.K G d)
section
variable{X:Cx}{G:Pg}{e a b o tg:Expr}{es:List Expr}{da db:DP}{d:DA}{pos p apos:Pos}{x m:Str}{k:Nat}{ms:List Bool}
theorem py{it:Expr}{t t':TI}(h:PI X tg it t)(f:∀σ H R,t' σ H R->t σ H R):PI X tg it t':=fun pins s σ H R I q=>h pins s σ H R I (f σ H R q)
def bh(d:DP):DA:=fun ps=>(d ps).bind fun x=>match x with | .lst xs=> .ok xs|_=> .bad
def pz(d:DP):DA:=fun ps=>(d ps).bind fun x=>match x with | .tup xs=> .ok xs|_=> .bad
theorem kF{K:Fg}{a:Addr}{vs:List V}{H:Hp}(h:dI K H a vs):(∀(i:Nat) (x:V),vs[i]? =some x->(tR K a).go i H/\ ∀y H2,(tR K a).yld i H y H2->H2=H/\y=x)/\(tR K a).stop vs.length H :=
 ⟨fun i x e=>⟨⟨vs,x,h,e⟩,fun y H2 ⟨e2,hy⟩=>⟨e2,Option.some.inj ((hy vs h).symm.trans e)⟩⟩,⟨vs,h,Nat.le_refl _⟩⟩
theorem i_list(h:JP X G e da):JI X G tg e (bh da):=py (kl h) fun σ H R ⟨c,ow,ps,ws,S,e,q⟩=>by
 obtain⟨x,e1,e2⟩:=ak e
 refine⟨c,ow,ps,x,S,e1,fun v H' s r=> ?_⟩
 split at e2
 ·cases e2
  obtain⟨a,vs,rfl,rd,rs⟩:=r
  exact⟨a,rfl,⟨vs,rd.sq⟩,q _ H' vs s rs fun H2 A2 k _=>kF (k.rdL rd).sq⟩
 ·cases e2
noncomputable def pA(i:Nat):DA:=fun ps=>match ps[i]? with|some (.bor (.lst xs))=> .ok xs|_=> .bad
theorem s_list(h:JB X G e da):wq X G tg e (bh da):=py (kl h) fun σ H R ⟨c,ow,ps,ws,S,e,q⟩=>by
 obtain⟨x,e1,e2⟩:=ak e
 refine⟨c,ow,ps,x,S,e1,fun v H' s r=> ?_⟩
 split at e2
 ·cases e2
  obtain⟨a,vs,rfl,rd,rs⟩:=r.lst
  exact⟨a,rfl,⟨vs,rd⟩,q _ H' vs s rs fun H2 k=>kF (k.seq rd)⟩
 ·cases e2
theorem s_of_i(h:JI X G tg e d):wq X G tg e d:=py h fun σ H R ⟨c,ow,ps,ws,S,e,q⟩=>⟨c,ow,ps,ws,S,e,fun J H' vs s rs w=>q J H' vs s rs fun H2 k=>w H2 _ (Kp.of_same k) (S.grow (s.trans k)).same⟩
def mw(lo:Int)(n:Nat):List PV:=(List.range n).map fun(i:Nat)=>PV.int (lo+(i:Int))
theorem mx{K:Fg}{H:Hp}{A:Av}{lo:Int}{n:Nat}:az K G H A (mw lo n) (iy lo n):=by
 unfold mw iy
 generalize List.range n=l
 induction l with
 |nil=>rfl
 |cons x xs ih=>exact⟨_,_,rfl,rfl,ih⟩
theorem rF{lo:Int}{n:Nat}{H:Hp}:(∀(i:Nat) (x:V),(iy lo n)[i]? =some x->(sQ lo n).go i H/\ ∀y H2,(sQ lo n).yld i H y H2->H2=H/\y=x)/\(sQ lo n).stop (iy lo n).length H:=by
 refine⟨fun i x e=> ?_,by show n<=(iy lo n).length;rw[j7];exact Nat.le_refl _⟩
 have h:=(List.getElem?_eq_some_iff.mp e).1
 rw[j7]at h
 rw[pc h]at e
 exact⟨h,fun y H2 ⟨e2,hy⟩=>⟨e2,hy.trans (Option.some.inj e)⟩⟩
noncomputable def dRng1(d:DA):DA:=fun ps=>(d ps).bind fun ws=>match ws with|[.int j]=>if -(2 ^ 62)<=j/\j<2 ^ 62 then .ok (mw 0 j.toNat) else .bad|_=> .bad
theorem i_rng1{ea:Expr}(hg:Gl X "range")(hm:X.mg "range"=none)(ha:JA X G [false] [ea] d)(hs:starEach [ea] X.env=[(false,eval ea X.env)]:=by rfl):JI X G tg (.Call (.Name "range" p) [ea] [] pos) (dRng1 d) :=
 py (l5 hg hm ha hs) fun σ H R ⟨c,ow,ps,ws,S,e,q⟩=>by
  obtain⟨xs,e1,e2⟩:=ak e
  refine⟨c,ow,ps,xs,S,e1,fun vs H' s r=> ?_⟩
  split at e2
  ·split at e2
   ·rename_i j hj
    cases e2
    obtain⟨v,vr,rfl,r1,rfl⟩:=dB.reps' r rfl
    exact⟨j,by rw[show v=V.int j from r1],hj.1,hj.2,q _ H' _ s mx fun _ _ _ _=>rF⟩
   ·cases e2
  ·cases e2
abbrev xH(X:Cx)(G:Pg)(ifs:List Expr)(d:DT):Prop:=wj X ifs (lK X.K G d)
def ci:DT:=fun _=> .ok true
theorem ts_nil:xH X G [] ci:=fun pins s σ H Q I h=>p6 pins s σ H Q I (by
 obtain⟨c,ow,ps,b,R,e,q⟩:=h
 cases e
 exact q H (Same.refl H))
noncomputable def gg(g:DG)(dt:DT)(de:DP):List PV->aH->Rx (List PV)
 |[],_=> .ok []
 |x::xs,ps=>(g x ps).bind fun ps1=>(dt ps1).bind fun b=>if b=true then(de ps1).bind fun y=>(gg g dt de xs ps1).bind fun r=> .ok (y::r) else gg g dt de xs ps1
noncomputable def dComp(own:List Str)(caps:List (Str×Nat))(di:DA)(g:DG)(dt:DT)(de:DP):DA:=fun ps=>(di ps).bind fun ws=>if ws.length<=sizeLine then gg g dt de ws (jU own caps ps) else .bad
theorem kG{own:List Str}{caps:List (Str×Nat)}{di:DA}{g:DG}{dt:DT}{de:DP}(gk:∀(w:PV) (ps ps':aH),g w ps= .ok ps'->∀(i:Nat) (x:Ow),ps'[i]? =some (Sl.own x)->ps[i]? =some (Sl.own x)){σ :L2.St}{H:Hp}{Q:VK}
  (h:zT X.K G (dComp own caps di g dt de) σ H Q):tComp own caps (wo X.K G di) (tG X.K G g) (lK X.K G dt) (qa X.K G de) σ H Q:=by
 obtain⟨c,ow,ps,rs,R,e,q⟩:=h
 obtain⟨ws,e1,e2⟩:=ak e
 split at e2
 ·rename_i hsz
  refine⟨c,ow,ps,ws,R,e1,fun J H1 vs s1 rep wk=> ?_⟩
  intro D hD
  have R1:=R.grow s1
  have hD0:H D=none:=s1.free hD
  let AD:Av:=fun a=>av c ow a\/a=D
  let B1:Av:=fun p=>H1 p≠none
  have usedB:∀{H':Hp},Same H1 H'->gd H' B1:=fun {H'} s a z=>by
   cases e3:H1 a with
   |none=>exact absurd e3 z
   |some o=>rw[s _ _ e3];simp
  have usedD:∀{H':Hp},Same H1 H'->H' D≠none->gd H' AD:=by
   intro H' s hd a z
   rcases z with z|z
   ·cases e3:H1 a with
    |none=>exact absurd e3 (R1.used a z)
    |some o=>rw[s _ _ e3];simp
   ·rw[z];exact hd
  refine⟨fun i m σ' H'=>∃(ps':aH) (ys:List PV) (us:List V) (rest:List PV),m=ws.length-i/\i<=ws.length/\eB X.K G B1 H' AD ps' σ'/\(∀(j:Nat) (x:Ow),ps'[j]? ≠ some (Sl.own x))/\Same H1 H'/\az X.K G H' AD ws vs/\H' D=some (.lst us)/\az X.K G H' AD ys us/\ys.length<=i /\
    gg g dt de (ws.drop i) ps'= .ok rest/\ys++rest=rs,?_,?_⟩
  ·have sD:Same H1 (upd H1 D (.lst [])):=bG hD _
   have k:Kp X.K G H1 (av c ow) (upd H1 D (.lst [])) AD:=Kp.take hD sD fun a z=>z.symm
   have F0:=R1.caps own caps
   refine⟨_,jU own caps ps,[],[],rs,rfl,Nat.zero_le _,⟨F0.len,fun i s o h1 h2=> ?_⟩,fun j x z=> ?_,sD,k.reps rep,aE,rfl,Nat.le_refl _,e2,rfl⟩
   ·have q:=F0.slot i s o h1 h2
    cases s with
    |no=>exact True.intro
    |v w=>obtain⟨v,e,r⟩:=q;exact⟨v,e,k.rep r⟩
    |own x=>exact q.elim
    |ino x=>exact q.elim
    |ini k xs=>exact q.elim
    |dol ks xss=>exact q.elim
    |als d j=>exact q.elim
    |rgn w=>exact q.elim
    |bor w =>
     obtain⟨v,e,r⟩:=q
     refine⟨v,e,?_⟩
     rcases r with r|⟨x,p,e1,e2,r,n⟩|r
     ·exact .inl (k.rep r)
     ·obtain⟨o',eo,_⟩:=r.at
      exact .inr (.inl ⟨x,p,e1,e2,r.keep k (by rw[sD _ _ eo,eo]),n⟩)
     ·exact .inr (.inr (r.keep k fun p _ n=>by
       cases e:H1 p with
       |none=>exact absurd e n
       |some o=>exact sD _ _ e))
   ·have hl:j<(jU own caps ps).length:=(List.getElem?_eq_some_iff.mp z).1
    have hl2:j<(iw own caps σ).length:=by rw[<-F0.len];exact hl
    exact(F0.slot j _ _ z (List.getElem?_eq_getElem hl2)).elim
  ·rintro i m σ' H' ⟨ps',ys,us,rest,rfl,hi',F,no,sm,rep',hH,ry,hy,ec,er⟩
   have lv:=rep'.len
   have wk':=wk H' sm
   rcases Nat.lt_or_ge i ws.length with hlt|hge
   ·right
    have hdr:ws.drop i=ws[i]::ws.drop (i+1):=List.drop_eq_getElem_cons hlt
    rw[hdr]at ec
    have hgi:ws[i]? =some ws[i]:=List.getElem?_eq_getElem hlt
    obtain⟨v,hv,rv⟩:=rep'.get hgi
    obtain⟨go,yl⟩:=wk'.1 i v hv
    refine⟨go,_,fun _ _ h=>h,fun y H2 hyl=> ?_⟩
    obtain⟨rfl,rfl⟩:=yl y H2 hyl
    obtain⟨ps1,c1,ec⟩:=ak ec
    obtain⟨bb,c2,ec⟩:=ak ec
    have u':gd H2 AD:=usedD sm (by rw[hH];simp)
    have S':=F.toS u' (usedB sm)
    have kav:Kp X.K G H2 AD H2 (av ⟨H2,AD,B1,none⟩ iR):=Kp.weak fun a z=>wm a z
    refine⟨⟨H2,AD,B1,none⟩,iR,ps',ws[i],ps1,S',kav.rep rv,c1,fun σ3 ow3 S3 wk3=> ?_⟩
    have no1:∀(j:Nat) (x:Ow),ps1[j]? ≠ some (Sl.own x):=fun j x z=>no j x (gk _ _ _ c1 j x z)
    have eow:ow3=iR:=by
     funext j
     cases q:ow3 j with
     |none=>rfl
     |some p'=>exact absurd (S3.fresh j p' q) (S3.a0 p' (wm p' (wk3 p' (.inr ⟨j,q⟩))))
    subst eow
    refine⟨⟨H2,AD,B1,none⟩,iR,ps1,bb,S3,c2,fun H4 s4=> ?_⟩
    have S4:=S3.grow s4
    have aft:∀{H5:Hp},Same H2 H5->eB X.K G B1 H5 AD ps1 σ3:=fun s5=>eB.ofS (S3.grow s5) rfl
    split at ec
    ·rename_i hb
     subst hb
     refine iteT ?_
     obtain⟨yw,c3,ec⟩:=ak ec
     obtain⟨r',c4,ec⟩:=ak ec
     cases ec
     refine⟨⟨H2,AD,B1,none⟩,iR,ps1,yw,S4,c3,fun yv H5 s5 r5=> ?_⟩
     have s25:=s4.trans s5
     have hH5:H5 D=some (.lst us):=s25 _ _ hH
     have r5':cW X.K G H5 AD yw yv:=(Kp.weak fun a z=>Or.inl z).rep r5
     have mD:Mt (HO.lst us):=And.intro (fun _ z=>by cases z) (fun _ _ z=>by cases z)
     have kD:∀u,Kp X.K G H5 AD (upd H5 D u) AD:=fun u=>Kp.own (.inr rfl) hH5 mD
     have F5:=aft s25
     refine⟨us,hH5,?_,ws.length-(i+1),by omega,ps1,ys++[yw],us++[yv],r',rfl,hlt,⟨F5.len,fun j s o h1 h2=> ?_⟩,no1,fun b u hb=> ?_,(kD _).reps (rep'.same s25),aE,(kD _).reps ((ry.same s25).snoc r5'),by rw[List.length_append];simp;omega,c4,by rw[<-er,List.append_assoc];rfl⟩
     ·rw[<-ry.len];omega
     ·have q:=F5.slot j s o h1 h2
      cases s with
      |no=>exact True.intro
      |v w=>obtain⟨v,e,r⟩:=q;exact⟨v,e,(kD _).rep r⟩
      |own x=>exact q.elim
      |ino x=>exact q.elim
      |ini k xs=>exact q.elim
      |dol ks xss=>exact q.elim
      |als d j=>exact q.elim
      |rgn w=>exact q.elim
      |bor w =>
       obtain⟨v,e,r⟩:=q
       refine⟨v,e,?_⟩
       rcases r with r|⟨x,p',e1',e2',r,n⟩|r
       ·exact .inl ((kD _).rep r)
       ·exact .inr (.inl ⟨x,p',e1',e2',r.keep (kD _) (ay (by intro z;subst z;exact n hD)),n⟩)
       ·exact .inr (.inr (r.keep (kD _) fun p' n _=>ay (by intro z;subst z;exact n hD)))
     ·rw[ay (aU hb hD)];exact s25 _ _ (sm _ _ hb)
    ·rename_i hb
     have:bb=false:=by simpa using hb
     subst this
     exact jM ⟨ws.length-(i+1),by omega,ps1,ys,us,rest,rfl,hlt,aft s4,no1,sm.trans s4,rep'.same s4,s4 _ _ hH,ry.same s4,by omega,ec,er⟩
   ·left
    have:i=ws.length:=Nat.le_antisymm hi' hge
    subst this
    rw[List.drop_length]at ec
    cases ec
    rw[List.append_nil]at er
    subst er
    refine⟨by rw[lv];exact wk'.2,q D us H' (s1.trans sm) hD0 hH ry⟩
 ·cases e2
theorem eC{elt iter:Expr}{ifs:List Expr}{scope:Scope}{own:List Str}{caps:List (Str×Nat)}{di:DA}{g:DG}{dt:DT}{de:DP}(S:cR X scope own caps)(hc:X.calm=true)(hi:wq X G tg iter di)
  (hg:∀C s₀ H₀ fp,JG .(X) G tg g) (ht:∀C s₀ H₀ fp,xH .(X) G ifs dt) (he:∀C s₀ H₀ fp,JP .(X) G elt de)
  (gk:∀(w:PV) (ps ps':aH),g w ps= .ok ps'->∀(i:Nat) (x:Ow),ps'[i]? =some (Sl.own x)->ps[i]? =some (Sl.own x))
  (hs:∀x,foldedSetIterable iter X.env x=pure x:=by intro _;rfl):JN X G .(AC) (dComp own caps di g dt de) :=
 imp (p7 (wi:=wo X.K G di) (g:=tG X.K G g) (tc:=lK X.K G dt) (te:=qa X.K G de) S hc hi hg ht he hs) fun σ H Q h=>kG gk h
end
section
variable{X:Cx}{G:Pg}{e a b o tg:Expr}{es:List Expr}{da db:DP}{d:DA}{dm:DM}{dma:kv}{pos p apos cpos:Pos}{x m:Str}{k i:Nat}{ms:List Bool}
def xI:kv:=fun ps=> .ok ([],ps)
noncomputable def uw(a:DM)(r:kv):kv:=fun ps=>(a ps).bind fun x=>(r x.2).bind fun y=> .ok (x.1::y.1,y.2)
noncomputable def xJ(d:kv):DM:=fun ps=>(d ps).bind fun x=>if x.1.length<=1000 then .ok (.tup x.1,x.2) else .bad
noncomputable def xK(i:Nat):DM:=fun ps=>match ps[i]? with
 |some (.own (.lst xs))=>(match xs.getLast? with|some w=> .ok (w,ps.set i (.own (.lst xs.dropLast)))|none=> .bad)
 |_=> .bad
noncomputable def xL(i:Nat)(d:DM):DM:=fun ps=>match ps[i]? with
 |some (.own (.lst _))=>(d ps).bind fun x=>(match x.2[i]? with|some (.own (.lst xs))=>if xs.length<sizeLine then .ok (.non,x.2.set i (.own (.lst (xs++[x.1])))) else .bad|_=> .bad)
 |_=> .bad
noncomputable def xM(i:Nat):DM:=fun ps=>match ps[i]? with
 |some (.own y)=> .ok (y.pv,ps.set i (.v y.pv))
 |some (.v w)=> .ok (w,ps)
 |_=> .bad
noncomputable def ux(f:List PV->Rx PV)(d:kv):DM:=fun ps=>(d ps).bind fun x=>(f x.1).bind fun w=> .ok (w,x.2)
end
inductive Rs where
 |nx (ps:aH)|ret (w:PV)|retn (xs:List PV)|reti (w:PV) (x:Ow)|brk (ps:aH)|cnt (ps:aH)|bad|exc (c:Nat)
abbrev DS:=aH->Rs
def cZ(K:Fg)(G:Pg)(c:Fr)(H:Hp)(A:Av)(D:iU):Rs->Prop
 |.nx ps=>∀σ H' ow,aN K G c H' ow ps σ ->Kp K G H A H' (av c ow)->D.nx σ H'
 |.ret w=>∀v H',ga c H'->cW K G H' c.A0 w v->D.rt v H'
 |.reti w x=>∀v H' p,ga c H'->c.lx=some p->dQ K G H' c.A0 x p->cW K G H' c.A0 w v->D.rt v H'
 |.retn xs=>∀p vs H',ga c H'->c.H0 p=none->H' p=some (.lst vs)->az K G H' (fun a=>c.A0 a\/a=p) xs vs->D.rt (.ref p) H'
 |.brk ps=>∀σ H' ow,aN K G c H' ow ps σ ->Kp K G H A H' (av c ow)->D.bk σ H'
 |.cnt ps=>∀σ H' ow,aN K G c H' ow ps σ ->Kp K G H A H' (av c ow)->D.ct σ H'
 |.bad=>False
 |.exc _=>False
theorem cZ.mono{K:Fg}{G:Pg}{c:Fr}{H H1:Hp}{A A1:Av}{D:iU}{r:Rs}(h:cZ K G c H A D r)(k:Kp K G H A H1 A1):cZ K G c H1 A1 D r:=by
 cases r with
 |nx ps=>exact fun σ H' ow R k'=>h σ H' ow R (k.trans k')
 |ret w=>exact h
 |retn xs=>exact h
 |reti w x=>exact h
 |brk ps=>exact fun σ H' ow R k'=>h σ H' ow R (k.trans k')
 |cnt ps=>exact fun σ H' ow R k'=>h σ H' ow R (k.trans k')
 |bad=>exact h
 |exc c=>exact h
def tD(K:Fg)(G:Pg)(d:DS):TS:=fun D σ H=>∃(c:Fr) (ow:Ows) (ps:aH),aN K G c H ow ps σ /\cZ K G c H (av c ow) D (d ps)
abbrev JS(X:Cx)(G:Pg)(st:Stmt)(d:DS):Prop:=PS X st (tD X.K G d)
abbrev lL(X:Cx)(G:Pg)(st:List Stmt)(d:DS):Prop:=jx X st (tD X.K G d)
theorem jd{X:Cx}{st:Stmt}{t t':TS}(h:PS X st t)(f:∀D σ H,t' D σ H->t D σ H):PS X st t':=fun pins s σ H D I q=>h pins s σ H D I (f D σ H q)
theorem my{X:Cx}{st:List Stmt}{t t':TS}(h:jx X st t)(f:∀D σ H,t' D σ H->t D σ H):jx X st t':=fun pins s σ H D I q=>h pins s σ H D I (f D σ H q)
noncomputable def Rx.st{α :Type}:Rx α ->(α ->Rs)->Rs
 |.ok a,f=>f a
 |.bad,_=> .bad
 |.exc c,_=> .exc c
@[simp]theorem dn{α :Type}(a: α)(f: α ->Rs):(Rx.ok a).st f=f a:=rfl
@[simp]theorem xN{α :Type}(f: α ->Rs):(Rx.bad:Rx α).st f= .bad:=rfl
@[simp]theorem xO{α :Type}(c:Nat)(f: α ->Rs):(Rx.exc c:Rx α).st f= .exc c:=rfl
theorem bQ{α :Type}{K:Fg}{G:Pg}{c:Fr}{H:Hp}{A:Av}{D:iU}{m:Rx α}{f: α ->Rs}(h:cZ K G c H A D (m.st f)):∃a,m= .ok a/\cZ K G c H A D (f a):=by
 cases m with
 |ok a=>exact⟨a,rfl,h⟩
 |bad=>exact h.elim
 |exc c=>exact h.elim
section
variable{X:Cx}{G:Pg}{e a b o tg:Expr}{es:List Expr}{da db:DP}{d:DA}{dm:DM}{ds du:DS}{st:Stmt}{rest:List Stmt}{pos p:Pos}{x m:Str}{k i:Nat}
def al:DS:=fun ps=> .nx ps
def ao(a b:DS):DS:=fun ps=>match a ps with | .nx ps'=>b ps'|r=>r
theorem ai:lL X G [] al:=my oC fun D σ H ⟨c,ow,ps,R,q⟩=>q σ H ow R (Kp.of_same (Same.refl H))
theorem af(h:JS X G st ds):lL X G [st] ds:=fQ h
theorem ae(h1:JS X G st ds)(h2:lL X G rest du):lL X G (st::rest) (ao ds du):=my (cO h1 h2) fun D σ H ⟨c,ow,ps,R,q⟩=>by
 refine⟨c,ow,ps,R,?_⟩
 unfold ao at q
 cases e:ds ps with
 |nx ps'=>rw[e]at q;exact fun σ' H' ow' R' k=>⟨c,ow',ps',R',q.mono k⟩
 |ret w=>rw[e]at q;exact q
 |retn xs=>rw[e]at q;exact q
 |reti w x=>rw[e]at q;exact q
 |brk ps'=>rw[e]at q;exact q
 |cnt ps'=>rw[e]at q;exact q
 |bad=>rw[e]at q;exact q
 |exc c=>rw[e]at q;exact q
def xP:DS:=fun ps=> .brk ps
def xQ:DS:=fun ps=> .cnt ps
noncomputable def aO(i:Nat)(d:DP):DS:=fun ps=>(d ps).st fun w=> .nx (ps.set i (.v w))
theorem aT(hN:X.N.Nodup)(hi:X.N[i]? =some x)(hx:oz X.env.scope x)(he:JP X G e da)(hs:swapsWith e (some (.Name x p)) pos.line X.env=pure false:=by rfl)(hf:X.fn x=true\/X.env.scope.names.lookup x=some .local:=by first|exact .inl rfl|exact .inr rfl|assumption) :
  JS X G (.Assign [.Name x p] e pos) (aO i da):=jd (lR hN hi hx he hs hf) fun D σ H ⟨c,ow,ps,R,q⟩=>by
 obtain⟨w,e1,q⟩:=bQ q
 exact⟨c,ow,ps,w,R,e1,fun v H' s r=>q _ _ _ ((R.grow s).setV r) ((Kp.of_same s).trans (Kp.weak iA))⟩
noncomputable def uy(i:Nat)(d:DM):DS:=fun ps=>(d ps).st fun w=> .nx (w.2.set i (.v w.1))
noncomputable def xR(i:Nat)(d:DA):DS:=fun ps=>(d ps).st fun ws=>if i<ps.length then .nx (ps.set i (.own (.lst ws))) else .bad
noncomputable def lp(g:DG)(d:DP):DS:=fun ps=>(d ps).st fun w=>(g w ps).st fun ps'=> .nx ps'
theorem kH{g:DG}(he:JP X G e da)(hg:JG X G tg g)(hs:swapsWithSole [tg] e pos.line X.env=pure false:=by rfl)(hw:swappedStores [tg] e X.env=pure none:=by rfl)(h1:(assignEach [tg] X.env).map (·.2)=[assign tg X.env]:=by rfl):JS X G (.Assign [tg] e pos) (lp g da) :=
 jd (qO he hg hs hw h1) fun D σ H ⟨c,ow,ps,R,q⟩=>by
  obtain⟨w,e1,q⟩:=bQ q
  obtain⟨ps',e2,q⟩:=bQ q
  exact⟨c,ow,ps,w,R,e1,fun v H' s r=>⟨c,ow,ps,w,ps',R.grow s,r,e2,fun σ' ow' R' wk=>q _ _ _ R' ((Kp.of_same s).trans (Kp.weak wk))⟩⟩
def uz(d:DM):DS:=fun ps=>(d ps).st fun w=> .nx w.2
def aq(d:DP):DS:=fun ps=>(d ps).st fun w=> .ret w
theorem ah(he:JP X G e da):JS X G (.Return (some e) pos) (aq da):=jd (qL he) fun D σ H ⟨c,ow,ps,R,q⟩=>by
 obtain⟨w,e1,q⟩:=bQ q
 exact⟨c,ow,ps,w,R,e1,fun v H' s r=>q v H' (R.same.trans s) ((Kp.weak fun a z=>Or.inl z).rep r)⟩
noncomputable def uA(d:DM):DS:=fun ps=>(d ps).st fun w=> .ret w.1
def uB(d:DA):DS:=fun ps=>(d ps).st fun xs=> .retn xs
noncomputable def uC(i:Nat):DS:=fun ps=>match ps[i]? with|some (.own (.lst xs))=> .retn xs|_=> .bad
def uD:DS:=fun _=> .ret .non
def sIf(t:DT)(a b:DS):DS:=fun ps=>(t ps).st fun x=>if x=true then a ps else b ps
theorem aD{c:Expr}{a b:List Stmt}{dt:DT}(hc:JT X G c dt)(ha:lL X G a ds)(hb:lL X G b du):JS X G (.If c a b pos) (sIf dt ds du):=jd (tO hc ha hb) fun D σ H ⟨c,ow,ps,R,q⟩=>by
 obtain⟨x,e1,q⟩:=bQ q
 refine⟨c,ow,ps,x,R,e1,fun H' s=> ?_⟩
 split at q
 ·rename_i hx;subst hx;exact iteT ⟨c,ow,ps,R.grow s,q.mono (Kp.of_same s)⟩
 ·rename_i hx
  have:x=false:=by simpa using hx
  subst this
  exact jM ⟨c,ow,ps,R.grow s,q.mono (Kp.of_same s)⟩
noncomputable def bW(g:DG)(body:DS):List PV->aH->Rs
 |[],ps=> .nx ps
 |w::ws,ps=>(g w ps).st fun ps1=>match body ps1 with
  |.nx ps2=>bW g body ws ps2
  |.cnt ps2=>bW g body ws ps2
  |.brk ps2=> .nx ps2
  |r=>r
noncomputable def sFor(di:DA)(g:DG)(body:DS):DS:=fun ps=>(di ps).st fun ws=>bW g body ws ps
theorem kI{iter:Expr}{body:List Stmt}{di:DA}{g:DG}(hp:PassesOwn .(J) X.A X.env X.xe)(hc:X.calm=true)(hi:JI X G tg iter di)(hg:JG X G tg g)(hb:lL X G body ds)
  (hs:∀x,foldedSetIterable iter X.env x=pure x:=by intro _;rfl):JS X G (.For tg iter body [] pos) (sFor di g ds):=jd (qQ hp hc hi hg hb hs) fun D σ H ⟨c,ow,ps,R,q⟩=>by
 obtain⟨ws,e1,q⟩:=bQ q
 refine⟨c,ow,ps,ws,R,e1,fun J H1 vs s1 rep wk=> ?_⟩
 refine⟨fun i m σ' H'=>∃ow' ps',m=ws.length-i/\i<=ws.length/\aN X.K G c H' ow' ps' σ'/\Kp X.K G H1 (av c ow) H' (av c ow')/\cZ X.K G c H' (av c ow') D (bW g ds (ws.drop i) ps'),
  ⟨_,ow,ps,rfl,Nat.zero_le _,R.grow s1,Kp.of_same (Same.refl _),q.mono (Kp.of_same s1)⟩,?_⟩
 rintro i m σ' H' ⟨ow',ps',rfl,hi',R',k',q'⟩
 obtain⟨wg,wst⟩:=wk H' _ k' R'.same
 rcases Nat.lt_or_ge i ws.length with hlt|hge
 ·right
  rw[List.drop_eq_getElem_cons hlt]at q'
  obtain⟨v,hv,rv⟩:=(k'.reps rep).get (List.getElem?_eq_getElem hlt)
  obtain⟨go,yl⟩:=wg i v hv
  refine⟨go,_,fun _ _ h=>h,fun y H2 hyl=> ?_⟩
  obtain⟨rfl,rfl⟩:=yl y H2 hyl
  obtain⟨ps1,c1,q'⟩:=bQ q'
  refine⟨c,ow',ps',ws[i],ps1,R',rv,c1,fun σ3 ow3 R3 wk3=> ?_⟩
  have k3:Kp X.K G H1 (av c ow) H2 (av c ow3):=k'.trans (Kp.weak wk3)
  have q3:=q'.mono (Kp.weak (K:=X.K) (G:=G) (H:=H2) wk3)
  refine⟨c,ow3,ps1,R3,?_⟩
  cases er:ds ps1 with
  |nx ps2 =>
   rw[er]at q3
   exact fun σ4 H4 ow4 R4 k4=>⟨ws.length-(i+1),by omega,ow4,ps2,rfl,hlt,R4,k3.trans k4,cZ.mono q3 k4⟩
  |cnt ps2 =>
   rw[er]at q3
   exact fun σ4 H4 ow4 R4 k4=>⟨ws.length-(i+1),by omega,ow4,ps2,rfl,hlt,R4,k3.trans k4,cZ.mono q3 k4⟩
  |brk ps2=>rw[er]at q3;exact q3
  |ret w=>rw[er]at q3;exact q3
  |retn xs=>rw[er]at q3;exact q3
  |reti w x=>rw[er]at q3;exact q3
  |bad=>rw[er]at q3;exact q3
  |exc c=>rw[er]at q3;exact q3
 ·left
  have:i=ws.length:=Nat.le_antisymm hi' hge
  subst this
  rw[List.drop_length]at q'
  exact⟨by rw[rep.len];exact wst,q' σ' H' ow' R' (Kp.of_same (Same.refl _))⟩
end
noncomputable def jv(ms:List Bool)(n:Nat)(ws:List PV):aH:=(List.zipWith (fun m w=>if m=true then Sl.bor w else Sl.v w) ms ws)++List.replicate (n-ws.length) .no
noncomputable def aI(ms:List Bool)(n:Nat)(d:DS)(ws:List PV):Rx PV:=if ws.length=ms.length then(match d (jv ms n ws)with | .ret w=> .ok w | .retn xs=> .ok (.lst xs) | .nx _=> .ok .non | .exc c=> .exc c|_=> .bad) else .bad
theorem zV{K:Fg}{G:Pg}{H:Hp}{A:Av}:∀{ms:List Bool} {ws:List PV} {vs:List V} {i:Nat} {s:Sl} {o:Option V},dB K G H A ms ws vs->(List.zipWith (fun m w=>if m=true then Sl.bor w else Sl.v w) ms ws)[i]? =some s->(vs.map some)[i]? =some o->zU K G (fun p=>H p≠none) H A s o
 |[],ws,vs,i,s,o,h,e1,e2=>by obtain⟨rfl,rfl⟩:=h;simp at e1
 |m::ms,ws,vs,0,s,o,h,e1,e2=>by
  obtain⟨w,wr,v,vr,rfl,rfl,r,rr⟩:=h
  simp at e1 e2
  subst e1;subst e2
  cases m with
  |true =>
   simp only[if_pos]
   rw[if_pos rfl]at r
   refine⟨v,rfl,?_⟩
   rcases r with r|⟨x,p,e1,e2,r⟩|r
   ·exact .inl r
   ·obtain⟨o',eo,_⟩:=r.at
    exact .inr (.inl ⟨x,p,e1,e2,r,by show H p≠none;rw[eo];simp⟩)
   ·exact .inr (.inr (r.mono fun _ _ n=>n))
  |false =>
   rw[if_neg Bool.false_ne_true]at r
   exact⟨v,rfl,r⟩
 |m::ms,ws,vs,i+1,s,o,h,e1,e2=>by
  obtain⟨w,wr,v,vr,rfl,rfl,r,rr⟩:=h
  exact zV (i:=i) rr (by simpa using e1) (by simpa using e2)
theorem mB{K:Fg}{G:Pg}{H:Hp}{A:Av}{ms:List Bool}{ws:List PV}{vs:List V}{N:List Str}(r:dB K G H A ms ws vs):eB K G (fun p=>H p≠none) H A (jv ms N.length ws) (L2.fH N vs):=by
 have l1:=r.len.1
 have l2:=r.len.2
 refine⟨by simp[jv,L2.fH,l1,l2],fun i s o e1 e2=> ?_⟩
 unfold jv at e1
 unfold L2.fH at e2
 rcases Nat.lt_or_ge i ms.length with h|h
 ·rw[List.getElem?_append_left (by simp[l1];omega)]at e1
  rw[List.getElem?_append_left (by simp[l2];omega)]at e2
  exact zV r e1 e2
 ·rw[List.getElem?_append_right (by simp[l1];omega),List.getElem?_replicate]at e1
  split at e1
  ·cases e1;exact True.intro
  ·cases e1
theorem mC{P:Program}{w:World}{K:Fg}{mg:Str->Option Value}{base:Bs}{G:Pg}{x qual:Str}{st:Stmt}{f:Addr}{fd:FuncData}{N ps:List Str}{k:Nat}{ms:List Bool}{d:DS}(F:fM K x qual st f fd)(S:aj N ps (ag st))(hm:ms.length=ps.length)
  (hb:∀(cdv:Value) (A:Around) (outer:List Env) (s:Shared) (H:Hp) (E:XK),bf k (A.deeper (envOfC qual (ag st) s.heap.objs.size f cdv))->lL (io fS P w K mg base N qual (ag st) f cdv A outer s H E).nox G (bw st) d) :
  bM P w K mg base fS (k+1) f fd ps (mv K G ms (aI ms N.length d)):=by
 refine F.ok S (fun vs H Q E h=> ?_) (fun cdv A outer s H vs Q E hr h=> ?_)
 ·obtain⟨A,ws,w,u,r,_⟩:=h
  rw[r.len.2,hm]
 ·obtain⟨A',ws,w',u,r,e,q⟩:=h
  refine⟨_,hb cdv A outer s H E hr,?_⟩
  have F0:=mB (N:=N) r
  have S0:=F0.toS u fun a z=>z
  refine⟨_,iR,jv ms N.length ws,S0,?_⟩
  unfold aI at e
  rw[if_pos r.len.1]at e
  cases ed:d (jv ms N.length ws) with
  |nx ps'=>rw[ed]at e;cases e;exact fun σ' H' ow' R' _=>q .non H' (R'.same.same rfl) rfl
  |ret w2=>rw[ed]at e;cases e;exact fun v H' s r=>q v H' (s.same rfl) r
  |reti w x=>rw[ed]at e;cases e
  |retn xs=>rw[ed]at e;cases e;exact fun p vs H' s hp hv r=>q (.ref p) H' (s.same rfl) ⟨p,vs,rfl,.inl ⟨hv,fun z=>u p z hp⟩,(Kp.weak fun a z=>Or.inl z).reps r⟩
  |brk _=>rw[ed]at e;cases e
  |cnt _=>rw[ed]at e;cases e
  |bad=>rw[ed]at e;cases e
  |exc _=>rw[ed]at e;cases e
def sV:PV->Bool
 |.non=>true | .bl _=>true | .int _=>true | .str _=>true|_=>false
mutual
noncomputable def jw:PV->PV->Option Bool
 |.tup xs,.tup ys=>dg xs ys
 |.lst xs,.lst ys=>if xs.length=ys.length then dg xs ys else some false
 |.tup _,.lst _=>some false
 |.lst _,.tup _=>some false
 |.tup _,.non=>some false | .tup _,.bl _=>some false | .tup _,.int _=>some false | .tup _,.str _=>some false
 |.lst _,.non=>some false | .lst _,.bl _=>some false | .lst _,.int _=>some false | .lst _,.str _=>some false
 |.non,.tup _=>some false | .bl _,.tup _=>some false | .int _,.tup _=>some false | .str _,.tup _=>some false
 |.non,.lst _=>some false | .bl _,.lst _=>some false | .int _,.lst _=>some false | .str _,.lst _=>some false
 |.non,.non=>some true | .bl a,.bl b=>some (a == b) | .int a,.int b=>some (a == b) | .str a,.str b=>some (a == b)
 |.bl a,.int b=>some ((if a then 1 else 0) == b) | .int a,.bl b=>some (a == (if b then 1 else 0))
 |.non,.bl _=>some false | .non,.int _=>some false | .non,.str _=>some false
 |.bl _,.non=>some false | .int _,.non=>some false | .str _,.non=>some false
 |.bl _,.str _=>some false | .str _,.bl _=>some false | .int _,.str _=>some false | .str _,.int _=>some false
 |_,_=>none
noncomputable def dg:List PV->List PV->Option Bool
 |[],[]=>some true
 |x::xs,y::ys=>match jw x y,dg xs ys with|some a,some b=>some (a && b)|_,_=>none
 |[],_::_=>some false
 |_::_,[]=>some false
end
mutual
noncomputable def PV.depth:PV->Nat
 |.tup xs=>aA xs+1
 |.lst xs=>aA xs+1
 |_=>0
noncomputable def aA:List PV->Nat
 |[]=>0
 |x::xs=>max x.depth (aA xs)
end
theorem iE(xs ys:List PV):jw (.tup xs) (.tup ys)=dg xs ys:=rfl
theorem gh(xs ys:List PV):jw (.lst xs) (.lst ys)=if xs.length=ys.length then dg xs ys else some false:=rfl
noncomputable def ls:List PV->List PV->Nat->Bool
 |x::_,y::_,0=>(jw x y).getD false
 |_::xs,_::ys,j+1=>ls xs ys j
 |_,_,_=>false
theorem fj{x y:PV}{xs ys:List PV}{b:Bool}(h:dg (x::xs) (y::ys)=some b):∃a c,jw x y=some a/\dg xs ys=some c/\b=(a && c):=by
 rw[dg]at h
 cases e1:jw x y with
 |none=>rw[e1]at h;simp at h
 |some a =>
  cases e2:dg xs ys with
  |none=>rw[e1,e2]at h;simp at h
  |some c=>rw[e1,e2]at h;simp at h;exact⟨a,c,rfl,rfl,h.symm⟩
theorem cx:∀{xs ys:List PV} {b:Bool},dg xs ys=some b->((List.range (min xs.length ys.length)).all (ls xs ys) && xs.length == ys.length)=b
 |[],[],b,h=>by rw[dg]at h;cases h;rfl
 |[],y::ys,b,h=>by rw[dg]at h;cases h;simp
 |x::xs,[],b,h=>by rw[dg]at h;cases h;simp
 |x::xs,y::ys,b,h=>by
  obtain⟨a,c,e1,e2,rfl⟩:=fj h
  have ih:=cx e2
  rw[<-ih,List.length_cons,List.length_cons,Nat.add_min_add_right,List.range_succ_eq_map,List.all_cons,List.all_map]
  have q1:((ls (x::xs) (y::ys)) ∘ Nat.succ)=ls xs ys:=rfl
  have q2:ls (x::xs) (y::ys) 0=a:=by show(jw x y).getD false=a;rw[e1];rfl
  have q3:(xs.length+1 == ys.length+1)=(xs.length == ys.length):=by simp
  rw[q1,q2,q3,Bool.and_assoc]
section
variable{X:Cx}{G:Pg}{pins:List (Addr×Obj)}{σ :L2.St}{H:Hp}{s:Shared}{A0:Av}
theorem lu(I:aw X pins σ H s){a:Addr}{xs ys:List V}(h:dI X.K H a xs)(h':dI X.K H a ys):xs=ys:=by
 obtain⟨i1,r1,p1,_⟩:=I.list h
 obtain⟨i2,r2,p2,_⟩:=I.list h'
 obtain⟨o,n,e,c,d,q⟩:=p1
 obtain⟨o',n',e',c',d',q'⟩:=p2
 rw[e]at e';cases e'
 rw[q]at q'
 have:i1=i2:=by
  have:=(Data.seq.inj q').1
  simpa using this
 subst this
 exact r1.inj r2
mutual
theorem iF(I:aw X pins σ H s):∀{x y:PV} {v:V} {b:Bool},cW X.K G H A0 x v->cW X.K G H A0 y v->jw x y=some b->b=true
 |.tup xs,y,v,b,h,h',e=>by
  obtain⟨a,vs,rfl,sq,rs⟩:=h
  cases y with
  |tup ys =>
   obtain⟨a',vs',e2,sq',rs'⟩:=h'
   cases e2
   have:=I.tuple_inj (f8.of sq) (f8.of sq')
   subst this
   exact gi I rs rs' e
  |lst ys =>
   obtain⟨a',vs',e2,sq',rs'⟩:=h'
   cases e2
   obtain⟨_,_,⟨o,h1,h2,_⟩,_⟩:=I.tuple (f8.of sq)
   obtain⟨_,_,⟨o',_,h1',h2',_⟩,_⟩:=I.list sq'.sq
   rw[h1]at h1';cases h1'
   rw[h2]at h2';exact absurd (Value.type.inj h2') (by decide)
  |non=>cases h'
  |bl _=>cases h'
  |int _=>cases h'
  |str _=>cases h'
  |_=>cases e
 |.lst xs,y,v,b,h,h',e=>by
  obtain⟨a,vs,rfl,sq,rs⟩:=h
  cases y with
  |lst ys =>
   obtain⟨a',vs',e2,sq',rs'⟩:=h'
   cases e2
   have:=lu I sq.sq sq'.sq
   subst this
   rw[gh,if_pos (by rw[rs.len,rs'.len])]at e
   exact gi I rs rs' e
  |tup ys =>
   obtain⟨a',vs',e2,sq',rs'⟩:=h'
   cases e2
   obtain⟨_,_,⟨o,h1,h2,_⟩,_⟩:=I.tuple (f8.of sq')
   obtain⟨_,_,⟨o',_,h1',h2',_⟩,_⟩:=I.list sq.sq
   rw[h1]at h1';cases h1'
   rw[h2]at h2';exact absurd (Value.type.inj h2') (by decide)
  |non=>cases h'
  |bl _=>cases h'
  |int _=>cases h'
  |str _=>cases h'
  |_=>cases e
 |.non,y,v,b,h,h',e=>by
  cases h
  cases y with
  |non=>cases h' <;> (cases e;simp)
  |bl _=>cases h' <;> (cases e;simp)
  |int _=>cases h' <;> (cases e;simp)
  |str _=>cases h' <;> (cases e;simp)
  |tup _=>obtain⟨_,_,z,_⟩:=h';cases z
  |lst _=>obtain⟨_,_,z,_⟩:=h';cases z
  |dic _ _=>obtain⟨_,_,_,z,_⟩:=h';cases z
  |dit _ _=>obtain⟨_,_,_,z,_⟩:=h';cases z
  |dbo _ _=>exact h'.elim
  |exn _=>obtain⟨_,_,_,z,_⟩:=h';cases z
  |clo _ _=>obtain⟨_,_,_,z,_⟩:=h';cases z
  |obj _ _=>obtain⟨_,_,_,z,_⟩:=h';cases z
 |.bl k,y,v,b,h,h',e=>by
  cases h
  cases y with
  |non=>cases h' <;> (cases e;simp)
  |bl _=>cases h' <;> (cases e;simp)
  |int _=>cases h' <;> (cases e;simp)
  |str _=>cases h' <;> (cases e;simp)
  |tup _=>obtain⟨_,_,z,_⟩:=h';cases z
  |lst _=>obtain⟨_,_,z,_⟩:=h';cases z
  |dic _ _=>obtain⟨_,_,_,z,_⟩:=h';cases z
  |dit _ _=>obtain⟨_,_,_,z,_⟩:=h';cases z
  |dbo _ _=>exact h'.elim
  |exn _=>obtain⟨_,_,_,z,_⟩:=h';cases z
  |clo _ _=>obtain⟨_,_,_,z,_⟩:=h';cases z
  |obj _ _=>obtain⟨_,_,_,z,_⟩:=h';cases z
 |.int k,y,v,b,h,h',e=>by
  cases h
  cases y with
  |non=>cases h' <;> (cases e;simp)
  |bl _=>cases h' <;> (cases e;simp)
  |int _=>cases h' <;> (cases e;simp)
  |str _=>cases h' <;> (cases e;simp)
  |tup _=>obtain⟨_,_,z,_⟩:=h';cases z
  |lst _=>obtain⟨_,_,z,_⟩:=h';cases z
  |dic _ _=>obtain⟨_,_,_,z,_⟩:=h';cases z
  |dit _ _=>obtain⟨_,_,_,z,_⟩:=h';cases z
  |dbo _ _=>exact h'.elim
  |exn _=>obtain⟨_,_,_,z,_⟩:=h';cases z
  |clo _ _=>obtain⟨_,_,_,z,_⟩:=h';cases z
  |obj _ _=>obtain⟨_,_,_,z,_⟩:=h';cases z
 |.str k,y,v,b,h,h',e=>by
  cases h
  cases y with
  |non=>cases h' <;> (cases e;simp)
  |bl _=>cases h' <;> (cases e;simp)
  |int _=>cases h' <;> (cases e;simp)
  |str _=>cases h' <;> (cases e;simp)
  |tup _=>obtain⟨_,_,z,_⟩:=h';cases z
  |lst _=>obtain⟨_,_,z,_⟩:=h';cases z
  |dic _ _=>obtain⟨_,_,_,z,_⟩:=h';cases z
  |dit _ _=>obtain⟨_,_,_,z,_⟩:=h';cases z
  |dbo _ _=>exact h'.elim
  |exn _=>obtain⟨_,_,_,z,_⟩:=h';cases z
  |clo _ _=>obtain⟨_,_,_,z,_⟩:=h';cases z
  |obj _ _=>obtain⟨_,_,_,z,_⟩:=h';cases z
 |.obj k xs,y,v,b,h,h',e=>by
  cases y <;> cases e
 |.dic k xs,y,v,b,h,h',e=>by
  cases y <;> cases e
 |.dbo k xs,y,v,b,h,h',e=>h.elim
 |.exn k,y,v,b,h,h',e=>by
  cases y <;> cases e
 |.dit k xs,y,v,b,h,h',e=>by
  cases y <;> cases e
 |.clo k xs,y,v,b,h,h',e=>by
  cases y <;> cases e
theorem gi(I:aw X pins σ H s):∀{xs ys:List PV} {vs:List V} {b:Bool},az X.K G H A0 xs vs->az X.K G H A0 ys vs->dg xs ys=some b->b=true
 |[],[],vs,b,h,h',e=>by rw[dg]at e;cases e;rfl
 |[],y::ys,vs,b,h,h',e=>by
  obtain⟨v,r,e2,_⟩:=h'
  have h:vs=[]:=h
  rw[h]at e2;cases e2
 |x::xs,[],vs,b,h,h',e=>by
  obtain⟨v,r,e2,_⟩:=h
  have h':vs=[]:=h'
  rw[h']at e2;cases e2
 |x::xs,y::ys,vs,b,h,h',e=>by
  obtain⟨v,r,rfl,h1,h2⟩:=h
  obtain⟨v',r',e2,h1',h2'⟩:=h'
  cases e2
  obtain⟨a,c,e1,e2,rfl⟩:=fj e
  rw[iF I h1 h1' e1,gi I h2 h2' e2];rfl
end
mutual
theorem AO(I:aw X pins σ H s):∀{x y:PV} {v v':V} {u u':Value} {A:Around} {b:Bool},A.units+x.depth<cLine->cW X.K G H A0 x v->cW X.K G H A0 y v'->aP v u->aP v' u'->jw x y=some b->SeqAt.EqAt A s u u' b
 |.tup xs,y,v,v',u,u',A,b,hu,h,h',r,r',e=>by
  have hu0:A.units<cLine:=Nat.lt_of_le_of_lt (Nat.le_add_right _ _) hu
  have h0:=h
  obtain⟨a,vs,rfl,sq,rs⟩:=h
  obtain rfl:u=Value.ref a:=r
  obtain⟨its,r1,p1,_⟩:=I.tuple (f8.of sq)
  cases y with
  |tup ys =>
   have h0':=h'
   obtain⟨a',vs',rfl,sq',rs'⟩:=h'
   obtain rfl:u'=Value.ref a':=r'
   by_cases ea:a=a'
   ·subst ea
    rw[iF I h0 h0' e]
    exact SeqAt.EqAt.same _
   ·obtain⟨its',r2,p2,_⟩:=I.tuple (f8.of sq')
    have hd:(PV.tup xs).depth=aA xs+1:=by rw[PV.depth]
    rw[iE]at e
    refine SeqAt.EqAt.of_refs ea ?_
    have q:=SeqAt.RcAt.tuples (A:=A) (e:=ls xs ys) p1 p2 (by omega) fun j h1 h2=>by
     have h1':j<its.length:=by simpa using h1
     have h2':j<its'.length:=by simpa using h2
     have:=jV I (A:=A.in1) (j:=j) (by show A.units+1+aA xs<cLine;omega) rs rs' r1 r2 e (List.getElem?_eq_getElem h1') (List.getElem?_eq_getElem h2')
     simpa using this
    have e4:its.toArray.size=xs.length:=by rw[List.size_toArray,<-r1.length,rs.len]
    have e5:its'.toArray.size=ys.length:=by rw[List.size_toArray,<-r2.length,rs'.len]
    rw[e4,e5,cx e]at q
    exact q
  |lst ys =>
   obtain⟨a',vs',rfl,sq',rs'⟩:=h'
   obtain rfl:u'=Value.ref a':=r'
   obtain⟨its',r2,p2,_⟩:=I.list sq'.sq
   cases e
   exact SeqAt.EqAt.tuple_list p1 p2.isList hu0
  |non=>cases h';cases r';cases e;exact SeqAt.EqAt.tuple_none p1 hu0
  |bl k=>cases h';cases r';cases e;exact SeqAt.EqAt.tuple_bool k p1 hu0
  |int k=>cases h';obtain⟨t,rfl⟩:=r';cases e;exact SeqAt.EqAt.tuple_int k t p1 hu0
  |str k=>cases h';obtain⟨t,rfl⟩:=r';cases e;exact SeqAt.EqAt.tuple_str k t p1 hu0
  |_=>cases e
 |.lst xs,y,v,v',u,u',A,b,hu,h,h',r,r',e=>by
  have hu0:A.units<cLine:=Nat.lt_of_le_of_lt (Nat.le_add_right _ _) hu
  have h0:=h
  obtain⟨a,vs,rfl,sq,rs⟩:=h
  obtain rfl:u=Value.ref a:=r
  obtain⟨its,r1,p1,_⟩:=I.list sq.sq
  cases y with
  |lst ys =>
   have h0':=h'
   obtain⟨a',vs',rfl,sq',rs'⟩:=h'
   obtain rfl:u'=Value.ref a':=r'
   by_cases ea:a=a'
   ·subst ea
    rw[iF I h0 h0' e]
    exact SeqAt.EqAt.same _
   ·obtain⟨its',r2,p2,_⟩:=I.list sq'.sq
    have hd:(PV.lst xs).depth=aA xs+1:=by rw[PV.depth]
    have e4:its.toArray.size=xs.length:=by rw[List.size_toArray,<-r1.length,rs.len]
    have e5:its'.toArray.size=ys.length:=by rw[List.size_toArray,<-r2.length,rs'.len]
    refine SeqAt.EqAt.of_refs ea ?_
    rw[gh]at e
    by_cases hl:xs.length=ys.length
    ·rw[if_pos hl]at e
     have q:=SeqAt.RcAt.lists (A:=A) (e:=ls xs ys) p1.isList p2.isList (by rw[e4,e5,hl]) (by omega) fun j h1 h2=>by
      have h1':j<its.length:=by simpa using h1
      have h2':j<its'.length:=by simpa using h2
      have:=jV I (A:=A.in1) (j:=j) (by show A.units+1+aA xs<cLine;omega) rs rs' r1 r2 e (List.getElem?_eq_getElem h1') (List.getElem?_eq_getElem h2')
      simpa using this
     have q2:=cx e
     rw[hl,Nat.min_self,beq_self_eq_true,Bool.and_true]at q2
     rw[e4,hl,q2]at q
     exact q
    ·rw[if_neg hl]at e
     cases e
     exact SeqAt.RcAt.lists_lengths p1.isList p2.isList (by rw[e4,e5];simpa using hl) hu0
  |tup ys =>
   obtain⟨a',vs',rfl,sq',rs'⟩:=h'
   obtain rfl:u'=Value.ref a':=r'
   obtain⟨its',r2,p2,_⟩:=I.tuple (f8.of sq')
   cases e
   exact SeqAt.EqAt.list_tuple p1.isList p2 hu0
  |non=>cases h';cases r';cases e;exact SeqAt.EqAt.list_none p1.isList hu0
  |bl k=>cases h';cases r';cases e;exact SeqAt.EqAt.list_bool k p1.isList hu0
  |int k=>cases h';obtain⟨t,rfl⟩:=r';cases e;exact SeqAt.EqAt.list_int k t p1.isList hu0
  |str k=>cases h';obtain⟨t,rfl⟩:=r';cases e;exact SeqAt.EqAt.list_str k t p1.isList hu0
  |_=>cases e
 |.non,y,v,v',u,u',A,b,hu,h,h',r,r',e=>by
  have hu0:A.units<cLine:=Nat.lt_of_le_of_lt (Nat.le_add_right _ _) hu
  cases h
  cases r
  cases y with
  |non=>cases h';cases r';cases e;exact SeqAt.EqAt.same _
  |bl k=>cases h';cases r';cases e;exact SeqAt.EqAt.none_bool k
  |int k=>cases h';obtain⟨t,rfl⟩:=r';cases e;exact SeqAt.EqAt.none_int k t
  |str k=>cases h';obtain⟨t,rfl⟩:=r';cases e;exact SeqAt.EqAt.none_str k t
  |tup ys =>
   obtain⟨a',vs',rfl,sq',rs'⟩:=h'
   obtain rfl:u'=Value.ref a':=r'
   obtain⟨its',r2,p2,_⟩:=I.tuple (f8.of sq')
   cases e
   exact SeqAt.EqAt.none_tuple p2 hu0
  |lst ys =>
   obtain⟨a',vs',rfl,sq',rs'⟩:=h'
   obtain rfl:u'=Value.ref a':=r'
   obtain⟨its',r2,p2,_⟩:=I.list sq'.sq
   cases e
   exact SeqAt.EqAt.none_list p2.isList hu0
  |_=>cases e
 |.bl k0,y,v,v',u,u',A,b,hu,h,h',r,r',e=>by
  have hu0:A.units<cLine:=Nat.lt_of_le_of_lt (Nat.le_add_right _ _) hu
  cases h
  cases r
  cases y with
  |non=>cases h';cases r';cases e;exact SeqAt.EqAt.bool_none k0
  |bl k=>cases h';cases r';cases e;exact SeqAt.EqAt.bool_bool k0 k
  |int k=>cases h';obtain⟨t,rfl⟩:=r';cases e;exact SeqAt.EqAt.bool_int k0 k t
  |str k=>cases h';obtain⟨t,rfl⟩:=r';cases e;exact SeqAt.EqAt.bool_str k0 k t
  |tup ys =>
   obtain⟨a',vs',rfl,sq',rs'⟩:=h'
   obtain rfl:u'=Value.ref a':=r'
   obtain⟨its',r2,p2,_⟩:=I.tuple (f8.of sq')
   cases e
   exact SeqAt.EqAt.bool_tuple k0 p2 hu0
  |lst ys =>
   obtain⟨a',vs',rfl,sq',rs'⟩:=h'
   obtain rfl:u'=Value.ref a':=r'
   obtain⟨its',r2,p2,_⟩:=I.list sq'.sq
   cases e
   exact SeqAt.EqAt.bool_list k0 p2.isList hu0
  |_=>cases e
 |.int k0,y,v,v',u,u',A,b,hu,h,h',r,r',e=>by
  have hu0:A.units<cLine:=Nat.lt_of_le_of_lt (Nat.le_add_right _ _) hu
  cases h
  obtain⟨t0,rfl⟩:=r
  cases y with
  |non=>cases h';cases r';cases e;exact SeqAt.EqAt.int_none k0 t0
  |bl k=>cases h';cases r';cases e;exact SeqAt.EqAt.int_bool k0 t0 k
  |int k=>cases h';obtain⟨t,rfl⟩:=r';cases e;exact SeqAt.EqAt.int_int k0 t0 k t
  |str k=>cases h';obtain⟨t,rfl⟩:=r';cases e;exact SeqAt.EqAt.int_str k0 t0 k t
  |tup ys =>
   obtain⟨a',vs',rfl,sq',rs'⟩:=h'
   obtain rfl:u'=Value.ref a':=r'
   obtain⟨its',r2,p2,_⟩:=I.tuple (f8.of sq')
   cases e
   exact SeqAt.EqAt.int_tuple k0 t0 p2 hu0
  |lst ys =>
   obtain⟨a',vs',rfl,sq',rs'⟩:=h'
   obtain rfl:u'=Value.ref a':=r'
   obtain⟨its',r2,p2,_⟩:=I.list sq'.sq
   cases e
   exact SeqAt.EqAt.int_list k0 t0 p2.isList hu0
  |_=>cases e
 |.str k0,y,v,v',u,u',A,b,hu,h,h',r,r',e=>by
  have hu0:A.units<cLine:=Nat.lt_of_le_of_lt (Nat.le_add_right _ _) hu
  cases h
  obtain⟨t0,rfl⟩:=r
  cases y with
  |non=>cases h';cases r';cases e;exact SeqAt.EqAt.str_none k0 t0
  |bl k=>cases h';cases r';cases e;exact SeqAt.EqAt.str_bool k0 t0 k
  |int k=>cases h';obtain⟨t,rfl⟩:=r';cases e;exact SeqAt.EqAt.str_int k0 t0 k t
  |str k=>cases h';obtain⟨t,rfl⟩:=r';cases e;exact SeqAt.EqAt.str_str k0 t0 k t
  |tup ys =>
   obtain⟨a',vs',rfl,sq',rs'⟩:=h'
   obtain rfl:u'=Value.ref a':=r'
   obtain⟨its',r2,p2,_⟩:=I.tuple (f8.of sq')
   cases e
   exact SeqAt.EqAt.str_tuple k0 t0 p2 hu0
  |lst ys =>
   obtain⟨a',vs',rfl,sq',rs'⟩:=h'
   obtain rfl:u'=Value.ref a':=r'
   obtain⟨its',r2,p2,_⟩:=I.list sq'.sq
   cases e
   exact SeqAt.EqAt.str_list k0 t0 p2.isList hu0
  |_=>cases e
 |.obj k xs,y,v,v',u,u',A,b,hu,h,h',r,r',e=>by
  cases y <;> cases e
 |.dic k xs,y,v,v',u,u',A,b,hu,h,h',r,r',e=>by
  cases y <;> cases e
 |.dbo k xs,y,v,v',u,u',A,b,hu,h,h',r,r',e=>h.elim
 |.exn k,y,v,v',u,u',A,b,hu,h,h',r,r',e=>by
  cases y <;> cases e
 |.dit k xs,y,v,v',u,u',A,b,hu,h,h',r,r',e=>by
  cases y <;> cases e
 |.clo k xs,y,v,v',u,u',A,b,hu,h,h',r,r',e=>by
  cases y <;> cases e
theorem jV(I:aw X pins σ H s):∀{xs ys:List PV} {vs vs':List V} {us us':List Value} {A:Around} {j:Nat} {u u':Value} {b:Bool},A.units+aA xs<cLine->az X.K G H A0 xs vs->az X.K G H A0 ys vs'->aG vs us->aG vs' us'->dg xs ys=some b ->
  us[j]? =some u->us'[j]? =some u'->SeqAt.EqAt A s u u' (ls xs ys j)
 |[],ys,vs,vs',us,us',A,j,u,u',b,hu,h,h',r,r',e,q,q'=>by
  have h:vs=[]:=h
  subst h;cases r
  simp at q
 |x::xs,[],vs,vs',us,us',A,j,u,u',b,hu,h,h',r,r',e,q,q'=>by
  have h':vs'=[]:=h'
  subst h';cases r'
  simp at q'
 |x::xs,y::ys,vs,vs',us,us',A,j,u,u',b,hu,h,h',r,r',e,q,q'=>by
  obtain⟨v,t,rfl,h1,h2⟩:=h
  obtain⟨v',t',rfl,h1',h2'⟩:=h'
  obtain⟨a,c,e1,e2,rfl⟩:=fj e
  have hd:aA (x::xs)=max x.depth (aA xs):=by rw[aA]
  cases r with
  |cons rx rt =>
   cases r' with
   |cons rx' rt' =>
    cases j with
    |zero =>
     simp at q q'
     subst q;subst q'
     have:ls (x::xs) (y::ys) 0=a:=by show(jw x y).getD false=a;rw[e1];rfl
     rw[this]
     exact AO I (by omega) h1 h1' rx rx' e1
    |succ j=>exact jV I (j:=j) (by omega) h2 h2' rt rt' e2 (by simpa using q) (by simpa using q')
end
theorem AQ(I:aw X pins σ H s):∀{x y:PV} {v v':V} {u u':Value} {A:Around} {b:Bool},A.units+x.depth<cLine->bz X.K G H A0 x v->bz X.K G H A0 y v'->aP v u->aP v' u'->jw x y=some b->SeqAt.RcAt A s u u' b:=by
 intro x y v v' u u' A b hu h h' r r' e
 have hu0:A.units<cLine:=Nat.lt_of_le_of_lt (Nat.le_add_right _ _) hu
 cases x with
 |tup xs =>
  obtain⟨a,vs,rfl,sq,rs⟩:=h.tup
  obtain rfl:u=Value.ref a:=r
  obtain⟨its,r1,p1,_⟩:=I.tuple sq
  cases y with
  |tup ys =>
   obtain⟨a',vs',rfl,sq',rs'⟩:=h'.tup
   obtain rfl:u'=Value.ref a':=r'
   obtain⟨its',r2,p2,_⟩:=I.tuple sq'
   rw[iE]at e
   have hd:(PV.tup xs).depth=aA xs+1:=by rw[PV.depth]
   have e4:its.toArray.size=xs.length:=by rw[List.size_toArray,<-r1.length,rs.len]
   have e5:its'.toArray.size=ys.length:=by rw[List.size_toArray,<-r2.length,rs'.len]
   have q:=SeqAt.RcAt.tuples (A:=A) (s:=s) (e:=ls xs ys) p1 p2 (by omega) fun j h1 h2=>by
     have h1':j<its.length:=by simpa using h1
     have h2':j<its'.length:=by simpa using h2
     have:=jV I (A:=A.in1) (j:=j) (by show A.units+1+aA xs<cLine;omega) rs rs' r1 r2 e (List.getElem?_eq_getElem h1') (List.getElem?_eq_getElem h2')
     simpa using this
   rw[e4,e5,cx e]at q
   exact q
  |lst ys =>
   obtain⟨a',vs',rfl,sq',rs'⟩:=h'.lst
   obtain rfl:u'=Value.ref a':=r'
   obtain⟨its',r2,p2,_⟩:=I.list sq'
   cases e
   exact SeqAt.RcAt.tuple_list p1 p2.isList hu0
  |non=>rw[h'.non]at r';cases r';cases e;exact SeqAt.RcAt.tuple_none p1 hu0
  |bl k=>rw[h'.bl]at r';cases r';cases e;exact SeqAt.RcAt.tuple_bool k p1 hu0
  |int k=>rw[h'.int]at r';obtain⟨t,rfl⟩:=r';cases e;exact SeqAt.RcAt.tuple_int k t p1 hu0
  |str k=>rw[h'.str]at r';obtain⟨t,rfl⟩:=r';cases e;exact SeqAt.RcAt.tuple_str k t p1 hu0
  |_=>cases e
 |lst xs =>
  obtain⟨a,vs,rfl,sq,rs⟩:=h.lst
  obtain rfl:u=Value.ref a:=r
  obtain⟨its,r1,p1,_⟩:=I.list sq
  cases y with
  |tup ys =>
   obtain⟨a',vs',rfl,sq',rs'⟩:=h'.tup
   obtain rfl:u'=Value.ref a':=r'
   obtain⟨its',r2,p2,_⟩:=I.tuple sq'
   cases e
   exact SeqAt.RcAt.list_tuple p1.isList p2 hu0
  |lst ys =>
   obtain⟨a',vs',rfl,sq',rs'⟩:=h'.lst
   obtain rfl:u'=Value.ref a':=r'
   obtain⟨its',r2,p2,_⟩:=I.list sq'
   rw[gh]at e
   have hd:(PV.lst xs).depth=aA xs+1:=by rw[PV.depth]
   have e4:its.toArray.size=xs.length:=by rw[List.size_toArray,<-r1.length,rs.len]
   have e5:its'.toArray.size=ys.length:=by rw[List.size_toArray,<-r2.length,rs'.len]
   by_cases hl:xs.length=ys.length
   ·rw[if_pos hl]at e
    have q:=SeqAt.RcAt.lists (A:=A) (s:=s) (e:=ls xs ys) p1.isList p2.isList (by rw[e4,e5,hl]) (by omega) fun j h1 h2=>by
      have h1':j<its.length:=by simpa using h1
      have h2':j<its'.length:=by simpa using h2
      have:=jV I (A:=A.in1) (j:=j) (by show A.units+1+aA xs<cLine;omega) rs rs' r1 r2 e (List.getElem?_eq_getElem h1') (List.getElem?_eq_getElem h2')
      simpa using this
    have q2:=cx e
    rw[hl,Nat.min_self,beq_self_eq_true,Bool.and_true]at q2
    rw[e4,hl,q2]at q
    exact q
   ·rw[if_neg hl]at e
    cases e
    exact SeqAt.RcAt.lists_lengths p1.isList p2.isList (by rw[e4,e5];simpa using hl) hu0
  |non=>rw[h'.non]at r';cases r';cases e;exact SeqAt.RcAt.list_none p1.isList hu0
  |bl k=>rw[h'.bl]at r';cases r';cases e;exact SeqAt.RcAt.list_bool k p1.isList hu0
  |int k=>rw[h'.int]at r';obtain⟨t,rfl⟩:=r';cases e;exact SeqAt.RcAt.list_int k t p1.isList hu0
  |str k=>rw[h'.str]at r';obtain⟨t,rfl⟩:=r';cases e;exact SeqAt.RcAt.list_str k t p1.isList hu0
  |_=>cases e
 |non =>
  rw[h.non]at r
  cases r
  cases y with
  |non=>rw[h'.non]at r';cases r';cases e;exact SeqAt.RcAt.none_none
  |bl k=>rw[h'.bl]at r';cases r';cases e;exact SeqAt.RcAt.none_bool k
  |int k=>rw[h'.int]at r';obtain⟨t,rfl⟩:=r';cases e;exact SeqAt.RcAt.none_int k t
  |str k=>rw[h'.str]at r';obtain⟨t,rfl⟩:=r';cases e;exact SeqAt.RcAt.none_str k t
  |tup ys =>
   obtain⟨a',vs',rfl,sq',rs'⟩:=h'.tup
   obtain rfl:u'=Value.ref a':=r'
   obtain⟨its',r2,p2,_⟩:=I.tuple sq'
   cases e
   exact SeqAt.RcAt.none_tuple p2 hu0
  |lst ys =>
   obtain⟨a',vs',rfl,sq',rs'⟩:=h'.lst
   obtain rfl:u'=Value.ref a':=r'
   obtain⟨its',r2,p2,_⟩:=I.list sq'
   cases e
   exact SeqAt.RcAt.none_list p2.isList hu0
  |_=>cases e
 |bl k0 =>
  rw[h.bl]at r
  cases r
  cases y with
  |non=>rw[h'.non]at r';cases r';cases e;exact SeqAt.RcAt.bool_none k0
  |bl k=>rw[h'.bl]at r';cases r';cases e;exact SeqAt.RcAt.bool_bool k0 k
  |int k=>rw[h'.int]at r';obtain⟨t,rfl⟩:=r';cases e;exact SeqAt.RcAt.bool_int k0 k t
  |str k=>rw[h'.str]at r';obtain⟨t,rfl⟩:=r';cases e;exact SeqAt.RcAt.bool_str k0 k t
  |tup ys =>
   obtain⟨a',vs',rfl,sq',rs'⟩:=h'.tup
   obtain rfl:u'=Value.ref a':=r'
   obtain⟨its',r2,p2,_⟩:=I.tuple sq'
   cases e
   exact SeqAt.RcAt.bool_tuple k0 p2 hu0
  |lst ys =>
   obtain⟨a',vs',rfl,sq',rs'⟩:=h'.lst
   obtain rfl:u'=Value.ref a':=r'
   obtain⟨its',r2,p2,_⟩:=I.list sq'
   cases e
   exact SeqAt.RcAt.bool_list k0 p2.isList hu0
  |_=>cases e
 |int k0 =>
  rw[h.int]at r
  obtain⟨t0,rfl⟩:=r
  cases y with
  |non=>rw[h'.non]at r';cases r';cases e;exact SeqAt.RcAt.int_none k0 t0
  |bl k=>rw[h'.bl]at r';cases r';cases e;exact SeqAt.RcAt.int_bool k0 t0 k
  |int k=>rw[h'.int]at r';obtain⟨t,rfl⟩:=r';cases e;exact SeqAt.RcAt.int_int k0 t0 k t
  |str k=>rw[h'.str]at r';obtain⟨t,rfl⟩:=r';cases e;exact SeqAt.RcAt.int_str k0 t0 k t
  |tup ys =>
   obtain⟨a',vs',rfl,sq',rs'⟩:=h'.tup
   obtain rfl:u'=Value.ref a':=r'
   obtain⟨its',r2,p2,_⟩:=I.tuple sq'
   cases e
   exact SeqAt.RcAt.int_tuple k0 t0 p2 hu0
  |lst ys =>
   obtain⟨a',vs',rfl,sq',rs'⟩:=h'.lst
   obtain rfl:u'=Value.ref a':=r'
   obtain⟨its',r2,p2,_⟩:=I.list sq'
   cases e
   exact SeqAt.RcAt.int_list k0 t0 p2.isList hu0
  |_=>cases e
 |str k0 =>
  rw[h.str]at r
  obtain⟨t0,rfl⟩:=r
  cases y with
  |non=>rw[h'.non]at r';cases r';cases e;exact SeqAt.RcAt.str_none k0 t0
  |bl k=>rw[h'.bl]at r';cases r';cases e;exact SeqAt.RcAt.str_bool k0 t0 k
  |int k=>rw[h'.int]at r';obtain⟨t,rfl⟩:=r';cases e;exact SeqAt.RcAt.str_int k0 t0 k t
  |str k=>rw[h'.str]at r';obtain⟨t,rfl⟩:=r';cases e;exact SeqAt.RcAt.str_str k0 t0 k t
  |tup ys =>
   obtain⟨a',vs',rfl,sq',rs'⟩:=h'.tup
   obtain rfl:u'=Value.ref a':=r'
   obtain⟨its',r2,p2,_⟩:=I.tuple sq'
   cases e
   exact SeqAt.RcAt.str_tuple k0 t0 p2 hu0
  |lst ys =>
   obtain⟨a',vs',rfl,sq',rs'⟩:=h'.lst
   obtain rfl:u'=Value.ref a':=r'
   obtain⟨its',r2,p2,_⟩:=I.list sq'
   cases e
   exact SeqAt.RcAt.str_list k0 t0 p2.isList hu0
  |_=>cases e
 |obj _ _=>cases y <;> cases e
 |dic _ _=>cases y <;> cases e
 |dit _ _=>cases y <;> cases e
 |dbo _ _=>cases y <;> cases e
 |exn _=>cases y <;> cases e
 |clo _ _=>cases y <;> cases e
theorem AR(I:aw X pins σ H s):∀{x y:PV} {v v':V} {u u':Value} {A:Around} {b:Bool},A.units+x.depth<cLine->bz X.K G H A0 x v->bz X.K G H A0 y v'->aP v u->aP v' u'->jw x y=some b->SeqAt.RcNeAt A s u u' (!b):=by
 intro x y v v' u u' A b hu h h' r r' e
 have hu0:A.units<cLine:=Nat.lt_of_le_of_lt (Nat.le_add_right _ _) hu
 cases x with
 |tup xs =>
  obtain⟨a,vs,rfl,sq,rs⟩:=h.tup
  obtain rfl:u=Value.ref a:=r
  obtain⟨its,r1,p1,_⟩:=I.tuple sq
  cases y with
  |tup ys =>
   obtain⟨a',vs',rfl,sq',rs'⟩:=h'.tup
   obtain rfl:u'=Value.ref a':=r'
   obtain⟨its',r2,p2,_⟩:=I.tuple sq'
   rw[iE]at e
   have hd:(PV.tup xs).depth=aA xs+1:=by rw[PV.depth]
   have e4:its.toArray.size=xs.length:=by rw[List.size_toArray,<-r1.length,rs.len]
   have e5:its'.toArray.size=ys.length:=by rw[List.size_toArray,<-r2.length,rs'.len]
   have q:=SeqAt.RcNeAt.tuples (A:=A) (s:=s) (e:=ls xs ys) p1 p2 (by omega) fun j h1 h2=>by
     have h1':j<its.length:=by simpa using h1
     have h2':j<its'.length:=by simpa using h2
     have:=jV I (A:=A.in1) (j:=j) (by show A.units+1+aA xs<cLine;omega) rs rs' r1 r2 e (List.getElem?_eq_getElem h1') (List.getElem?_eq_getElem h2')
     simpa using this
   rw[e4,e5,cx e]at q
   exact q
  |lst ys =>
   obtain⟨a',vs',rfl,sq',rs'⟩:=h'.lst
   obtain rfl:u'=Value.ref a':=r'
   obtain⟨its',r2,p2,_⟩:=I.list sq'
   cases e
   exact SeqAt.RcNeAt.tuple_list p1 p2.isList hu0
  |non=>rw[h'.non]at r';cases r';cases e;exact SeqAt.RcNeAt.tuple_none p1 hu0
  |bl k=>rw[h'.bl]at r';cases r';cases e;exact SeqAt.RcNeAt.tuple_bool k p1 hu0
  |int k=>rw[h'.int]at r';obtain⟨t,rfl⟩:=r';cases e;exact SeqAt.RcNeAt.tuple_int k t p1 hu0
  |str k=>rw[h'.str]at r';obtain⟨t,rfl⟩:=r';cases e;exact SeqAt.RcNeAt.tuple_str k t p1 hu0
  |_=>cases e
 |lst xs =>
  obtain⟨a,vs,rfl,sq,rs⟩:=h.lst
  obtain rfl:u=Value.ref a:=r
  obtain⟨its,r1,p1,_⟩:=I.list sq
  cases y with
  |tup ys =>
   obtain⟨a',vs',rfl,sq',rs'⟩:=h'.tup
   obtain rfl:u'=Value.ref a':=r'
   obtain⟨its',r2,p2,_⟩:=I.tuple sq'
   cases e
   exact SeqAt.RcNeAt.list_tuple p1.isList p2 hu0
  |lst ys =>
   obtain⟨a',vs',rfl,sq',rs'⟩:=h'.lst
   obtain rfl:u'=Value.ref a':=r'
   obtain⟨its',r2,p2,_⟩:=I.list sq'
   rw[gh]at e
   have hd:(PV.lst xs).depth=aA xs+1:=by rw[PV.depth]
   have e4:its.toArray.size=xs.length:=by rw[List.size_toArray,<-r1.length,rs.len]
   have e5:its'.toArray.size=ys.length:=by rw[List.size_toArray,<-r2.length,rs'.len]
   by_cases hl:xs.length=ys.length
   ·rw[if_pos hl]at e
    have q:=SeqAt.RcNeAt.lists (A:=A) (s:=s) (e:=ls xs ys) p1.isList p2.isList (by rw[e4,e5,hl]) (by omega) fun j h1 h2=>by
      have h1':j<its.length:=by simpa using h1
      have h2':j<its'.length:=by simpa using h2
      have:=jV I (A:=A.in1) (j:=j) (by show A.units+1+aA xs<cLine;omega) rs rs' r1 r2 e (List.getElem?_eq_getElem h1') (List.getElem?_eq_getElem h2')
      simpa using this
    have q2:=cx e
    rw[hl,Nat.min_self,beq_self_eq_true,Bool.and_true]at q2
    rw[e4,hl,q2]at q
    exact q
   ·rw[if_neg hl]at e
    cases e
    exact SeqAt.RcNeAt.lists_lengths p1.isList p2.isList (by rw[e4,e5];simpa using hl) hu0
  |non=>rw[h'.non]at r';cases r';cases e;exact SeqAt.RcNeAt.list_none p1.isList hu0
  |bl k=>rw[h'.bl]at r';cases r';cases e;exact SeqAt.RcNeAt.list_bool k p1.isList hu0
  |int k=>rw[h'.int]at r';obtain⟨t,rfl⟩:=r';cases e;exact SeqAt.RcNeAt.list_int k t p1.isList hu0
  |str k=>rw[h'.str]at r';obtain⟨t,rfl⟩:=r';cases e;exact SeqAt.RcNeAt.list_str k t p1.isList hu0
  |_=>cases e
 |non =>
  rw[h.non]at r
  cases r
  cases y with
  |non=>rw[h'.non]at r';cases r';cases e;exact SeqAt.RcNeAt.none_none
  |bl k=>rw[h'.bl]at r';cases r';cases e;exact SeqAt.RcNeAt.none_bool k
  |int k=>rw[h'.int]at r';obtain⟨t,rfl⟩:=r';cases e;exact SeqAt.RcNeAt.none_int k t
  |str k=>rw[h'.str]at r';obtain⟨t,rfl⟩:=r';cases e;exact SeqAt.RcNeAt.none_str k t
  |tup ys =>
   obtain⟨a',vs',rfl,sq',rs'⟩:=h'.tup
   obtain rfl:u'=Value.ref a':=r'
   obtain⟨its',r2,p2,_⟩:=I.tuple sq'
   cases e
   exact SeqAt.RcNeAt.none_tuple p2 hu0
  |lst ys =>
   obtain⟨a',vs',rfl,sq',rs'⟩:=h'.lst
   obtain rfl:u'=Value.ref a':=r'
   obtain⟨its',r2,p2,_⟩:=I.list sq'
   cases e
   exact SeqAt.RcNeAt.none_list p2.isList hu0
  |_=>cases e
 |bl k0 =>
  rw[h.bl]at r
  cases r
  cases y with
  |non=>rw[h'.non]at r';cases r';cases e;exact SeqAt.RcNeAt.bool_none k0
  |bl k=>rw[h'.bl]at r';cases r';cases e;exact SeqAt.RcNeAt.bool_bool k0 k
  |int k=>rw[h'.int]at r';obtain⟨t,rfl⟩:=r';cases e;exact SeqAt.RcNeAt.bool_int k0 k t
  |str k=>rw[h'.str]at r';obtain⟨t,rfl⟩:=r';cases e;exact SeqAt.RcNeAt.bool_str k0 k t
  |tup ys =>
   obtain⟨a',vs',rfl,sq',rs'⟩:=h'.tup
   obtain rfl:u'=Value.ref a':=r'
   obtain⟨its',r2,p2,_⟩:=I.tuple sq'
   cases e
   exact SeqAt.RcNeAt.bool_tuple k0 p2 hu0
  |lst ys =>
   obtain⟨a',vs',rfl,sq',rs'⟩:=h'.lst
   obtain rfl:u'=Value.ref a':=r'
   obtain⟨its',r2,p2,_⟩:=I.list sq'
   cases e
   exact SeqAt.RcNeAt.bool_list k0 p2.isList hu0
  |_=>cases e
 |int k0 =>
  rw[h.int]at r
  obtain⟨t0,rfl⟩:=r
  cases y with
  |non=>rw[h'.non]at r';cases r';cases e;exact SeqAt.RcNeAt.int_none k0 t0
  |bl k=>rw[h'.bl]at r';cases r';cases e;exact SeqAt.RcNeAt.int_bool k0 t0 k
  |int k=>rw[h'.int]at r';obtain⟨t,rfl⟩:=r';cases e;exact SeqAt.RcNeAt.int_int k0 t0 k t
  |str k=>rw[h'.str]at r';obtain⟨t,rfl⟩:=r';cases e;exact SeqAt.RcNeAt.int_str k0 t0 k t
  |tup ys =>
   obtain⟨a',vs',rfl,sq',rs'⟩:=h'.tup
   obtain rfl:u'=Value.ref a':=r'
   obtain⟨its',r2,p2,_⟩:=I.tuple sq'
   cases e
   exact SeqAt.RcNeAt.int_tuple k0 t0 p2 hu0
  |lst ys =>
   obtain⟨a',vs',rfl,sq',rs'⟩:=h'.lst
   obtain rfl:u'=Value.ref a':=r'
   obtain⟨its',r2,p2,_⟩:=I.list sq'
   cases e
   exact SeqAt.RcNeAt.int_list k0 t0 p2.isList hu0
  |_=>cases e
 |str k0 =>
  rw[h.str]at r
  obtain⟨t0,rfl⟩:=r
  cases y with
  |non=>rw[h'.non]at r';cases r';cases e;exact SeqAt.RcNeAt.str_none k0 t0
  |bl k=>rw[h'.bl]at r';cases r';cases e;exact SeqAt.RcNeAt.str_bool k0 t0 k
  |int k=>rw[h'.int]at r';obtain⟨t,rfl⟩:=r';cases e;exact SeqAt.RcNeAt.str_int k0 t0 k t
  |str k=>rw[h'.str]at r';obtain⟨t,rfl⟩:=r';cases e;exact SeqAt.RcNeAt.str_str k0 t0 k t
  |tup ys =>
   obtain⟨a',vs',rfl,sq',rs'⟩:=h'.tup
   obtain rfl:u'=Value.ref a':=r'
   obtain⟨its',r2,p2,_⟩:=I.tuple sq'
   cases e
   exact SeqAt.RcNeAt.str_tuple k0 t0 p2 hu0
  |lst ys =>
   obtain⟨a',vs',rfl,sq',rs'⟩:=h'.lst
   obtain rfl:u'=Value.ref a':=r'
   obtain⟨its',r2,p2,_⟩:=I.list sq'
   cases e
   exact SeqAt.RcNeAt.str_list k0 t0 p2.isList hu0
  |_=>cases e
 |obj _ _=>cases y <;> cases e
 |dic _ _=>cases y <;> cases e
 |dit _ _=>cases y <;> cases e
 |dbo _ _=>cases y <;> cases e
 |exn _=>cases y <;> cases e
 |clo _ _=>cases y <;> cases e
noncomputable def fEq(x y:PV):Rx PV:=if x.depth<100 then(match jw x y with|some b=> .ok (.bl b)|none=> .bad) else .bad
noncomputable def iG(x y:PV):Rx PV:=if x.depth<100 then(match jw x y with|some b=> .ok (.bl (!b))|none=> .bad) else .bad
def pB(K:Fg)(G:Pg)(neg:Bool):R2:=fun v u H Q=>∃A x y b,x.depth<100/\bz K G H A x v/\bz K G H A y u/\jw x y=some b/\Q (.bl (if neg then !b else b)) H
theorem mE(hu:X.A.units+100<cLine):fZ X (compareOp .Eq) (pB X.K G false):=by
 intro pins s σ H v u v' u' Q I rx ry h
 obtain⟨A,x,y,b,hd,h1,h2,e,q⟩:=h
 exact AQ I (by omega) h1 h2 rx ry e X.prog X.w _ _ ⟨.bl b,H,I,rfl,q⟩
theorem rG(hu:X.A.units+100<cLine):fZ X (compareOp .NotEq) (pB X.K G true):=by
 intro pins s σ H v u v' u' Q I rx ry h
 obtain⟨A,x,y,b,hd,h1,h2,e,q⟩:=h
 exact AR I (by omega) h1 h2 rx ry e X.prog X.w _ _ ⟨.bl (!b),H,I,rfl,q⟩
theorem qe{K:Fg}:on K G fEq (pB K G false):=by
 intro H A x y w v u Q hu e r1 r2 q
 unfold fEq at e
 split at e
 ·rename_i hd
  split at e
  ·rename_i b hb;cases e;exact⟨A,x,y,b,hd,r1,r2,hb,q _ H (Same.refl H) rfl⟩
  ·cases e
 ·cases e
theorem uE{K:Fg}:on K G iG (pB K G true):=by
 intro H A x y w v u Q hu e r1 r2 q
 unfold iG at e
 split at e
 ·rename_i hd
  split at e
  ·rename_i b hb;cases e;exact⟨A,x,y,b,hd,r1,r2,hb,q _ H (Same.refl H) rfl⟩
  ·cases e
 ·cases e
section
variable{e a b:Expr}{da db:DP}{pos:Pos}
theorem mF{A:Around}{k:Nat}(hr:bf k A):A.units+100<cLine:=by have:=hr.un;omega
theorem jW{k:Nat}(hr:bf k X.A)(ha:JB X G a da)(hb:JB X G b db):JP X G (.Compare a [.Eq] [b] pos) (d2 fEq da db):=up (mE (mF hr)) qe ha hb (g3 _)
theorem t_eq{k:Nat}(hr:bf k X.A)(ha:JB X G a da)(hb:JB X G b db):JT X G (.Compare a [.Eq] [b] pos) (dTr (d2 fEq da db)):=kx (mE (mF hr)) qe ha hb (g3 _)
theorem pC{k:Nat}(hr:bf k X.A)(ha:JB X G a da)(hb:JB X G b db):JT X G (.Compare a [.NotEq] [b] pos) (dTr (d2 iG da db)):=kx (rG (mF hr)) uE ha hb (g3 _)
noncomputable def pD:PV->V
 |.non=> .non | .bl b=> .bl b | .int i=> .int i | .str x=> .str x|_=> .ref 0
theorem je{K:Fg}{H:Hp}{A:Av}{x:PV}{v:V}(r:bz K G H A x v)(f:sV x=true):v=pD x/\dW v=true:=by
 cases x <;> first|(rw[r.non];exact⟨rfl,rfl⟩)|(rw[r.bl];exact⟨rfl,rfl⟩)|(rw[r.int];exact⟨rfl,rfl⟩)|(rw[r.str];exact⟨rfl,rfl⟩)|cases f
theorem hZ{K:Fg}{H:Hp}{A:Av}:∀{xs:List PV} {vs:List V},az K G H A xs vs->xs.all sV=true->vs=xs.map pD/\vs.all dW=true
 |[],vs,h,_=>by have h:vs=[]:=h;subst h;exact⟨rfl,rfl⟩
 |x::xs,vs,h,f=>by
  obtain⟨v,r,rfl,h1,h2⟩:=h
  rw[List.all_cons,Bool.and_eq_true]at f
  obtain⟨e1,f1⟩:=je (.inl h1) f.1
  obtain⟨e2,f2⟩:=hZ h2 f.2
  exact⟨by rw[e1,e2];rfl,by rw[List.all_cons,f1,f2];rfl⟩
end
end
section
variable{P:Program}{w:World}{K:Fg}{mg:Str->Option Value}{base:Bs}{G:Pg}{n:Nat}{m f:Str}{ms:List Bool}
theorem bD{α :Type}{c c':Nat}{x y: α}{l:List (Nat×α)}(h:List.lookup c' ((c,x)::l)=some y):(c'=c/\y=x)\/l.lookup c'=some y:=by
 rw[List.lookup_cons]at h
 by_cases e:c'=c
 ·subst e
  simp at h
  exact .inl ⟨rfl,h.symm⟩
 ·have:(c' == c)=false:=by simpa using e
  rw[this]at h
  exact .inr h
theorem fm{g:Nat->List PV->Rx PV}:iB P w K mg base G n m ms [] g:=⟨fun c f h=>by simp at h⟩
theorem aJ{g:Nat->List PV->Rx PV}{c fi:Nat}{l:List (Nat×Nat)}(h:iu P w K mg base fS n (G.cA c) m (mv K G (false::ms) (g fi)))(hm:m∉G.fN c)(r:iB P w K mg base G n m ms l g):iB P w K mg base G n m ms ((c,fi)::l) g :=
 ⟨fun c' f' e=>by
  rcases bD e with⟨rfl,rfl⟩|e
  ·exact⟨h,hm⟩
  ·exact r.all c' f' e⟩
theorem cb:bV K G f []:=⟨fun c j h=>by simp at h⟩
theorem pE{c j:Nat}{l:List (Nat×Nat)}(h1:iQ K (G.cA c))(h2:bu K (G.cA c) f)(h3:(G.fN c).Nodup)(h4:(G.fN c)[j]? =some f)(r:bV K G f l):bV K G f ((c,j)::l) :=
 ⟨fun c' f' e=>by
  rcases bD e with⟨rfl,rfl⟩|e
  ·exact⟨h1,h2,h3,h4⟩
  ·exact r.all c' f' e⟩
theorem rH{cv:Value}:bU K G cv []:=⟨fun c j h=>by simp at h,fun c j h=>by simp at h,fun b h=>by simp at h⟩
theorem pF{cv:Value}{q:Nat}{b:Bool}{l:List (Nat×Bool)}(h1:PySem.W.kitOne K (jT G q) cv=some b)(h2:q<9)(r:bU K G cv l):bU K G cv ((q,b)::l) :=
 ⟨fun c' f' e=>by
  rcases bD e with⟨rfl,rfl⟩|e
  ·exact h1
  ·exact r.kit c' f' e,fun c' f' e=>by
  rcases bD e with⟨z,rfl⟩|e
  ·omega
  ·exact r.cls c' f' e,fun b e=>by
  rcases bD e with⟨z,rfl⟩|e
  ·omega
  ·exact r.n9 b e⟩
theorem mG{cv:Value}{c:Nat}{b:Bool}{l:List (Nat×Bool)}(h1:PySem.W.kitOne K (.ref (G.cA c)) cv=some b)(h2:jb K (G.cA c))(r:bU K G cv l):bU K G cv ((c+10,b)::l) :=
 ⟨fun c' f' e=>by
  rcases bD e with⟨rfl,rfl⟩|e
  ·exact h1
  ·exact r.kit c' f' e,fun c' f' e=>by
  rcases bD e with⟨z,rfl⟩|e
  ·have:c'=c:=by omega
   subst this;exact h2
  ·exact r.cls c' f' e,fun b e=>by
  rcases bD e with⟨z,rfl⟩|e
  ·omega
  ·exact r.n9 b e⟩
theorem cJ{C:Addr}(h:bx K C):jb K C:=fun H a dx fs e=>h.ty e
theorem aW{a:Addr}:∀u,aP (V.ref a) u->u=Value.ref a:=fun _ h=>h
theorem fV{n:String}:∀u,aP (V.ty n) u->u=Value.type n:=fun _ h=>h
theorem am{f:Addr}{fd:FuncData}{ps:List Str}{g:List PV->Rx PV}(h:∀ws,g ws= .bad):bM P w K mg base fS n f fd ps (mv K G ms g):=kt fun vs H Q E ⟨A,ws,w,u,r,e,q⟩=>by rw[h]at e;cases e
end
theorem gk_set{i:Nat}:∀(w:PV) (ps ps':aH),gSet i w ps= .ok ps'->∀(j:Nat) (x:Ow),ps'[j]? =some (Sl.own x)->ps[j]? =some (Sl.own x):=by
 intro w ps ps' e j x h
 cases e
 by_cases hj:j=i
 ·subst hj
  have hl:j<ps.length:=by
   have:=(List.getElem?_eq_some_iff.mp h).1
   simpa using this
  rw[List.getElem?_set_self hl]at h
  cases h
 ·rw[List.getElem?_set_ne (fun z=>hj z.symm)]at h
  exact h
theorem xS{K:Fg}{G:Pg}{H:Hp}{a:Addr}{ns:List Int}{g:List PV->Rx PV}(hO:m8 H)(hS:dI K H a (ns.map V.int))(hg:g [.lst (ns.map PV.int)]= .ok (.bl true)):mv K G [false] g [.ref a] H (fun v _=>v= .bl true) fun _ _ _=>False:=by
 refine⟨fun _=>False,[.lst (ns.map PV.int)],.bl true,fun a z=>z.elim,⟨_,_,_,_,rfl,rfl,?_,rfl,rfl⟩,hg,fun v H' s r=>r⟩
 rw[if_neg Bool.false_ne_true]
 refine⟨a,_,rfl,?_,az.ints ns⟩
 rcases hS with(h|⟨o,h⟩)|h
 ·exact .inl ⟨h,fun z=>z⟩
 ·exact .inr (.inl ⟨o,h,fun v hv=>by obtain⟨i,_,e⟩:=List.mem_map.mp hv;exact⟨i,e.symm⟩⟩)
 ·exact .inr (.inr ⟨h,fun v hv=>by obtain⟨i,_,e⟩:=List.mem_map.mp hv;exact⟨i,e.symm⟩⟩)
section
variable{X:Cx}{G:Pg}{e a b o tg:Expr}{es:List Expr}{da db:DP}{d:DA}{pos p apos cpos:Pos}{x m:Str}{k i:Nat}
noncomputable def wt:List PV->PV->Nat->Option Nat
 |[],_,_=>none
 |y::ys,x,n=>if lZ (pD y) (pD x)=true then some n else wt ys x (n+1)
theorem mH:∀{ys:List PV} {x:PV} {n j:Nat},wt ys x n=some j->n<=j/\(∃y,ys[j-n]? =some y/\lZ (pD y) (pD x)=true)/\ ∀i y,i<j-n->ys[i]? =some y->lZ (pD y) (pD x)=false
 |[],x,n,j,h=>by cases h
 |y::ys,x,n,j,h=>by
  unfold wt at h
  split at h
  ·rename_i he
   cases h
   refine⟨Nat.le_refl _,⟨y,by simp,he⟩,fun i z hi=>absurd hi (by omega)⟩
  ·rename_i he
   obtain⟨h1,⟨z,h2,h3⟩,h4⟩:=mH h
   have hj:j-n=(j-(n+1))+1:=by omega
   refine⟨by omega,⟨z,by rw[hj];simpa using h2,h3⟩,fun i w hi e=> ?_⟩
   cases i with
   |zero=>simp at e;subst e;simpa using he
   |succ i=>exact h4 i w (by omega) (by simpa using e)
noncomputable def mI(ws:List PV)(d:DP):DP:=fun ps=>(d ps).bind fun x=>if sV x=true then(match wt ws x 0 with|some j=> .ok (.int j)|none=> .bad) else .bad
theorem pG{x:Str}{t:Addr}{ws:List PV}{vs:List V}{pos':Pos}(T:jO X.K t vs)(hg:Gl X x)(hm:X.mg x=some (.ref t))(hr:∀H A,az X.K G H A ws vs)(hf:ws.all sV=true)(he:JP X G e da)(hd:.(O)=false:=by decide)
  (hbase:attributeBase (.Name x pos') "index" X.env (eval (.Name x pos') X.env)=eval (.Name x pos') X.env:=by rfl)
  (hfew:((backTo cpos (starEach [e] X.env)).all (fun x=> !x.1) && (backToKw cpos (keywordEach [] X.env)).all (fun x=>x.1.isSome) && decide (([e]:List Expr).length+([]:List Keyword).length+(if ([]:List Keyword).isEmpty then 0 else 1)<30))=true:=by rfl)
  (hline:(apos.endLine == cpos.line)=true:=by rfl) (hst:starEach [e] X.env=.(Af)::starEach [] X.env:=by rfl) (hpl:(backTo cpos (starEach ([]:List Expr) X.env)).any (·.1)=false:=by rfl) :
  JP X G (.Call (.Attribute (.Name x pos') "index" apos) [e] [] cpos) (mI ws da) :=
 imp (uf PySem.F.plainAttrs_tuple PySem.F.slot_tuple_index PySem.F.type_tuple_index lm (aV hg hm hd) (eL he jG hst) hbase hfew hline hst hpl) fun σ H Q ⟨c,ow,ps,w,R,e,q⟩=>by
  obtain⟨y,e1,e2⟩:=ak e
  split at e2
  ·rename_i hy
   split at e2
   ·rename_i j hj
    cases e2
    refine⟨T.ty H,c,ow,ps,y,R,e1,fun v H' s r=> ?_⟩
    obtain⟨ev,fv⟩:=je (G:=G) (.inl r) hy
    obtain⟨evs,fvs⟩:=hZ (hr H' (av c ow)) hf
    obtain⟨_,⟨z,h2,h3⟩,h4⟩:=mH hj
    rw[Nat.sub_zero]at h2 h4
    refine⟨t,vs,v,j,pD z,rfl,rfl,T.sq H',fv,fvs,by rw[evs,List.getElem?_map,h2];rfl,by rw[ev];exact h3,fun i u hi hu=> ?_,q _ H' s rfl⟩
    rw[evs,List.getElem?_map]at hu
    cases q:ws[i]? with
    |none=>rw[q]at hu;cases hu
    |some y'=>rw[q]at hu;cases hu;rw[ev];exact h4 i y' hi q
   ·cases e2
  ·cases e2
end
def AS(K:Fg)(fN:Nat->List Str)(nF:Nat->om)(g:List PV->Rx PV):Sp:=fun vs H Q E=>∀cA,mv K ⟨cA,fN,nF⟩ [false] g vs H Q E
theorem xT{P:Program}{w:World}{K:Fg}{mg:Str->Option Value}{k:Nat}{fa:Addr}{x:Str}{fN:Nat->List Str}{nF:Nat->om}{g:List PV->Rx PV}{ts:List Addr}
  (h:∃(cA:Nat->Addr) (fd:FuncData),(∀(s:Shared) (v:Value),BindsTo s fd ⟨[v],[]⟩ [(x,v)])/\ ∀base:Bs,K.In base->base.Ns mainGlobals mg->base.tabs=ts->bM P w K mg base fS k fa fd [x] (mv K ⟨cA,fN,nF⟩ [false] g)) :
  ∃fd:FuncData,(∀(s:Shared) (v:Value),BindsTo s fd ⟨[v],[]⟩ [(x,v)])/\ ∀base:Bs,K.In base->base.Ns mainGlobals mg->base.tabs=ts->bM P w K mg base fS k fa fd [x] (AS K fN nF g):=by
 obtain⟨cA,fd,h1,h2⟩:=h
 exact⟨fd,h1,fun base k1 k2 k3=>(h2 base k1 k2 k3).imp fun vs H Q E q=>q cA⟩
end DN
end
section
namespace DN
open PySem L2
noncomputable def fin:Rs->Rx PV
 |.ret w=> .ok w
 |.retn xs=> .ok (.lst xs)
 |.nx _=> .ok .non
 |.exc c=> .exc c
 |_=> .bad
theorem pH(ms:List Bool)(n:Nat)(d:DS)(ws:List PV):aI ms n d ws=if ws.length=ms.length then fin (d (jv ms n ws)) else .bad:=by
 unfold aI fin
 split
 ·cases d (jv ms n ws) <;> rfl
 ·rfl
theorem au{ms:List Bool}{n:Nat}{d:DS}{ws:List PV}(h:ws.length=ms.length):aI ms n d ws=fin (d (jv ms n ws)):=by rw[pH,if_pos h]
@[simp]theorem fW(w:PV):fin (.ret w)= .ok w:=rfl
@[simp]theorem uF(xs:List PV):fin (.retn xs)= .ok (.lst xs):=rfl
def uG:Rs->Rx PV
 |.retn xs=> .ok (.lst xs)
 |.exc c=> .exc c
 |_=> .bad
@[simp]theorem sW(xs:List PV):uG (.retn xs)= .ok (.lst xs):=rfl
@[simp]theorem uH(c:Nat):uG (.exc c)= .exc c:=rfl
@[simp]theorem xU(ps:aH):fin (.nx ps)= .ok .non:=rfl
@[simp]theorem wu(c:Nat):fin (.exc c)= .exc c:=rfl
noncomputable def gI(l:List (Nat×Bool))(q:Nat):Rx PV:=match l.lookup q with|some b=> .ok (.bl b)|none=> .bad
def cS(l:List (Nat×Bool))(x:PV):Rx PV:=gI l (kd x)
@[simp]theorem uI(l:List (Nat×Bool)):cS l .non=gI l 0:=rfl
@[simp]theorem wv(l:List (Nat×Bool))(b:Bool):cS l (.bl b)=gI l 1:=rfl
@[simp]theorem uJ(l:List (Nat×Bool))(b:Int):cS l (.int b)=gI l 2:=rfl
@[simp]theorem uK(l:List (Nat×Bool))(b:Str):cS l (.str b)=gI l 3:=rfl
@[simp]theorem uL(l:List (Nat×Bool))(b:List PV):cS l (.tup b)=gI l 4:=rfl
@[simp]theorem uM(l:List (Nat×Bool))(b:List PV):cS l (.lst b)=gI l 5:=rfl
@[simp]theorem uN(l:List (Nat×Bool))(k:Nat)(b:List PV):cS l (.obj k b)=gI l (k+10):=rfl
def Rs.next(x:Rs)(r:DS):Rs:=match x with | .nx ps'=>r ps'|y=>y
noncomputable def sX(x:Rx Bool)(s r:DS)(ps:aH):Rs:=x.st fun b=>if b=true then s ps else r ps
def rJ(x:Rx Bool)(u:DT)(ps:aH):Rx Bool:=x.bind fun b=>if b=true then u ps else .ok false
def xV(x:Rx Bool)(u:DT)(ps:aH):Rx Bool:=x.bind fun b=>if b=true then .ok true else u ps
def mJ(x:Rx PV)(b:DP)(ps:aH):Rx PV:=x.bind fun y=>match y with | .bl true=>b ps | .bl false=> .ok (.bl false)|_=> .bad
def rK(x:Rx PV)(b:DP)(ps:aH):Rx PV:=x.bind fun y=>match y with | .bl true=> .ok (.bl true) | .bl false=>b ps|_=> .bad
noncomputable def rL(x:Rx Bool)(a b:DP)(ps:aH):Rx PV:=x.bind fun y=>if y=true then a ps else b ps
noncomputable def qf(x y:Rx PV)(f:PV->PV->Rx PV):Rx PV:=x.bind fun u=>y.bind fun v=>f u v
noncomputable def qg(x:Rx PV)(xs:Rx (List PV)):Rx (List PV):=x.bind fun u=>xs.bind fun us=> .ok (u::us)
section
variable(ps:aH)(i:Nat)(a b:DP)(d:DA)(t u:DT)(s r:DS)(f:PV->PV->Rx PV)
@[simp]theorem aB:(Rs.nx ps).next r=r ps:=rfl
@[simp]theorem uO(w:PV):(Rs.ret w).next r= .ret w:=rfl
@[simp]theorem sY(xs:List PV):(Rs.retn xs).next r= .retn xs:=rfl
@[simp]theorem sZ(w:PV)(x:Ow):(Rs.reti w x).next r= .reti w x:=rfl
@[simp]theorem uP:(Rs.brk ps).next r= .brk ps:=rfl
@[simp]theorem uQ:(Rs.cnt ps).next r= .cnt ps:=rfl
@[simp]theorem uR(c:Nat):(Rs.exc c).next r= .exc c:=rfl
@[simp]theorem zW:sX (.ok true) s r ps=s ps:=rfl
@[simp]theorem zX:sX (.ok false) s r ps=r ps:=rfl
@[simp]theorem zY(c:Nat):sX (.exc c) s r ps= .exc c:=rfl
@[simp]theorem xW:rJ (.ok true) t ps=t ps:=rfl
@[simp]theorem xX:rJ (.ok false) t ps= .ok false:=rfl
@[simp]theorem zZ:xV (.ok true) t ps= .ok true:=rfl
@[simp]theorem A3:xV (.ok false) t ps=t ps:=rfl
@[simp]theorem ww:mJ (.ok (.bl true)) b ps=b ps:=rfl
@[simp]theorem wx:mJ (.ok (.bl false)) b ps= .ok (.bl false):=rfl
@[simp]theorem xY:rK (.ok (.bl true)) b ps= .ok (.bl true):=rfl
@[simp]theorem xZ:rK (.ok (.bl false)) b ps=b ps:=rfl
@[simp]theorem y3:rL (.ok true) a b ps=a ps:=rfl
@[simp]theorem y4:rL (.ok false) a b ps=b ps:=rfl
@[simp]theorem gj(x y:PV):qf (.ok x) (.ok y) f=f x y:=rfl
@[simp]theorem gl(x:PV)(xs:List PV):qg (.ok x) (.ok xs)= .ok (x::xs):=rfl
@[simp]theorem mK:aa i ps=match ps[i]? with|some (.v w)=> .ok w|_=> .bad:=rfl
@[simp]theorem mL:dSee i ps=match ps[i]? with|some (.v w)=> .ok w|some (.own x)=> .ok x.pv|some (.bor w)=> .ok w|some (.dol ks xss)=> .ok (.dbo ks (xss.map PV.lst))|_=> .bad:=rfl
@[simp]theorem y6(w:PV):dC w ps= .ok w:=rfl
@[simp]theorem lw:d2 f a b ps=qf (a ps) (b ps) f:=rfl
@[simp]theorem iH:dTr a ps=(a ps).bind fun x=>match x with | .bl b=> .ok b|_=> .bad:=rfl
@[simp]theorem mM:fK t u ps=rJ (t ps) u ps:=rfl
@[simp]theorem mN:dw t u ps=xV (t ps) u ps:=rfl
@[simp]theorem iI:aY t ps=(t ps).bind fun x=> .ok (!x):=rfl
@[simp]theorem rM:cH a b ps=mJ (a ps) b ps:=rfl
@[simp]theorem A4:pw a b ps=rK (a ps) b ps:=rfl
@[simp]theorem y7:ge a ps=(a ps).bind fun x=>match x with | .bl k=> .ok (.bl (!k))|_=> .bad:=rfl
@[simp]theorem A5:xG a ps=(a ps).bind fun x=>match x with | .int i=> .ok (.int (-i))|_=> .bad:=rfl
@[simp]theorem A6:ln t a b ps=rL (t ps) a b ps:=rfl
@[simp]theorem A7:xE a ps=(a ps).bind fun x=> .ok (.bl (wl x)):=rfl
@[simp]theorem y8:uq a ps=(a ps).bind fun x=> .ok (.bl (!wl x)):=rfl
@[simp]theorem mO:dNil ps= .ok []:=rfl
@[simp]theorem bB:dCons a d ps=qg (a ps) (d ps):=rfl
@[simp]theorem qh:aS d ps=(d ps).bind fun ws=> .ok (.tup ws):=rfl
@[simp]theorem i7:aK d ps=(d ps).bind fun ws=> .ok (.lst ws):=rfl
@[simp]theorem fq(g:List PV->Rx PV):ad g d ps=(d ps).bind g:=rfl
@[simp]theorem wy(g:List PV->Rx (List PV)):rE g d ps=(d ps).bind g:=rfl
@[simp]theorem A8(c:Nat):cu c d ps=(d ps).bind fun ws=> .ok (.obj c ws):=rfl
@[simp]theorem wz:bh a ps=(a ps).bind fun x=>match x with | .lst xs=> .ok xs|_=> .bad:=rfl
@[simp]theorem uS:pz a ps=(a ps).bind fun x=>match x with | .tup xs=> .ok xs|_=> .bad:=rfl
@[simp]theorem A9(l:List (Nat×Bool)):bT l a ps=(a ps).bind (cS l):=rfl
@[simp]theorem Aa(dl dh:aH->Rx (Option Int)):cr a dl dh ps=(a ps).bind fun x=>(dl ps).bind fun lo=>(dh ps).bind fun hi=>match x with | .lst xs=> .ok (gH xs lo hi)|_=> .bad:=rfl
@[simp]theorem AT:gB ps= .ok none:=rfl
@[simp]theorem AU:f7 a ps=(a ps).bind fun x=>match x with | .int i=> .ok (some i)|_=> .bad:=rfl
@[simp]theorem iJ:cg a b ps=(a ps).bind fun x=>(b ps).bind fun y=>match x,y with | .lst xs,.lst ys=>if xs.length+ys.length<=sizeLine then .ok (xs++ys) else .bad|_,_=> .bad:=rfl
@[simp]theorem y9:al ps= .nx ps:=rfl
@[simp]theorem Ab:xP ps= .brk ps:=rfl
@[simp]theorem Ac:xQ ps= .cnt ps:=rfl
@[simp]theorem ba:ao s r ps=(s ps).next r:=rfl
@[simp]theorem cy:aO i a ps=(a ps).st fun w=> .nx (ps.set i (.v w)):=rfl
@[simp]theorem ya(m:DM):uy i m ps=(m ps).st fun w=> .nx (w.2.set i (.v w.1)):=rfl
@[simp]theorem Ad:xR i d ps=(d ps).st fun ws=>if i<ps.length then .nx (ps.set i (.own (.lst ws))) else .bad:=rfl
@[simp]theorem Ae(g:DG):lp g a ps=(a ps).st fun w=>(g w ps).st fun ps'=> .nx ps':=rfl
@[simp]theorem yb(m:DM):uz m ps=(m ps).st fun w=> .nx w.2:=rfl
@[simp]theorem yc:uB d ps=(d ps).st fun xs=> .retn xs:=rfl
@[simp]theorem yd:uC i ps=match ps[i]? with|some (.own (.lst xs))=> .retn xs|_=> .bad:=rfl
@[simp]theorem gm:aq a ps=(a ps).st fun w=> .ret w:=rfl
@[simp]theorem ye(m:DM):uA m ps=(m ps).st fun w=> .ret w.1:=rfl
@[simp]theorem yf:uD ps= .ret .non:=rfl
@[simp]theorem jX:sIf t s r ps=sX (t ps) s r ps:=rfl
@[simp]theorem mP(g:DG):sFor d g s ps=(d ps).st fun ws=>bW g s ws ps:=rfl
@[simp]theorem yg:uo a ps=(a ps).bind fun w=> .ok (w,ps):=rfl
@[simp]theorem yh:xI ps= .ok ([],ps):=rfl
@[simp]theorem wA(m:DM)(n:kv):uw m n ps=(m ps).bind fun x=>(n x.2).bind fun y=> .ok (x.1::y.1,y.2):=rfl
@[simp]theorem yi(n:kv):xJ n ps=(n ps).bind fun x=>if x.1.length<=1000 then .ok (.tup x.1,x.2) else .bad:=rfl
@[simp]theorem wB(n:kv)(g:List PV->Rx PV):ux g n ps=(n ps).bind fun x=>(g x.1).bind fun w=> .ok (w,x.2):=rfl
@[simp]theorem Af:xM i ps=match ps[i]? with|some (.own y)=> .ok (y.pv,ps.set i (.v y.pv))|some (.v w)=> .ok (w,ps)|_=> .bad:=rfl
@[simp]theorem Ag:xK i ps=match ps[i]? with|some (.own (.lst xs))=>(match xs.getLast? with|some w=> .ok (w,ps.set i (.own (.lst xs.dropLast)))|none=> .bad)|_=> .bad:=rfl
@[simp]theorem Ah(m:DM):xL i m ps=match ps[i]? with
 |some (.own (.lst _))=>(m ps).bind fun x=>(match x.2[i]? with|some (.own (.lst xs))=>if xs.length<sizeLine then .ok (.non,x.2.set i (.own (.lst (xs++[x.1])))) else .bad|_=> .bad)
 |_=> .bad:=rfl
@[simp]theorem jY(w:PV):gSet i w ps= .ok (ps.set i (.v w)):=rfl
@[simp]theorem yj:hV [] ps= .ok ps:=rfl
@[simp]theorem wC(g:DG)(gs:List PV->aH->Rx aH)(w:PV)(ws:List PV):bI g gs (w::ws) ps=(g w ps).bind fun ps'=>gs ws ps':=rfl
@[simp]theorem yk(n:Nat)(gs:List PV->aH->Rx aH)(ws:List PV):hX n gs (.tup ws) ps=if ws.length=n then gs ws ps else .bad:=rfl
@[simp]theorem qi(g:Int->Int->PV)(x y:Int):fI g (.int x) (.int y)= .ok (g x y):=rfl
@[simp]theorem Ai(C:Int->Int->Prop)[∀i j,Decidable (C i j)](g:Int->Int->PV)(x y:Int):sT C g (.int x) (.int y)=if C x y then .ok (g x y) else .bad:=rfl
@[simp]theorem Aj(x y:Int):fEq (.int x) (.int y)= .ok (.bl (x == y)):=rfl
@[simp]theorem Ak(x y:Str):fEq (.str x) (.str y)= .ok (.bl (x == y)):=rfl
@[simp]theorem Al(x y:Bool):fEq (.bl x) (.bl y)= .ok (.bl (x == y)):=rfl
@[simp]theorem Am(x y:Int):iG (.int x) (.int y)= .ok (.bl (!(x == y))):=rfl
@[simp]theorem An(x y:Str):iG (.str x) (.str y)= .ok (.bl (!(x == y))):=rfl
@[simp]theorem Ao(x y:Bool):iG (.bl x) (.bl y)= .ok (.bl (!(x == y))):=rfl
@[simp]theorem e_ixL(xs:List PV)(j:Int):fIx (.lst xs) (.int j)=match gA xs j with|some w=> .ok w|none=> .bad:=rfl
@[simp]theorem bi(xs:List PV)(j:Int):fIx (.tup xs) (.int j)=match gA xs j with|some w=> .ok w|none=> .bad:=rfl
@[simp]theorem ym(xs:List PV):dS [.lst xs]= .ok (.int xs.length):=rfl
@[simp]theorem yn(xs:List PV):dS [.tup xs]= .ok (.int xs.length):=rfl
@[simp]theorem uT(g:DG):bW g s [] ps= .nx ps:=rfl
end
def callM(tab:List (Nat×Nat))(g:Nat->List PV->Rx PV)(x:PV)(ws:List PV):Rx PV:=match x with
 |.obj c xs=>(match tab.lookup c with|some f=>g f (.obj c xs::ws)|none=> .bad)
 |_=> .bad
noncomputable def qj(tab:List (Nat×Nat))(g:Nat->List PV->Rx PV)(x:PV)(m:Rx (List PV)):Rx PV:=match x with
 |.obj c xs=>(match tab.lookup c with|some f=>m.bind fun ws=>g f (.obj c xs::ws)|none=> .bad)
 |_=> .bad
@[simp]theorem uU(tab:List (Nat×Nat))(g:Nat->List PV->Rx PV)(x:PV)(ws:List PV):qj tab g x (.ok ws)=callM tab g x ws:=rfl
@[simp]theorem yo(tab:List (Nat×Nat))(g:Nat->List PV->Rx PV)(a:DP)(d:DA)(ps:aH):bn tab g a d ps=(a ps).bind fun x=>qj tab g x (d ps):=rfl
noncomputable def aZ(l:List (Nat×Nat))(x:PV):Rx PV:=match x with
 |.obj k xs=>(match l.lookup k with|some j=>(match xs[j]? with|some w=> .ok w|none=> .bad)|none=> .bad)
 |_=> .bad
@[simp]theorem mQ(l:List (Nat×Nat))(a:DP)(ps:aH):ax l a ps=(a ps).bind (aZ l):=rfl
end DN
end
section
namespace DN
open PySem PySem.Spec PyProof.Rows L2
section
variable{X:Cx}{G:Pg}{e a b o tg:Expr}{es:List Expr}{da db:DP}{d:DA}{pos p p2 apos cpos:Pos}{x m:Str}{k i:Nat}
noncomputable def uV(d:DA):DA:=fun ps=>(d ps).bind fun ws=>match ws with|[.int j]=>if -(2 ^ 62)<=j/\j<=2 ^ 24 then .ok (mw 0 j.toNat) else .bad|_=> .bad
end
@[simp]theorem yp(ps:aH)(d:DA):uV d ps=(d ps).bind fun ws=>match ws with|[.int j]=>if -(2 ^ 62)<=j/\j<=2 ^ 24 then .ok (mw 0 j.toNat) else .bad|_=> .bad:=rfl
noncomputable def uW(l m:List (Nat×Bool))(d:DP):DP:=fun ps=>(d ps).bind fun x=>match l.lookup (kd x),m.lookup (kd x)with|some a,some b=> .ok (.bl (a || b))|_,_=> .bad
section
variable{X:Cx}{G:Pg}{e c1 c2:Expr}{da:DP}{pos p:Pos}
end
noncomputable def uX(l m:List (Nat×Bool))(x:PV):Rx PV:=match l.lookup (kd x),m.lookup (kd x)with|some a,some b=> .ok (.bl (a || b))|_,_=> .bad
@[simp]theorem yq(l m:List (Nat×Bool))(a:DP)(ps:aH):uW l m a ps=(a ps).bind (uX l m):=rfl
end DN
end
section
namespace DN
open PySem L2
theorem pI(ns:List Int)(lo hi:Option Int):∃ms:List Int,gH (ns.map PV.int) lo hi=ms.map PV.int/\ms.length=min (HT.sIx ns.length ns.length hi-HT.sIx ns.length 0 lo) (ns.length-HT.sIx ns.length 0 lo):=by
 refine⟨(ns.drop (HT.sIx ns.length 0 lo)).take (HT.sIx ns.length ns.length hi-HT.sIx ns.length 0 lo),?_,by rw[List.length_take,List.length_drop]⟩
 unfold gH
 rw[List.length_map,List.map_take,List.map_drop]
end DN
end
section
namespace L2
open PySem PySem.Spec PyProof.Rows
section
variable{X:Cx}{tg:Expr}
end
end L2
namespace DN
open PySem PySem.Spec PyProof.Rows L2
def wD(x:Str):List PV:=x.cps.toList.map fun c=>PV.str ⟨#[c]⟩
section
variable{X:Cx}{G:Pg}{e a b o tg iter:Expr}{es:List Expr}{body:List Stmt}{da db dk dv:DP}{d:DA}{ds:DS}{pos pos' p apos:Pos}{x m:Str}{k i:Nat}{ms:List Bool}
def kJ(d:DP):DA:=fun ps=>(d ps).bind fun x=>match x with | .str y=> .ok (wD y)|_=> .bad
@[simp]theorem uY(d:DP)(ps:aH)(y:Str)(h:d ps= .ok (.str y)):kJ d ps= .ok (wD y):=by unfold kJ;rw[h];rfl
noncomputable def iK:PV->Option Key
 |.int i=>some (.inl i)
 |.str y=>some (.inr y)
 |_=>none
def Ap(ks:List Key)(k:Key):Bool:=ks.any fun k'=>decide (k'=k)
end
section
variable{K:Fg}{G:Pg}{H:Hp}{A:Av}
end
section
variable{X:Cx}{G:Pg}{e a b o i f value:Expr}{es:List Expr}{da db dd dk dv:DP}{d:DA}{dm:DM}{pos pos' p apos cpos tpos:Pos}{x:Str}{j:Nat}
end
end DN
end
section
namespace L2
open PySem PySem.Spec PyProof.Rows
end L2
namespace DN
open PySem PySem.Spec PyProof.Rows L2
section
variable{X:Cx}{G:Pg}{e a b o tg:Expr}{es:List Expr}{da db:DP}{d:DA}{dm:DM}{ds du:DS}{pos p apos cpos:Pos}{x m:Str}{k i:Nat}{ms:List Bool}
noncomputable def dE:Nat->List PV->List PV
 |_,[]=>[]
 |k,w::ws=> .tup [.int (k:Int),w]::dE (k+1) ws
noncomputable def mR(d:DP):DA:=fun ps=>(d ps).bind fun x=>match x with | .lst xs=> .ok (dE 0 xs)|_=> .bad
def uZ(d:DP)(g:DG)(body:DS):DS:=sFor (mR d) g body
noncomputable def yr(i:Nat)(d:DA):DM:=fun ps=>match ps[i]? with
 |some (.own (.lst xs))=>(d ps).bind fun ys=>if xs.length+ys.length<=sizeLine then .ok (.non,ps.set i (.own (.lst (xs++ys)))) else .bad
 |_=> .bad
noncomputable def yt(i:Nat):DM:=fun ps=>match ps[i]? with
 |some (.own (.lst _))=> .ok (.non,ps.set i (.own (.lst [])))
 |_=> .bad
noncomputable def yu(i:Nat):DM:=fun ps=>match ps[i]? with
 |some (.own (.lst xs))=> .ok (.non,ps.set i (.own (.lst xs.reverse)))
 |_=> .bad
noncomputable def i8(d:DP)(dl dh:aH->Rx (Option Int)):DP:=fun ps=>(d ps).bind fun x=>(dl ps).bind fun lo=>(dh ps).bind fun hi=>match x with
 |.tup xs=>if HT.sIx xs.length 0 lo=0/\HT.sIx xs.length xs.length hi=xs.length then .bad else .ok (.tup (gH xs lo hi))
 |_=> .bad
theorem rN{lo hi:Option Expr}{dl dh:aH->Rx (Option Int)}{p2:Pos}(he:JP X G e da)(hl:JO X G lo dl)(hh:JO X G hi dh):JP X G (.Subscript e (.Slice lo hi none p2) pos) (i8 da dl dh):=imp (iY ra he hl hh) fun σ H Q ⟨c,ow,ps,ws,R,e,q⟩=>by
 obtain⟨x,e1,e⟩:=ak e
 obtain⟨l,e2,e⟩:=ak e
 obtain⟨h,e3,e⟩:=ak e
 refine⟨c,ow,ps,x,R,e1,fun v H1 s1 r1=>⟨c,ow,ps,l,R.grow s1,e2,fun H2 s2=>⟨c,ow,ps,h,(R.grow s1).grow s2,e3,fun H3 s3=> ?_⟩⟩⟩
 split at e
 ·split at e
  ·cases e
  ·rename_i xs hw
   cases e
   obtain⟨a,vs,e4,sq,rs⟩:=(r1.same s2).same s3
   refine⟨a,vs,e4,(f8.of sq),by rw[<-rs.len];exact hw,fun p hp=> ?_⟩
   have sp:=bG hp (.tup (gE vs l h))
   refine q _ _ (((s1.trans s2).trans s3).trans sp) ⟨p,_,rfl,aE,?_⟩
   unfold gH gE
   rw[rs.len]
   exact((rs.drop _).take _).same sp
 ·cases e
noncomputable def v0:PV->PV->Rx PV
 |.tup xs,.tup ys=>if xs≠[]/\xs.length+ys.length<=sizeLine then .ok (.tup (xs++ys)) else .bad
 |_,_=> .bad
noncomputable def pJ(d:DA)(b:DP):DA:=fun ps=>(d ps).bind fun xs=>(b ps).bind fun y=>match y with
 |.int k=>if 0<=k/\k<2 ^ 62/\xs.length*k.toNat<=sizeLine then .ok (List.replicate k.toNat xs).flatten else .bad
 |_=> .bad
theorem az.rep{K:Fg}{H:Hp}{A:Av}{ws:List PV}{vs:List V}(h:az K G H A ws vs):∀n:Nat,az K G H A (List.replicate n ws).flatten (List.replicate n vs).flatten
 |0=>rfl
 |n+1=>by
  rw[List.replicate_succ,List.flatten_cons,List.replicate_succ,List.flatten_cons]
  exact h.app (az.rep h n)
theorem qk(ha:JN X G a d)(hb:JP X G b db):JN X G (.BinOp a .Mult b pos) (pJ d db):=imp (lT rj ha hb) fun σ H Q ⟨c,ow,ps,ws,R,e,q⟩=>by
 obtain⟨xs,e1,e⟩:=ak e
 obtain⟨y,e2,e⟩:=ak e
 refine⟨c,ow,ps,xs,R,e1,fun p0 vs H1 s1 hp0 hv rs=>⟨c,ow,ps,y,R.grow s1,e2,fun u H2 s2 r2=> ?_⟩⟩
 split at e
 ·rename_i k
  split at e
  ·rename_i hk
   cases e
   obtain rfl:u=V.int k:=r2
   refine⟨p0,k,vs,rfl,rfl,s2 _ _ hv,by omega,by omega,by rw[<-rs.len];exact hk.2.2,fun p hp=> ?_⟩
   have sp:=bG hp (.lst (List.replicate k.toNat vs).flatten)
   have r0:az X.K G H2 (av c ow) xs vs:=((Kp.weak fun a z=>Or.inl z).reps rs).same s2
   exact q p _ _ ((s1.trans s2).trans sp) ((s1.trans s2).free hp) aE ((Kp.take hp sp fun a z=>z.symm).reps (r0.rep _))
  ·cases e
 ·cases e
noncomputable def rO(g:List PV->Rx PV)(d:DA):DA:=fun ps=>(d ps).bind fun ws=>(g ws).bind fun w=>match w with | .lst xs=> .ok xs|_=> .bad
variable(ps:aH)
@[simp]theorem Aq:yr i d ps=match ps[i]? with
 |some (.own (.lst xs))=>(d ps).bind fun ys=>if xs.length+ys.length<=sizeLine then .ok (.non,ps.set i (.own (.lst (xs++ys)))) else .bad
 |_=> .bad:=rfl
@[simp]theorem Ar:yt i ps=match ps[i]? with
 |some (.own (.lst _))=> .ok (.non,ps.set i (.own (.lst [])))
 |_=> .bad:=rfl
@[simp]theorem As:yu i ps=match ps[i]? with
 |some (.own (.lst xs))=> .ok (.non,ps.set i (.own (.lst xs.reverse)))
 |_=> .bad:=rfl
@[simp]theorem yx(g:DG):uZ da g ds ps=(mR da ps).st fun ws=>bW g ds ws ps:=rfl
@[simp]theorem yy:mR da ps=(da ps).bind fun x=>match x with | .lst xs=> .ok (dE 0 xs)|_=> .bad:=rfl
@[simp]theorem yz(dl dh:aH->Rx (Option Int)):i8 da dl dh ps=(da ps).bind fun x=>(dl ps).bind fun lo=>(dh ps).bind fun hi=>match x with
 |.tup xs=>if HT.sIx xs.length 0 lo=0/\HT.sIx xs.length xs.length hi=xs.length then .bad else .ok (.tup (gH xs lo hi))
 |_=> .bad:=rfl
@[simp]theorem yA(xs ys:List PV):v0 (.tup xs) (.tup ys)=if xs≠[]/\xs.length+ys.length<=sizeLine then .ok (.tup (xs++ys)) else .bad:=rfl
@[simp]theorem At:pJ d db ps=(d ps).bind fun xs=>(db ps).bind fun y=>match y with
 |.int k=>if 0<=k/\k<2 ^ 62/\xs.length*k.toNat<=sizeLine then .ok (List.replicate k.toNat xs).flatten else .bad
 |_=> .bad:=rfl
@[simp]theorem wE(g:List PV->Rx PV):rO g d ps=(d ps).bind fun ws=>(g ws).bind fun w=>match w with | .lst xs=> .ok xs|_=> .bad:=rfl
end
end DN
end
section
namespace L2
open PySem PySem.Spec PyProof.Rows
section
variable{X:Cx}{pins:List (Addr×Obj)}{σ :St}{H:Hp}{s s1:Shared}{scope:Scope}{own:List Str}{caps:List (Str×Nat)}{fp:List Addr}
def rP(own:List Str)(caps:List (Str×Nat))(wi:TI)(g:TG)(tc:TT)(te:TE)(i:Nat):TS:=fun D σ H=>wi σ H (md own caps g tc te σ fun v H'=>D.nx (σ.set i (some v)) H')
theorem pK{elt tg iter:Expr}{ifs:List Expr}{pos spos px:Pos}{wi:TI}{g:TG}{tc:TT}{te:TE}{j:Nat}{x:Str}(hN:X.N.Nodup)(hi':X.N[j]? =some x)(hx:oz X.env.scope x)(S:cR X scope own caps)(hc:X.calm=true)(hi:PI X tg iter wi)
  (hg:∀C s₀ H₀ fp,PG .(X) tg g) (ht:∀C s₀ H₀ fp,wj .(X) ifs tc) (he:∀C s₀ H₀ fp,PE .(X) elt te)
  (hsw:swapsWith .(AC) (some (.Name x px)) spos.line X.env=pure true:=by rfl) (hs:∀x,foldedSetIterable iter X.env x=pure x:=by intro _;rfl)
  (hf:X.fn x=true\/X.env.scope.names.lookup x=some .local:=by first|exact .inl rfl|exact .inr rfl|assumption):PS X (.Assign [.Name x px] (.ListComp elt [⟨tg,iter,ifs,0⟩] scope pos) spos) (rP own caps wi g tc te j):=by
 intro pins s σ H D0 I h
 rw[exec_Assign_Name_used _ _ _ _ hsw]
 refine wpAny_bind (wpAny_standAt (wpAny_bind ?_))
 show wpAny _ X.A (do let _ <- comprehension .(AC) scope X.env _ (newList []) false (eval iter X.env) (some (assign (.Name x px) X.env))) _ _ s
 have hfree:∀y∈scope.names,y.2= .free->∃c,X.env.cells.lookup y.1=some c:=fun y hy e=>I.ok.has _ (S.frees.mem y hy e)
 refine wpAny_bind (wpAny_mono (wpAny_comprehension_free (Q:=fun _ s'=>SP X pins D0 .next s') (use:=some (assign (.Name x px) X.env)) rfl hs (dX hfree) S.kind S.names (bq (hi pins s σ H _ I h) fun v s1 h1=>bq h1 fun itv s2 h2=> ?_))
  (fun _ s' hq=>wpAny_pure (wpAny_pure hq)) fun _ _ e=>e)
 obtain⟨it,fp,tn,J,H2,e,I2,T,st2,f2,hW⟩:=h2
 subst e
 -- the new list
 refine wpAny_newList ?_
 have hD:H2 s2.heap.objs.size=none:=I2.fresh
 have I3:=I2.lnew (its:=[]) (ys:=[]) (t':=s2.toks) .nil (Nat.zero_le _)
 have k3:∀b o,s2.heap.get? b=some o->.(AI).get? b=some o:=fun b o q=>Heap.get?_push_of_some _ q
 have st3:tn 0 .(AI):=T.keep _ _ _ st2 fun b _ o q=>k3 b o q
 have lt2:∀b∈fp,b<s2.heap.objs.size:=fun b hb=>let ⟨o,q,_⟩:=T.obj _ _ st2 b hb;Heap.lt_size q
 have neD:∀b∈fp,b≠s2.heap.objs.size:=fun b hb=>Nat.ne_of_lt (lt2 b hb)
 have f3:∀b∈fp,fY X pins (upd H2 s2.heap.objs.size (.lst [])) b:=fun b hb=>⟨by rw[ay (neD b hb)];exact(f2 b hb).1,(f2 b hb).2⟩
 obtain⟨W,⟨m0,w0⟩,turn⟩:=hW _ hD
 generalize eD:s2.heap.objs.size=D at *
 generalize eH:upd H2 D (.lst [])=H3 at *
 generalize eh:s2.heap.push { cls:= .type "list",data:= .seq ([]:List Value).toArray }=hp3 at *
 have I3':aw X pins σ H3 { s2 with heap:=hp3 }:=I3
 -- the block's frame
 refine wpAny_newFunctionEnv S.nocell (fun y hy=>by simp at hy) (fun h1 hns hsb=> ?_) S.kind
 have kb:∀b o,hp3.get? b=some o->h1.get? b=some o:=fun b o q=>hsb.extBut b o (Nat.ne_of_lt (Heap.lt_size q)) (Heap.get?_push_of_some _ q)
 have lt3:∀b∈fp,b<hp3.objs.size:=fun b hb=>let ⟨o,q,_⟩:=T.obj _ _ st3 b hb;Heap.lt_size q
 have IB:=aw.block (s:={ s2 with heap:=hp3 }) (h1:=h1) (tk:=s2.toks) I3' S f3 hns kb lt3
 have stB:tn 0 h1:=T.keep _ _ _ st3 fun b _ o q=>kb b o q
 have back:∀{σ':St} {H':Hp} {s':Shared} {h':Heap},aw .(E) [] σ' H' s'->Heap.SameBut hp3.objs.size s'.heap h'->aw X pins σ H' { s' with heap:=h' }:=fun {σ' H' s' h'} J hsm=>by
  have nC:∀b o,H' b=some o->b≠hp3.objs.size:=fun b o q z=>by
   have:=J.free
   rw[z]at q
   have q2:H' hp3.objs.size=none:=this
   rw[q]at q2;cases q2
  have hok:fE X.prog X.w H' h':=fun b o q=>(J.hok b o q).stay (fun c v hc z=>hsm.extBut c v (by
   rcases hc with hc|hc
   ·rw[hc];exact nC b o q
   ·exact nC c _ hc) z) (fun _ z=>z) (fun _ _ z=>z) fun _ _ _ z=>z
  have nb:∀b o,hp3.get? b=some o->b≠hp3.objs.size:=fun b o q=>Nat.ne_of_lt (Heap.lt_size q)
  have un:Un (lJ X.stack) fp H3 H' hp3 h':=⟨fun b o q n hb hx=>hsm.extBut b o (nb b o q) (J.base.keep b o q n hb hx),fun b o q n hb hx=>by
    obtain⟨sl,z⟩:=J.base.slot b o q n hb hx
    exact⟨sl,hsm.extBut b _ (nb b o q) z⟩,J.base.free,fun b o q hx=>by
    obtain⟨o',z⟩:=J.base.there b o q hx
    exact⟨o',hsm.extBut b _ (nb b o q) z⟩,J.base.tups,J.base.frzs,J.base.tbls⟩
  have os:=J.os
  have bare:=J.bare
  obtain⟨hh,g,d,t,os'⟩:=s'
  obtain rfl:os'=s2.os:=os
  show aw X pins σ H' { ({ s2 with heap:=hp3 }:Shared)with heap:=h',gens:=g,drawn:=d,toks:=t }
  exact I3'.call (h':=h') (g':=g) (d':=d) (t':=t) (ch:=fp) un hok bare fun b hb=>⟨(f3 b hb).2.2.2.1,(f3 b hb).2.1,(f3 b hb).2.2.2.2.1,(f3 b hb).2.2.2.2.2⟩
 have statB:∀{H':Hp},(∀b∈fp,H' b=none)->∀b∈fp,fY .(E) [] H' b:=fun hn b hb =>
  ⟨hn b hb,Nat.ne_of_lt (lt3 b hb),fun z=>(IB.ok.exfs b hb) z,.inl hb,(IB.ok.exf b hb).2,fun p hp=>absurd (show p∈([]:List (Addr×Obj)) from hp) (by simp)⟩
 have loop:∀s₃ :Shared,s₃ ={ s2 with heap:=h1,toks:=s2.toks }->codeAny .(J) X.A (.compLoop .(AC) 0 (.ref it) (.ref D) (compEnvC scope (clos X.env scope.names []) hp3.objs.size X.env))
   (compPost .(J) X.A X.xe (some (assign (.Name x px) X.env)) (fun _ s'=>SP X pins D0 .next s') (.ref D) hp3.objs.size) s₃ :=by
  rintro s₃ rfl
  refine eO (fun n s'=>∃i σ' H',aw .(E) [] σ' H' s'/\tn i s'.heap/\(∀b∈fp,H' b=none)/\W i n σ' H') ?_ m0 ⟨0,iw own caps σ,H3,IB,stB,fun b hb=>(f3 b hb).1,w0⟩
  rintro n s3 ⟨i, σ3,H4,I4,st4,fr4,w4⟩
  rcases turn i n σ3 H4 w4 with⟨stop,qn⟩|⟨go,N,hN,step⟩
  ·refine bq (T.done .(E) rfl rfl rfl hc i [] s3 σ3 H4 _ I4 (statB fr4) st4 stop) fun r s4 ⟨hr,I5⟩=> ?_
   subst hr
   obtain⟨m,hn,_⟩:=I5.loc
   have I6:aw X pins σ H4 s4:=back I5 ⟨rfl,fun _ _=>rfl⟩
   have neL:hp3.objs.size≠X.env.locals:=fun z=>by
    have:=I3'.lt
    rw[<-z]at this
    exact Nat.lt_irrefl _ this
   have neC:∀y c,X.env.cells.lookup y=some c->c≠hp3.objs.size:=fun y c e z=>by
    obtain⟨v,q⟩:=I3'.cell y c e
    have:=q.lt
    rw[z]at this
    exact Nat.lt_irrefl _ this
   have neP:∀p∈X.pn++pins,p.1≠hp3.objs.size:=fun p hp z=>by
    have:=Heap.lt_size (I3'.pin p hp).1
    rw[z]at this
    exact Nat.lt_irrefl _ this
   refine wpAny_assign_Name (gQ I6 hN hi' hx (v:= .ref D) rfl (fun s7 I7 ⟨a,sb,ha⟩=> ?_) hf)
   have na:hp3.objs.size≠a:=fun z=>by
    rcases ha with ha|ha
    ·exact neL (z.trans ha)
    ·exact neC _ _ ha z.symm
   refine⟨m,hn.sameBut sb na,fun h' hsm=>⟨_,H4,?_,qn⟩⟩
   exact I7.turned (t':=s7.toks) (it:=hp3.objs.size) (fun b o hb e=>hsm.extBut b o hb e) I5.free neL (.inr I3'.sz) neC neP
  ·refine bq (T.item .(E) rfl rfl rfl hc i [] s3 σ3 H4 (fun _ _=>False) I4 (statB fr4) st4 go) fun r s4 ⟨u,hr,h4⟩=> ?_
   subst hr
   refine bq h4 fun _ s5 ⟨x,H5,I5,r5,y5,st5,fr5⟩=> ?_
   have I5':=I5.pinned (statB fr5) (T.obj _ _ st5)
   refine bq (hg hp3.objs.size { s2 with heap:=hp3 } H3 fp _ s5 σ3 H5 x u _ I5' r5 (step x H5 y5)) fun _ s6 ⟨σ6,H6,I6,q6⟩=> ?_
   refine bq (ht hp3.objs.size { s2 with heap:=hp3 } H3 fp _ s6 σ6 H6 _ I6 q6) fun ok s7 ⟨H7,I7,q7⟩=> ?_
   have again:∀{σ7:St} {H7:Hp} {s7:Shared},aw .(E) ([]++fb fp s5.heap) σ7 H7 s7->N σ7 H7->∃m,m<n/\ ∃i σ' H',aw .(E) [] σ' H' s7/\tn i s7.heap/\(∀b∈fp,H' b=none)/\W i m σ' H':=fun {σ7 H7 s7} I7 n7=>by
    obtain⟨m',hm,w7⟩:=hN σ7 H7 n7
    refine⟨m',hm,i+1, σ7,H7,I7.unpinned,T.keep _ _ _ st5 fun b hb o e=>.(Aa).1,fun b hb=> ?_,w7⟩
    obtain⟨o,e,d⟩:=T.obj _ _ st5 b hb
    exact .(Aa).2.1
   cases ok with
   |false =>
    rw[if_neg (by decide)]
    rw[if_neg (by decide)]at q7
    exact again I7 q7
   |true =>
    rw[if_pos rfl]
    rw[if_pos rfl]at q7
    refine bq (he hp3.objs.size { s2 with heap:=hp3 } H3 fp _ s7 σ6 H7 _ I7 q7) fun y s8 ⟨yv,H8,I8,r8,ys,e8,z8,n8⟩=> ?_
    refine bq (gZ (X:=eN X scope hp3.objs.size (bE own caps) { s2 with heap:=hp3 } H3 fp) _ s8 σ6 H8 (.ref D) [yv] (.ref D) [y] (fun _ H'=>N σ6 H') I8 rfl (.cons r8 .nil) ⟨D,ys,yv,rfl,rfl,e8,z8,n8⟩) fun _ s9 ⟨v9,H9,I9,_,q9⟩=> ?_
    exact again I9 q9
 exact codeAny_compStart_list (loop _ rfl) (T.self _ 0 _ _ _ stB (loop _ rfl))
end
end L2
namespace DN
open PySem PySem.Spec PyProof.Rows L2
section
variable{X:Cx}{G:Pg}{e a b o tg:Expr}{es:List Expr}{da db:DP}{d:DA}{dm:DM}{ds du:DS}{pos p apos cpos:Pos}{x m:Str}{k i:Nat}{ms:List Bool}
theorem mS{elt iter:Expr}{ifs:List Expr}{scope:Scope}{own:List Str}{caps:List (Str×Nat)}{di:DA}{g:DG}{dt:DT}{de:DP}(hN:X.N.Nodup)(hi':X.N[i]? =some x)(hx:oz X.env.scope x)(S:cR X scope own caps)(hc:X.calm=true)(hi:wq X G tg iter di)
  (hg:∀C s₀ H₀ fp,JG .(X) G tg g) (ht:∀C s₀ H₀ fp,xH .(X) G ifs dt) (he:∀C s₀ H₀ fp,JP .(X) G elt de)
  (gk:∀(w:PV) (ps ps':aH),g w ps= .ok ps'->∀(i:Nat) (x:Ow),ps'[i]? =some (Sl.own x)->ps[i]? =some (Sl.own x))
  (hsw:swapsWith (.ListComp elt [⟨tg,iter,ifs,0⟩] scope cpos) (some (.Name x p)) pos.line X.env=pure true:=by rfl) (hs:∀x,foldedSetIterable iter X.env x=pure x:=by intro _;rfl)
  (hf:X.fn x=true\/X.env.scope.names.lookup x=some .local:=by first|exact .inl rfl|exact .inr rfl|assumption):JS X G (.Assign [.Name x p] (.ListComp elt [⟨tg,iter,ifs,0⟩] scope cpos) pos) (aO i (aK (dComp own caps di g dt de))) :=
 jd (pK (wi:=wo X.K G di) (g:=tG X.K G g) (tc:=lK X.K G dt) (te:=qa X.K G de) hN hi' hx S hc hi hg ht he hsw hs hf) fun D σ H ⟨c,ow,ps,R,q⟩=>by
  obtain⟨w,e0,q⟩:=bQ q
  obtain⟨ws,e1,e2⟩:=ak e0
  cases e2
  exact kG gk ⟨c,ow,ps,ws,R,e1,fun p vs H' s hp hv r=>q _ _ _ ((R.grow s).setV ⟨p,vs,rfl,.inl ⟨hv,fun z=>R.used p z hp⟩,(Kp.weak fun a z=>Or.inl z).reps r⟩) ((Kp.of_same s).trans (Kp.weak iA))⟩
theorem jf{α :Type}{dt:DT}{de:DP}{ps0:aH}(emb: α ->PV)(q: α ->Bool)(f: α ->PV):∀(us:List α) (s:Sl),(∀u,u∈us->dt (.v (emb u)::ps0)= .ok (q u)/\(q u=true->de (.v (emb u)::ps0)= .ok (f u)))->gg (gSet 0) dt de (us.map emb) (s::ps0)= .ok ((us.filter q).map f)
 |[],s,_=>rfl
 |u::us,s,h=>by
  obtain⟨h1,h2⟩:=h u List.mem_cons_self
  have ih:=jf emb q f us (.v (emb u)) fun w' hw=>h w' (List.mem_cons_of_mem _ hw)
  have e0:gSet 0 (emb u) (s::ps0)= .ok (.v (emb u)::ps0):=rfl
  rw[List.map_cons,gg,e0,aM,h1,aM]
  cases hp:q u with
  |true=>rw[if_pos rfl,h2 hp,aM,ih,aM,List.filter_cons,if_pos hp];rfl
  |false=>rw[if_neg Bool.false_ne_true,ih,List.filter_cons,if_neg (by rw[hp];exact Bool.false_ne_true)]
theorem bJ{α :Type}{de:DP}{ps0:aH}(emb f: α ->PV)(us:List α)(s:Sl)(h:∀u,u∈us->de (.v (emb u)::ps0)= .ok (f u)):gg (gSet 0) ci de (us.map emb) (s::ps0)= .ok (us.map f):=by
 rw[jf emb (fun _=>true) f us s fun u hu=>⟨rfl,fun _=>h u hu⟩,List.filter_eq_self.mpr fun _ _=>rfl]
mutual
noncomputable def PV.data:PV->Bool
 |.obj _ _=>false
 |.dic _ _=>false
 |.clo _ _=>false
 |.tup xs=>ef xs
 |.lst xs=>ef xs
 |.dit _ _=>false
 |.dbo _ _=>false
 |.exn _=>false
 |_=>true
noncomputable def ef:List PV->Bool
 |[]=>true
 |x::xs=>x.data && ef xs
end
mutual
theorem gp:∀(x:PV),x.data=true->jw x x=some true
 |.non,_=>rfl
 |.bl _,_=>congrArg some (beq_self_eq_true _)
 |.int _,_=>congrArg some (beq_self_eq_true _)
 |.str _,_=>congrArg some (beq_self_eq_true _)
 |.tup xs,h=>by rw[iE];exact ft xs h
 |.lst xs,h=>by rw[gh,if_pos rfl];exact ft xs h
 |.obj _ _,h=>by cases h
 |.dic _ _,h=>by cases h
 |.clo _ _,h=>by cases h
 |.dit _ _,h=>by cases h
 |.dbo _ _,h=>by cases h
 |.exn _,h=>by cases h
theorem ft:∀(xs:List PV),ef xs=true->dg xs xs=some true
 |[],_=>by rw[dg]
 |x::xs,h=>by
  have h:(x.data && ef xs)=true:=h
  rw[Bool.and_eq_true]at h
  rw[dg,gp x h.1,ft xs h.2]
  rfl
end
end
theorem jg{f:Str}{v:V}:∀{ns:List Str} {vs:List V},f∉ns->ns.length=vs.length->bO f v (ns.zip vs)=(ns++[f]).zip (vs++[v])
 |[],[],_,_=>rfl
 |[],_::_,_,h=>by simp at h
 |_::_,[],_,h=>by simp at h
 |n::ns,u::vs,h,l=>by
  have h1:n≠f:=fun z=>h (by rw[z];exact List.mem_cons_self)
  rw[List.zip_cons_cons]
  show(if n=f then _ else _)=_
  rw[if_neg h1,jg (fun z=>h (List.mem_cons_of_mem _ z)) (by simpa using l)]
  rfl
section
variable{X:Cx}{G:Pg}{e a b o tg:Expr}{es:List Expr}{da db:DP}{d:DA}{dm:DM}{ds du:DS}{pos p apos cpos:Pos}{x m:Str}{k i:Nat}{ms:List Bool}
noncomputable def mT(l:List (Nat×Nat))(k:Nat)(xs:List PV):Rx PV:=match l.lookup k with|some j=>(match xs[j]? with|some w=> .ok w|none=> .bad)|none=> .bad
noncomputable def v5(l:List (Nat×Nat))(i:Nat):DP:=fun ps=>match ps[i]? with
 |some (.ino (.obj k xs))=>mT l k xs
 |some (.own (.obj k xs))=>mT l k xs
 |some (.bor (.obj k xs))=>mT l k xs
 |some (.ini k xs)=>mT l k xs
 |some (.v (.obj k xs))=>mT l k xs
 |_=> .bad
noncomputable def jh(k j:Nat)(d:DP):DS:=fun ps=>match ps[(0:Nat)]? with
 |some (.ini k' xs)=>if k'=k/\xs.length=j then(d ps).st fun w=> .nx (ps.set 0 (.ini k (xs++[w]))) else .bad
 |_=> .bad
theorem ql{f:Str}{j:Nat}(k:Nat)(cl:iQ X.K (G.cA k))(na:bu X.K (G.cA k) f)(nd:(G.fN k).Nodup)(hf:(G.fN k)[j]? =some f)(hsm:(G.fN k).length<1000)(he:JP X G e da)(hN:X.N[0]? =some x:=by rfl)(hv:oy X.env.scope x:=by first|exact Or.inl rfl|exact Or.inr (Or.inl rfl)|exact Or.inr (Or.inr rfl))
  (hd:.(O)=false:=by decide) (hcd:(x == ("__classdict__":Str))=false:=by decide) (hs:swapsWith e (some (.Attribute (.Name x p) f apos)) pos.line X.env=pure false:=by rfl) :
  JS X G (.Assign [.Attribute (.Name x p) f apos] e pos) (jh k j da):=jd (en (br hN hv hd hcd) he hs) fun D σ H ⟨c,ow,ps,R,q⟩=>by
 unfold jh at q
 split at q
 ·rename_i k' xs hx
  split at q
  ·rename_i hk
   obtain⟨rfl,rfl⟩:=hk
   obtain⟨w,e1,q⟩:=bQ q
   refine⟨c,ow,ps,w,R,e1,fun v H1 s1 r1=> ?_⟩
   have R1:=R.grow s1
   obtain⟨o',eo,z1,z2,pp,e2,el,dx,vs,hH,hl,rs⟩:=R1.get hx
   rw[e2]at eo
   have hlt:xs.length<(G.fN k').length:=(List.getElem?_eq_some_iff.mp hf).1
   have hlen:((G.fN k').take xs.length).length=vs.length:=by rw[List.length_take,<-rs.len];omega
   have hfe:(G.fN k')[xs.length]=f:=by
    have:=List.getElem?_eq_getElem hlt
    rw[this]at hf
    exact Option.some.inj hf
   have htk:(G.fN k').take (xs.length+1)=(G.fN k').take xs.length++[f]:=by rw[List.take_succ_eq_append_getElem hlt,hfe]
   have hnot:f∉(G.fN k').take xs.length:=fun z=>by
    have nd':=nd.sublist (List.take_sublist (xs.length+1) (G.fN k'))
    rw[htk]at nd'
    exact(List.nodup_append.mp nd').2.2 f z f (by simp) rfl
   have hput:=jg (v:=v) hnot hlen
   refine⟨.ref pp,eo,pp,_,dx,_,rfl,hH,cl,na,?_,?_⟩
   ·rw[List.length_zip,hlen,Nat.min_self,<-rs.len];omega
   ·have mD:Mt (HO.ins (G.cA k') dx (((G.fN k').take xs.length).zip vs)):=And.intro (fun _ z=>by cases z) (fun _ _ z=>by cases z)
    have k0:Kp X.K G H1 (av c ow) (upd H1 pp (.ins (G.cA k') dx (bO f v (((G.fN k').take xs.length).zip vs)))) (av c ow):=Kp.own (.inl (R1.lent pp el).1) hH mD
    have:=R1.chgL (s':= .ini k' (xs++[w])) (u:= .ins (G.cA k') dx (bO f v (((G.fN k').take xs.length).zip vs))) hx el hH mD fun v' hv'=>by
     rw[eo]at hv'
     cases hv'
     refine⟨z1,rfl,pp,rfl,el,dx,vs++[v],?_,?_,k0.reps (rs.snoc r1)⟩
     ·rw[aE,hput,List.length_append,List.length_singleton,htk]
     ·rw[List.length_append,List.length_singleton];omega
    exact q _ _ ow this.1 ((Kp.of_same s1).trans this.2)
  ·exact q.elim
 ·exact q.elim
end
noncomputable def yB(k:Nat)(ms:List Bool)(n:Nat)(ws:List PV):aH:= .ini k []::jv ms (n-1) ws
noncomputable def jZ(k nf:Nat)(ms:List Bool)(n:Nat)(d:DS)(ws:List PV):Rx PV:=if ws.length=ms.length then(match d (yB k ms n ws) with
 |.nx ps=>(match ps[(0:Nat)]? with|some (.ini k' fs)=>if k'=k/\fs.length=nf then .ok (.obj k fs) else .bad|_=> .bad)
 |.exc c=> .exc c
 |_=> .bad) else .bad
def mU(K:Fg)(G:Pg)(k:Nat)(ms:List Bool)(g:List PV->Rx PV):Sp:=fun vs H Q _=>∃(A:Av) (H1:Hp) (ws:List PV) (x dx:Addr) (us:List V) (fs:List PV),vs= .ref x::us/\H x=some (.ins (G.cA k) dx [])/\H1 x=none/\Same H1 H/\gd H1 A/\dB K G H1 A ms ws us/\g ws= .ok (.obj k fs) /\
 ∀H' dx' vs',Same H1 H'->H' x=some (.ins (G.cA k) dx' ((G.fN k).zip vs'))->(G.fN k).length=vs'.length->az K G H' (fun a=>A a\/a=x) fs vs'->Q .non H'
theorem eB.keep{K:Fg}{G:Pg}{H H':Hp}{A A' B:Av}{ps:aH}{σ :L2.St}(R:eB K G B H A ps σ)(k:Kp K G H A H' A')(e:∀p,B p->H' p=H p):eB K G B H' A' ps σ :=by
 refine⟨R.len,fun i s o h1 h2=> ?_⟩
 have q:=R.slot i s o h1 h2
 cases s with
 |no=>exact True.intro
 |v w=>obtain⟨v,e,r⟩:=q;exact⟨v,e,k.rep r⟩
 |own x=>exact q.elim
 |ino x=>exact q.elim
 |ini k xs=>exact q.elim
 |dol ks xss=>exact q.elim
 |als d j=>exact q.elim
 |rgn w=>exact q.elim
 |bor w =>
  obtain⟨v,e1,r⟩:=q
  refine⟨v,e1,?_⟩
  rcases r with r|⟨x,p,e1,e2,r,n⟩|r
  ·exact .inl (k.rep r)
  ·exact .inr (.inl ⟨x,p,e1,e2,r.keep k (e p n),n⟩)
  ·exact .inr (.inr (r.keep k fun p n _=>e p n))
theorem eB.cons{K:Fg}{G:Pg}{H:Hp}{A B:Av}{ps:aH}{σ :L2.St}{s:Sl}{v:V}{x:Addr}(R:eB K G B H A ps σ)(u:gd H A)(ub:∀a,B a->H a≠none/\a≠x)(hx:A x)(hs:iz K G ⟨H,A,B,some x⟩ (ps.length+1) H (av ⟨H,A,B,some x⟩ iR) iR 0 s (some v)):aN K G ⟨H,A,B,some x⟩ H iR (s::ps) (some v::σ):=by
 refine⟨by simp[R.len],ga.of (Same.refl H),(fun p e=> ?_),u,(fun a z=>⟨(ub a z).1,fun e=>(ub a z).2 (Option.some.inj e).symm⟩),(fun i p e=>(nomatch e)),(fun i j p e=>(nomatch e)),(fun _ _ e=>(nomatch e)),fun i s' o e1 e2=> ?_⟩
 ·cases e;exact⟨hx,u x hx⟩
 ·cases i with
  |zero=>simp at e1 e2;subst e1;subst e2;exact hs
  |succ i =>
   have q:=R.slot i s' o (by simpa using e1) (by simpa using e2)
   have k:Kp K G H A H (av ⟨H,A,B,some x⟩ iR):=Kp.weak fun a z=>wm a z
   cases s' with
   |no=>rfl
   |v w=>obtain⟨v,e,r⟩:=q;exact⟨rfl,v,e,k.rep r⟩
   |own x=>exact q.elim
   |ino x=>exact q.elim
   |ini k xs=>exact q.elim
   |dol ks xss=>exact q.elim
   |als d j=>exact q.elim
   |rgn w=>exact q.elim
   |bor w =>
    obtain⟨v,e,r⟩:=q
    refine⟨rfl,v,e,?_⟩
    rcases r with r|⟨x,p,e1,e2,r,n⟩|r
    ·exact .inl (k.rep r)
    ·exact .inr (.inl ⟨x,p,e1,e2,r.keep k rfl,n⟩)
    ·exact .inr (.inr (r.keep k fun _ _ _=>rfl))
theorem k6{N:List Str}{v:V}{us:List V}(h:0<N.length):L2.fH N (v::us)=some v::L2.fH N.tail us:=by
 unfold L2.fH
 cases N with
 |nil=>simp at h
 |cons n N=>simp
theorem rQ{P:Program}{w:World}{K:Fg}{mg:Str->Option Value}{base:Bs}{G:Pg}{x qual:Str}{st:Stmt}{f:Addr}{fd:FuncData}{N ps:List Str}{k c nf:Nat}{ms:List Bool}{d:DS}(F:fM K x qual st f fd)(S:aj N ps (ag st))(hm:ms.length+1=ps.length)(hn:0<N.length)(hnf:(G.fN c).length=nf)
  (hb:∀(cdv:Value) (A:Around) (outer:List Env) (s:Shared) (H:Hp) (E:XK),bf k (A.deeper (envOfC qual (ag st) s.heap.objs.size f cdv))->lL (io fS P w K mg base N qual (ag st) f cdv A outer s H E).nox G (bw st) d) :
  bM P w K mg base fS (k+1) f fd ps (mU K G c ms (jZ c nf ms N.length d)):=by
 refine F.ok S (fun vs H Q E h=> ?_) (fun cdv A outer s H vs Q E hr h=> ?_)
 ·obtain⟨A,H1,ws,xa,dx,us,fs,rfl,_,_,_,_,r,_⟩:=h
  rw[List.length_cons,r.len.2,hm]
 ·obtain⟨A',H1,ws,xa,dx,us,fs,rfl,hx,hx1,sm,u,r,e,q⟩:=h
  refine⟨_,hb cdv A outer s H E hr,?_⟩
  have hlen:N.tail.length=N.length-1:=List.length_tail
  have F0:=mB (N:=N.tail) r
  rw[hlen]at F0
  have nx:∀a,H1 a≠none->a≠xa:=fun a z y=>z (by rw[y];exact hx1)
  have kp:Kp K G H1 A' H (fun a=>A' a\/a=xa):=Kp.take hx1 sm fun a z=>z.symm
  have F1:eB K G (fun p=>H1 p≠none) H (fun a=>A' a\/a=xa) (jv ms (N.length-1) ws) (L2.fH N.tail us):=F0.keep kp fun p hp=>by
   cases e1:H1 p with
   |none=>exact absurd e1 hp
   |some o=>exact sm _ _ e1
  have us':gd H (fun a=>A' a\/a=xa):=fun a z=>by
   rcases z with z|z
   ·cases e1:H1 a with
    |none=>exact absurd e1 (u a z)
    |some o=>rw[sm _ _ e1];simp
   ·rw[z,hx];simp
  have S0:=F1.cons (s:= .ini c []) (v:= .ref xa) (x:=xa) us' (fun a z=>⟨by
   cases e1:H1 a with
   |none=>exact absurd e1 z
   |some o=>rw[sm _ _ e1];simp,nx a z⟩) (.inr rfl) ⟨rfl,rfl,xa,rfl,rfl,dx,[],by rw[hx];rfl,Nat.zero_le _,rfl⟩
  rw[k6 hn]
  refine⟨_,iR,yB c ms N.length ws,S0,?_⟩
  unfold jZ at e
  rw[if_pos r.len.1]at e
  cases ed:d (yB c ms N.length ws) with
  |nx ps' =>
   rw[ed]at e
   have e:(match ps'[(0:Nat)]? with|some (.ini k' fs)=>if k'=c/\fs.length=nf then Rx.ok (PV.obj c fs) else .bad|_=> .bad)= .ok (.obj c fs):=e
   split at e
   ·rename_i k' fs' hp0
    split at e
    ·rename_i hk
     cases e
     obtain⟨rfl,hfl⟩:=hk
     intro σ' H' ow' R' _
     obtain⟨o',eo,z1,z2,pp,e2,el,dx',vs',hH,hl,rs⟩:=R'.get hp0
     cases el
     refine q H' dx' vs' (fun a o h=> ?_) ?_ ?_ ((Kp.weak fun a z=>Or.inl z).reps rs)
     ·exact R'.same a o (sm _ _ h) (fun z=>nx a (by rw[h];simp) (Option.some.inj z).symm)
     ·rw[hH,List.take_of_length_le (by rw[hfl,hnf];exact Nat.le_refl _)]
     ·rw[hnf,<-hfl,rs.len]
    ·cases e
   ·cases e
  |ret w2=>rw[ed]at e;cases e
  |retn xs=>rw[ed]at e;cases e
  |reti w x=>rw[ed]at e;cases e
  |brk _=>rw[ed]at e;cases e
  |cnt _=>rw[ed]at e;cases e
  |bad=>rw[ed]at e;cases e
  |exc _=>rw[ed]at e;cases e
structure rR(P:Program)(w:World)(K:Fg)(mg:Str->Option Value)(base:Bs)(G:Pg)(k:Nat)(x:Str)(c:Nat)(ms:List Bool)(g:List PV->Rx PV):Prop where
 glob:mg x=some (.ref (G.cA c))
 cl:iQ K (G.cA c)
 ex:∃(f:Addr) (fd:FuncData) (ps:List Str),Mk K (G.cA c) f/\bM P w K mg base fS k f fd ps (mU K G c ms g)/\bj K fd ps []
section
variable{X:Cx}{G:Pg}{e a b o tg:Expr}{es:List Expr}{da db:DP}{d:DA}{pos p:Pos}{x:Str}{k i c:Nat}{ms:List Bool}{g:List PV->Rx PV}
theorem pL{t:TA}(h:rR X.prog X.w X.K X.mg X.base G k x c ms g)(hr:bf (k+1) X.A)(hg:Gl X x)(ha:PA X (e::es) t)(hdb:.(O)=false:=by decide)
  (he:starEach (e::es) X.env=.(Af)::starEach es X.env:=by rfl) (hpl:.(Z).any (·.1)=false:=by rfl):PE X .(Ab) (pZ (G.cA c) (mU X.K G c ms g) [] E0 t):=by
 obtain⟨f,fd,ps,M,F,hb⟩:=h.ex
 exact oP M F hr hg h.glob hb .nil j5 ha hdb he hpl
theorem pM{H:Hp}{Q:VK}{cf:Fr}{ow:Ows}{ps:aH}{σ :L2.St}{ws:List PV}{vs:List V}{fs:List PV}(R:aN X.K G cf H ow ps σ)(r:dB X.K G H (av cf ow) ms ws vs)(e:g ws= .ok (.obj c fs))
  (q:∀x dx us H',Same H H'->H x=none->H' x=some (.ins (G.cA c) dx ((G.fN c).zip us))->(G.fN c).length=us.length->az X.K G H' (fun a=>av cf ow a\/a=x) fs us->Q (.ref x) H') :
  ∀x dx,H x=none->H dx=none->dx≠x->mU X.K G c ms g (.ref x::(vs++[])) (upd (upd H dx (.own x)) x (.ins (G.cA c) dx [])) (fun v H2=>v= .non/\Q (.ref x) H2) E0:=by
 intro x dx n1 n2 ne
 have sn:Same H (upd (upd H dx (.own x)) x (.ins (G.cA c) dx [])):=fun b o h=>by rw[ay (aU h n1),ay (aU h n2)];exact h
 exact⟨av cf ow,H,ws,x,dx,vs,fs,by rw[List.append_nil],aE,n1,sn,R.used,r,e,fun H' dx' vs' s h1 h2 h3=>⟨rfl,q x dx' vs' H' s n1 h1 h2 h3⟩⟩
theorem k7(h:rR X.prog X.w X.K X.mg X.base G k x c ms g)(hr:bf (k+1) X.A)(hg:Gl X x)(ha:JA X G ms (e::es) d)(hobj:∀ws w,g ws= .ok w->∃fs,w= .obj c fs)(hdb:.(O)=false:=by decide)
  (he:starEach (e::es) X.env=.(Af)::starEach es X.env:=by rfl) (hpl:.(Z).any (·.1)=false:=by rfl):JP X G .(Ab) (ad g d) :=
 imp (pL h hr hg ha hdb he hpl) fun σ H Q ⟨cf,ow,ps,w,R,e,q⟩=>by
  obtain⟨ws,e1,e2⟩:=ak e
  obtain⟨fs,rfl⟩:=hobj ws w e2
  refine⟨cf,ow,ps,ws,R,e1,fun vs H' s r=> ?_⟩
  refine pM (R.grow s) r e2 fun xx dx us H2 s2 n1 h1 h2 h3=> ?_
  exact q _ H2 (s.trans s2) ⟨xx,dx,us,rfl,h1,h2,fun z=>(R.grow s).used xx z n1,(Kp.weak fun a z=>Or.inl z).reps h3⟩
theorem mV{k nf n:Nat}{ms:List Bool}{d:DS}{ws:List PV}{w:PV}(h:jZ k nf ms n d ws= .ok w):∃fs,w= .obj k fs:=by
 unfold jZ at h
 split at h
 ·split at h
  ·split at h
   ·split at h
    ·cases h;exact⟨_,rfl⟩
    ·cases h
   ·cases h
  ·cases h
  ·cases h
 ·cases h
theorem ly{P:Program}{w:World}{K:Fg}{mg:Str->Option Value}{base:Bs}{n:Nat}{f:Addr}{fd:FuncData}{ps:List Str}{g:List PV->Rx PV}(h:∀ws,g ws= .bad):bM P w K mg base fS n f fd ps (mU K G c ms g) :=
 kt fun vs H Q E ⟨A,H1,ws,x,dx,us,fs,_,_,_,_,_,_,e,_⟩=>by rw[h]at e;cases e
variable(ps:aH)
@[simp]theorem Au(k j:Nat):jh k j da ps=match ps[(0:Nat)]? with
 |some (.ini k' xs)=>if k'=k/\xs.length=j then(da ps).st fun w=> .nx (ps.set 0 (.ini k (xs++[w]))) else .bad
 |_=> .bad:=rfl
@[simp]theorem yC(l:List (Nat×Nat))(i:Nat):v5 l i ps=match ps[i]? with
 |some (.ino (.obj k xs))=>aZ l (.obj k xs)
 |some (.own (.obj k xs))=>aZ l (.obj k xs)
 |some (.bor (.obj k xs))=>aZ l (.obj k xs)
 |some (.ini k xs)=>aZ l (.obj k xs)
 |some (.v (.obj k xs))=>aZ l (.obj k xs)
 |_=> .bad:=rfl
end
section
variable{K:Fg}{G:Pg}{H H':Hp}{A A':Av}{c:Fr}{ow:Ows}{ps:aH}{σ :L2.St}
end
section
variable{X:Cx}{G:Pg}{e a b o tg:Expr}{es:List Expr}{da db:DP}{d:DA}{dm:DM}{dma:kv}{ds du:DS}{dt:DT}{pos p apos cpos:Pos}{x m:Str}{k i:Nat}{ms:List Bool}
end
section
variable{X:Cx}{G:Pg}{e a b o tg:Expr}{es:List Expr}{da db:DP}{d:DA}{dm:DM}{dma:kv}{ds du:DS}{dt:DT}{pos p apos cpos:Pos}{x m:Str}{k i:Nat}{ms:List Bool}
abbrev lM:=aH->Rx (Bool×aH)
noncomputable def AV(d:DM):lM:=fun ps=>(d ps).bind fun r=>match r.1 with | .bl b=> .ok (b,r.2)|_=> .bad
noncomputable def yD(d:DT):lM:=fun ps=>(d ps).bind fun b=> .ok (b,ps)
noncomputable def yE(d:lM):lM:=fun ps=>(d ps).bind fun r=> .ok (!r.1,r.2)
noncomputable def AW(t u:lM):lM:=fun ps=>(t ps).bind fun r=>if r.1=true then .ok (true,r.2) else u r.2
noncomputable def yF(t u:lM):lM:=fun ps=>(t ps).bind fun r=>if r.1=true then u r.2 else .ok (false,r.2)
noncomputable def yG(t:lM)(a b:DS):DS:=fun ps=>(t ps).st fun r=>if r.1=true then a r.2 else b r.2
noncomputable def kK(t:lM)(body:DS):Nat->aH->Option Rs
 |0,_=>none
 |n+1,ps=>match t ps with
  |.ok (true,ps1)=>(match body ps1 with
   |.nx ps2=>kK t body n ps2
   |.cnt ps2=>kK t body n ps2
   |.brk ps2=>some (.nx ps2)
   |r=>some r)
  |.ok (false,ps1)=>some (.nx ps1)
  |.bad=>some .bad
  |.exc c=>some (.exc c)
def pN(t:lM)(body:DS):DS:=fun ps=>(kK t body 100000 ps).getD .bad
noncomputable def yH(c n:Nat)(d:kv):DM:=fun ps=>(d ps).bind fun r=>if r.1.length=n then .ok (.obj c r.1,r.2) else .bad
end
section
open PySem.StrLaws PySem.Builtin PySem.Builtin.Str
end
section
variable{X:Cx}{G:Pg}{e a b o tg:Expr}{es:List Expr}{da db:DP}{d:DA}{pos p apos cpos:Pos}{x m:Str}{k i:Nat}{ms:List Bool}
end
section
variable{P:Program}{w:World}{K:Fg}{mg:Str->Option Value}{base:Bs}{G:Pg}{n:Nat}{m:Str}{ms:List Bool}
end
@[simp]theorem yI(xs:List PV):(Ow.lst xs).pv= .lst xs:=rfl
@[simp]theorem wF(k:Nat)(xs:List PV):(Ow.obj k xs).pv= .obj k xs:=rfl
@[simp]theorem yJ(ks:List Key)(xs:List PV):(Ow.dic ks xs).pv= .dic ks xs:=rfl
section
variable{P:Program}{w:World}{K:Fg}{mg:Str->Option Value}{base:Bs}{G:Pg}{H:Hp}{A:Av}
end
section
variable{X:Cx}{G:Pg}{e a b o:Expr}{es:List Expr}{da db:DP}{d:DA}{ds:DS}{pos p apos:Pos}{x m:Str}{k i:Nat}{ms:List Bool}{tab:List (Nat×Nat)}{g:Nat->List PV->Rx PV}
noncomputable def pO(tab:List (Nat×Nat))(g:Nat->List PV->Rx PV)(x:PV)(m:Rx (List PV)):Rx PV:=match x with
 |.clo f cw=>(match tab.lookup f with|some np=>m.bind fun ws=>if ws.length=np then g f (ws++cw) else .bad|none=> .bad)
 |_=> .bad
noncomputable def rS(tab:List (Nat×Nat))(g:Nat->List PV->Rx PV)(a:DP)(d:DA):DP:=fun ps=>(a ps).bind fun y=>pO tab g y (d ps)
noncomputable def rT(tab:List (Nat×Nat))(g:Nat->List PV->Rx PV)(l:List (Nat×Nat))(a:DP)(d:DA):DP:=fun ps=>(a ps).bind fun x=>(aZ l x).bind fun y=>pO tab g y (d ps)
noncomputable def ji(js:List Nat)(ps:aH):Rx (List PV):=match js with
 |[]=> .ok []
 |j::js=>match ps[j]? with
  |some (.v w)=>(ji js ps).bind fun ws=> .ok (w::ws)
  |_=> .bad
def yK(f:Nat)(js:List Nat):DP:=fun ps=>(ji js ps).bind fun ws=> .ok (.clo f ws)
noncomputable def yL(i f:Nat)(js:List Nat):DS:=fun ps=>(ji js ps).st fun ws=> .nx (ps.set i (.v (.clo f ws)))
def v6(d:DS):DS:=fun ps=>match d ps with | .ret w=> .ret w | .exc c=> .exc c|_=> .bad
end
section
variable{P:Program}{w:World}{K:Fg}{mg:Str->Option Value}{base:Bs}{G:Pg}
end
section
variable(ps:aH)(a:DP)(d:DA)(tab l:List (Nat×Nat))(g:Nat->List PV->Rx PV)
@[simp]theorem wG:rS tab g a d ps=(a ps).bind fun y=>pO tab g y (d ps):=rfl
@[simp]theorem wH:rT tab g l a d ps=(a ps).bind fun x=>(aZ l x).bind fun y=>pO tab g y (d ps):=rfl
@[simp]theorem Aw(f:Nat)(js:List Nat):yK f js ps=(ji js ps).bind fun ws=> .ok (.clo f ws):=rfl
@[simp]theorem Ax(i f:Nat)(js:List Nat):yL i f js ps=(ji js ps).st fun ws=> .nx (ps.set i (.v (.clo f ws))):=rfl
@[simp]theorem yM(s:DS):v6 s ps=match s ps with | .ret w=> .ret w | .exc c=> .exc c|_=> .bad:=rfl
@[simp]theorem v7:ji [] ps= .ok []:=rfl
@[simp]theorem t7(j:Nat)(js:List Nat):ji (j::js) ps=match ps[j]? with|some (.v w)=>(ji js ps).bind fun ws=> .ok (w::ws)|_=> .bad:=rfl
end
instance:Inhabited om:=⟨⟨{ posonlyargs:=[],args:=[],vararg:=none,kwonlyargs:=[],kw_defaults:=[],kwarg:=none,defaults:=[] },.stmts [],{ kind:= .function,names:=[],isGenerator:=false,isCoroutine:=false },[]⟩⟩
end DN
end
section
namespace L2
open PySem PySem.Spec PyProof.Rows
end L2
namespace DN
open PySem PySem.Spec PyProof.Rows L2
section
variable{X:Cx}{G:Pg}{e a b o tg:Expr}{es:List Expr}{body:List Stmt}{da db:DP}{d:DA}{ds:DS}{pos p apos cpos:Pos}{x m:Str}{k i:Nat}{ms:List Bool}
end
section
variable(ps:aH)(a:DP)(d:DA)(dma:kv)(dm:DM)(t u:lM)(dt:DT)(s r:DS)
@[simp]theorem yN(c n:Nat):yH c n dma ps=(dma ps).bind fun r=>if r.1.length=n then .ok (.obj c r.1,r.2) else .bad:=rfl
@[simp]theorem Ay:AV dm ps=(dm ps).bind fun r=>match r.1 with | .bl b=> .ok (b,r.2)|_=> .bad:=rfl
@[simp]theorem yO:yD dt ps=(dt ps).bind fun b=> .ok (b,ps):=rfl
@[simp]theorem yP:yE t ps=(t ps).bind fun r=> .ok (!r.1,r.2):=rfl
@[simp]theorem Az:AW t u ps=(t ps).bind fun r=>if r.1=true then .ok (true,r.2) else u r.2:=rfl
@[simp]theorem yQ:yF t u ps=(t ps).bind fun r=>if r.1=true then u r.2 else .ok (false,r.2):=rfl
@[simp]theorem AA:yG t s r ps=(t ps).st fun x=>if x.1=true then s x.2 else r x.2:=rfl
@[simp]theorem v8:pN t s ps=(kK t s 100000 ps).getD .bad:=rfl
end
end DN
end
section
namespace L2
open PySem PySem.Spec PyProof.Rows PySem.Builtin PySem.Builtin.Str
end L2
namespace DN
open PySem PySem.Spec PyProof.Rows L2
section
variable{X:Cx}{G:Pg}{e:Expr}{da:DP}{pos:Pos}
noncomputable def va(d:DP)(dl dh:aH->Rx (Option Int)):DP:=fun ps=>(d ps).bind fun x=>(dl ps).bind fun lo=>(dh ps).bind fun hi=>match x with
 |.str z=>if (PySem.StrLaws.sliceText z lo hi).length<=sizeLine then .ok (.str (PySem.StrLaws.sliceText z lo hi)) else .bad
 |_=> .bad
@[simp]theorem yR(ps:aH)(dl dh:aH->Rx (Option Int)):va da dl dh ps=(da ps).bind fun x=>(dl ps).bind fun lo=>(dh ps).bind fun hi=>match x with
 |.str z=>if (PySem.StrLaws.sliceText z lo hi).length<=sizeLine then .ok (.str (PySem.StrLaws.sliceText z lo hi)) else .bad
 |_=> .bad:=rfl
end
end DN
end
section
namespace L2
open PySem PySem.Spec PyProof.Rows PySem.Builtin PySem.Builtin.Str
section
variable{X:Cx}
end
end L2
namespace DN
open PySem PySem.Spec PyProof.Rows L2
section
variable{X:Cx}{G:Pg}{o e a b c:Expr}{da db dc:DP}{pos apos cpos:Pos}
def yS(d:DP):DP:=fun ps=>(d ps).bind fun x=>match x with | .int i=> .ok (.int (Builtin.bitNot i))|_=> .bad
noncomputable def rU(f g:PV->PV->Rx PV)(a b c:DP):DP:=fun ps=>(a ps).bind fun x=>(b ps).bind fun y=>(f x y).bind fun z=>match z with | .bl true=>(c ps).bind fun w=>g y w | .bl false=> .ok (.bl false)|_=> .bad
end
section
variable(ps:aH)(a b c:DP)(f g:PV->PV->Rx PV)
@[simp]theorem wI:rU f g a b c ps=(a ps).bind fun x=>(b ps).bind fun y=>(f x y).bind fun z=>match z with | .bl true=>(c ps).bind fun w=>g y w | .bl false=> .ok (.bl false)|_=> .bad:=rfl
@[simp]theorem AB:yS a ps=(a ps).bind fun x=>match x with | .int i=> .ok (.int (Builtin.bitNot i))|_=> .bad:=rfl
end
end DN
end
section
namespace L2
open PySem PySem.Spec PyProof.Rows
section
variable{X:Cx}
end
end L2
namespace DN
open PySem PySem.Spec PyProof.Rows L2
section
variable{X:Cx}{G:Pg}{o e a b c:Expr}{da db dc:DP}{pos apos cpos:Pos}
noncomputable def yT:PV->PV->Rx PV
 |.bl b,.bl c=> .ok (.bl (b == c))
 |_,_=> .bad
noncomputable def vb:PV->PV->Rx PV
 |.bl b,.bl c=> .ok (.bl (!(b == c)))
 |_,_=> .bad
noncomputable def vc(i:Nat)(d:DS):DS:=fun ps=>match ps[i]? with|some (.own y)=>d (ps.set i (.v y.pv))|_=>d ps
end
section
variable(ps:aH)(i:Nat)(d:DS)
@[simp]theorem wJ:vc i d ps=match ps[i]? with|some (.own y)=>d (ps.set i (.v y.pv))|_=>d ps:=rfl
@[simp]theorem AC(b c:Bool):yT (.bl b) (.bl c)= .ok (.bl (b == c)):=rfl
@[simp]theorem yU(b c:Bool):vb (.bl b) (.bl c)= .ok (.bl (!(b == c))):=rfl
end
section
variable{K:Fg}{G:Pg}{H H':Hp}{A A':Av}{c:Fr}{ow:Ows}{ps:aH}{σ :L2.St}
def kL:Sl->Bool
 |.als _ _=>true
 |.rgn _=>true
 |_=>false
def qm:Sl->Sl
 |.als _ _=> .no
 |.rgn _=> .no
 |s=>s
end
section
variable{X:Cx}{G:Pg}{e ke value:Expr}{da db dk dv:DP}{d:DA}{ds:DS}{pos pos' p tpos:Pos}{x y:Str}{i j:Nat}
noncomputable def rV(i:Nat)(dk:DP)(d:DA):DS:=fun ps=>(d ps).st fun ws=>(dk ps).st fun y=>match ps[i]?,iK y with
 |some (.own (.dic [] [])),some k=>if ps.any kL=false then .nx (ps.set i (.dol [k] [ws])) else .bad
 |some (.dol ks xss),some k=>if ps.any kL=false/\ks.length=xss.length/\ks.length<999/\Ap ks k=false then .nx (ps.set i (.dol (ks++[k]) (xss++[ws]))) else .bad
 |_,_=> .bad
noncomputable def yV:List Key->Key->Nat->Option Nat
 |[],_,_=>none
 |k'::ks,k,n=>if k'=k then some n else yV ks k (n+1)
noncomputable def yW(i j:Nat)(dk:DP):DS:=fun ps=>(dk ps).st fun y=>match ps[j]?,iK y with
 |some (.dol ks xss),some k=>(match yV ks k 0 with|some m=> .nx (ps.set i (.als j m))|none=> .bad)
 |_,_=> .bad
noncomputable def yX(i:Nat):DP:=fun ps=>match ps[i]? with
 |some (.als d j)=>(match ps[d]? with
  |some (.dol _ xss)=>(match xss[j]? with|some xs=> .ok (.lst xs)|none=> .bad)
  |_=> .bad)
 |_=> .bad
noncomputable def vd(i:Nat)(dk dv:DP):DS:=fun ps=>(dv ps).st fun w=>(dk ps).st fun y=>match ps[i]?,y with
 |some (.als d j),.int n=>(match ps[d]? with
  |some (.dol ks xss)=>(match xss[j]? with
   |some xs=>(match oT xs.length n with|some m=> .nx (ps.set d (.dol ks (xss.set j (xs.set m w))))|none=> .bad)
   |none=> .bad)
  |_=> .bad)
 |_,_=> .bad
noncomputable def ve(i:Nat)(d:DS):DS:=fun ps=>match ps[i]? with
 |some (.dol ks xss)=>d ((ps.map qm).set i (.v (.dic ks (xss.map PV.lst))))
 |_=>d ps
end
section
variable(ps:aH)(i j:Nat)(dk dv:DP)(d:DA)(ds:DS)
@[simp]theorem vf:pA i ps=match ps[i]? with|some (.bor (.lst xs))=> .ok xs|_=> .bad:=rfl
@[simp]theorem wK:rV i dk d ps=(d ps).st fun ws=>(dk ps).st fun y=>match ps[i]?,iK y with
 |some (.own (.dic [] [])),some k=>if ps.any kL=false then .nx (ps.set i (.dol [k] [ws])) else .bad
 |some (.dol ks xss),some k=>if ps.any kL=false/\ks.length=xss.length/\ks.length<999/\Ap ks k=false then .nx (ps.set i (.dol (ks++[k]) (xss++[ws]))) else .bad
 |_,_=> .bad:=rfl
@[simp]theorem yY:yW i j dk ps=(dk ps).st fun y=>match ps[j]?,iK y with
 |some (.dol ks xss),some k=>(match yV ks k 0 with|some m=> .nx (ps.set i (.als j m))|none=> .bad)
 |_,_=> .bad:=rfl
@[simp]theorem yZ:yX i ps=match ps[i]? with
 |some (.als d j)=>(match ps[d]? with
  |some (.dol _ xss)=>(match xss[j]? with|some xs=> .ok (.lst xs)|none=> .bad)
  |_=> .bad)
 |_=> .bad:=rfl
@[simp]theorem z0:vd i dk dv ps=(dv ps).st fun w=>(dk ps).st fun y=>match ps[i]?,y with
 |some (.als d j),.int n=>(match ps[d]? with
  |some (.dol ks xss)=>(match xss[j]? with
   |some xs=>(match oT xs.length n with|some m=> .nx (ps.set d (.dol ks (xss.set j (xs.set m w))))|none=> .bad)
   |none=> .bad)
  |_=> .bad)
 |_,_=> .bad:=rfl
@[simp]theorem z4:ve i ds ps=match ps[i]? with
 |some (.dol ks xss)=>ds ((ps.map qm).set i (.v (.dic ks (xss.map PV.lst))))
 |_=>ds ps:=rfl
end
noncomputable def lz:List PV->Option (List Key)
 |[]=>some []
 |y::ys=>match iK y,lz ys with|some k,some ks=>some (k::ks)|_,_=>none
noncomputable def mW{α :Type}:List (List Key)->List α ->List Key->Option α
 |k'::ks,x::xs,k=>if k'=k then some x else mW ks xs k
 |_,_,_=>none
def wL(ks:List (List Key))(k:List Key):Bool:=ks.any fun k'=>decide (k'=k)
section
variable{K:Fg}{G:Pg}{H:Hp}{A:Av}
end
section
variable{X:Cx}{G:Pg}{o value:Expr}{es:List Expr}{da dv:DP}{dk:DA}{ds:DS}{pos pos' p tp tpos:Pos}{x:Str}{i:Nat}{ms:List Bool}
noncomputable def rW(i:Nat):DS:=fun ps=>if i<ps.length then .nx (ps.set i (.own (.dit [] []))) else .bad
noncomputable def rX(i:Nat)(dk:DA)(dv:DP):DS:=fun ps=>(dv ps).st fun w=>(dk ps).st fun ys=>match ps[i]?,lz ys with
 |some (.own (.dit ks xs)),some k=>if ks.length<10000/\wL ks k=false then .nx (ps.set i (.own (.dit (ks++[k]) (xs++[w])))) else .bad
 |_,_=> .bad
noncomputable def rY(da:DP)(dk:DA):DP:=fun ps=>(da ps).bind fun z=>(dk ps).bind fun ys=>match z,lz ys with
 |.dit ks xs,some k=>(match mW ks xs k with|some w=> .ok w|none=> .bad)
 |_,_=> .bad
end
section
variable(ps:aH)(i:Nat)(da dv:DP)(dk:DA)
@[simp]theorem wM:rW i ps=if i<ps.length then .nx (ps.set i (.own (.dit [] []))) else .bad:=rfl
@[simp]theorem wN:rX i dk dv ps=(dv ps).st fun w=>(dk ps).st fun ys=>match ps[i]?,lz ys with
 |some (.own (.dit ks xs)),some k=>if ks.length<10000/\wL ks k=false then .nx (ps.set i (.own (.dit (ks++[k]) (xs++[w])))) else .bad
 |_,_=> .bad:=rfl
@[simp]theorem wO:rY da dk ps=(da ps).bind fun z=>(dk ps).bind fun ys=>match z,lz ys with
 |.dit ks xs,some k=>(match mW ks xs k with|some w=> .ok w|none=> .bad)
 |_,_=> .bad:=rfl
end
end DN
end
section
namespace L2
open PySem PySem.Spec PyProof.Rows PySem.W
section
variable{I:Shared->Prop}{α β :Type}
end
section
variable{e:Addr}
end
section
variable{M:Model}{A:Around}{E:Value->Shared->Prop}{s:Shared}{base:Heap}{env:Env}{outer l:List Env}{L e:Addr}{cls a0:Value}{Q:Unit->Shared->Prop}
end
section
variable{prog:Program}{w:World}
end
section
variable{prog:Program}{w:World}{A:Around}{E:Value->Shared->Prop}{s:Shared}{env:Env}
variable{nm q:Str}{C N hd:Addr}{bs bm bmB:List Value}{hdct:Bool}{sn:List Str}{sub:List Value}{ab:Bool}{col:Option Bool}{dd:Option Addr}{k0 k1 k2 k3 k5:Option Value}{B newId initId:String}
end
end L2
end
section
namespace L2
open PySem PySem.Spec PyProof.Rows
section
variable{P:Program}{w:World}{K:Fg}{mg:Str->Option Value}{base:Bs}{N:List Str}{qual:Str}{scope:Scope}{f:Addr}{cd:Value}{A:Around}{outer:List Env}{s0:Shared}{H0:Hp}{E E':XK}
end
section
variable{X:Cx}
end
section
variable{X:Cx}{pins:List (Addr×Obj)}{σ :St}{H:Hp}{s:Shared}{e:Value}
end
end L2
end
section
namespace DN
open PySem PySem.Spec PyProof.Rows L2
def Rx.at{α :Type}(r:Rx α)(Q: α ->Prop)(E:Nat->Prop):Prop:=match r with | .ok a=>Q a | .exc k=>E k | .bad=>False
def k8:Rs->Rs
 |.exc _=> .bad
 |r=>r
@[simp]theorem wP(ps:aH):k8 (.nx ps)= .nx ps:=rfl
@[simp]theorem vg(w:PV):k8 (.ret w)= .ret w:=rfl
@[simp]theorem t8(w:List PV):k8 (.retn w)= .retn w:=rfl
@[simp]theorem t9(w:PV)(x:Ow):k8 (.reti w x)= .reti w x:=rfl
@[simp]theorem vh(ps:aH):k8 (.brk ps)= .brk ps:=rfl
@[simp]theorem vi(ps:aH):k8 (.cnt ps)= .cnt ps:=rfl
@[simp]theorem vj:k8 .bad= .bad:=rfl
def vk{α :Type}:Rx α ->Rx α
 |.exc _=> .bad
 |r=>r
@[simp]theorem wQ{α :Type}(a: α):vk (.ok a)= .ok a:=rfl
@[simp]theorem vm{α :Type}:vk (.bad:Rx α)= .bad:=rfl
section
variable{X:Cx}{G:Pg}{E:XK}{e a b o tg:Expr}{es:List Expr}{d:DA}{ds du:DS}{dt:DT}{st:Stmt}{rest:List Stmt}{pos p:Pos}{x m:Str}{k i:Nat}{ms:List Bool}
end
def qo(ks:List (List Key))(k:List Key):List (List Key):=if wL ks k=true then ks else ks++[k]
noncomputable def qp{α :Type}(ks:List (List Key))(xs:List α)(k:List Key)(w: α):List α :=if wL ks k=true then List.zipWith (fun k' x=>if k'=k then w else x) ks xs else xs++[w]
def kM:PV->Option (List Key)
 |.tup ys=>lz ys
 |_=>none
section
variable{X:Cx}{G:Pg}{a b e f o ke value:Expr}{es:List Expr}{da db dk dv dd:DP}{ds:DS}{pos pos' p tp tpos apos cpos:Pos}{x:Str}{i:Nat}{ms:List Bool}
noncomputable def rZ(i:Nat)(dk dv:DP):DS:=fun ps=>(dv ps).st fun w=>(dk ps).st fun y=>match ps[i]?,kM y with
 |some (.own (.dit ks xs)),some k=>if ks.length<10000 then .nx (ps.set i (.own (.dit (qo ks k) (qp ks xs k w)))) else .bad
 |_,_=> .bad
noncomputable def se(da db dd:DP):DP:=fun ps=>(da ps).bind fun x=>(db ps).bind fun y=>(dd ps).bind fun z=>match x,kM y with
 |.dit ks xs,some k=>if ks.length=xs.length then .ok ((mW ks xs k).getD z) else .bad
 |_,_=> .bad
noncomputable def sf(i:Nat)(dk dv:DP):DS:=fun ps=>(dk ps).st fun y=>(dv ps).st fun w=>match iK y with
 |some k=>if i<ps.length/\sV w=true then .nx (ps.set i (.own (.dic [k] [w]))) else .bad
 |none=> .bad
end
section
variable(ps:aH)(i:Nat)(da db dk dv dd:DP)
@[simp]theorem wR:rZ i dk dv ps=(dv ps).st fun w=>(dk ps).st fun y=>match ps[i]?,kM y with
 |some (.own (.dit ks xs)),some k=>if ks.length<10000 then .nx (ps.set i (.own (.dit (qo ks k) (qp ks xs k w)))) else .bad
 |_,_=> .bad:=rfl
@[simp]theorem wS:se da db dd ps=(da ps).bind fun x=>(db ps).bind fun y=>(dd ps).bind fun z=>match x,kM y with
 |.dit ks xs,some k=>if ks.length=xs.length then .ok ((mW ks xs k).getD z) else .bad
 |_,_=> .bad:=rfl
@[simp]theorem wT:sf i dk dv ps=(dk ps).st fun y=>(dv ps).st fun w=>match iK y with
 |some k=>if i<ps.length/\sV w=true then .nx (ps.set i (.own (.dic [k] [w]))) else .bad
 |none=> .bad:=rfl
end
end DN
end
section
namespace L2
open PySem PySem.Spec PyProof.Rows
end L2
namespace DN
open PySem PySem.Spec PyProof.Rows L2
section
variable{X:Cx}{G:Pg}{da:DP}{ds:DS}{pos p cpos:Pos}
noncomputable def k9(d:DP):DA:=fun ps=>(d ps).bind fun x=>match x with | .str y=> .ok (dE 0 (wD y))|_=> .bad
def sh(d:DP)(g:DG)(body:DS):DS:=sFor (k9 d) g body
end
@[simp]theorem wU(da:DP)(ds:DS)(ps:aH)(g:DG):sh da g ds ps=(k9 da ps).st fun ws=>bW g ds ws ps:=rfl
@[simp]theorem wV(da:DP)(ps:aH):k9 da ps=(da ps).bind fun x=>match x with | .str y=> .ok (dE 0 (wD y))|_=> .bad:=rfl
end DN
namespace L2
open PySem PySem.Spec PyProof.Rows
section
variable{P:Program}{w:World}{K:Fg}{mg:Str->Option Value}{base:Bs}{C f:Addr}{fd:FuncData}{qual:Str}{st:Stmt}
end
end L2
namespace DN
open PySem PySem.Spec PyProof.Rows L2
def gr(K:Fg)(X:Value):List Value->List (Nat×Bool)->Prop
 |v::vs,(_,b)::ps=>PySem.W.kitOne K v X=some b/\gr K X vs ps
 |_,_=>True
theorem bR{K:Fg}{G:Pg}{cv:Value}{N:Nat}(hC:∀c,c<N->jb K (G.cA c)):∀{l:List (Nat×Bool)} {vs:List Value},gr K cv vs l->vs=l.map (fun p=>jT G p.1)->(∀p∈l,p.1<9\/(10<=p.1/\p.1<N+10))->bU K G cv l
 |[],_,_,_,_=>rH
 | (q,b)::l,vs,h,e,d=>by
  subst e
  have r:=bR hC (l:=l) h.2 rfl fun p hp=>d p (List.mem_cons_of_mem _ hp)
  rcases d (q,b) List.mem_cons_self with h9|⟨h10,hn⟩
  ·exact pF h.1 h9 r
  ·obtain⟨c,rfl⟩:∃c,q=c+10:=⟨q-10,by simp at h10;omega⟩
   exact mG h.1 (hC c (by simp at hn;omega)) r
end DN
end
section
namespace L2
open PySem PySem.Spec PyProof.Rows
section
variable{prog:Program}{w:World}{A:Around}{E:Value->Shared->Prop}{s:Shared}
end
section
variable{prog:Program}{w:World}{A:Around}{s:Shared}{K:Type}[DecidableEq K]{knd:KeyKind prog w K}{key:Nat->K}
end
end L2
namespace PySem
open Sem (wp)
section
variable{prog:Program}{w:World}{A:Around}{E:Value->Shared->Prop}{h:Heap}{g:Array GenState}{d:Drawn}{t:Nat}{os:OsState}{a:Addr}{vs:Array Value}
end
end PySem
namespace L2
open PySem PySem.Spec PyProof.Rows
section
variable{prog:Program}{w:World}{A:Around}{E:Value->Shared->Prop}{s:Shared}{K:Type}[DecidableEq K]{knd:KeyKind prog w K}{key:Nat->K}
end
end L2
namespace DN
open PySem PySem.Spec PyProof.Rows L2
noncomputable def nK:Nat->Nat->List Key
 |_,0=>[]
 |j,n+1=> .inl (j:Int)::nK (j+1) n
end DN
namespace L2
open PySem PySem.Spec PyProof.Rows DN
end L2
namespace DN
open PySem PySem.Spec PyProof.Rows L2
noncomputable def AX(d:DP):DP:=fun ps=>(d ps).bind fun x=>match x with | .lst xs=> .ok (.dic (nK 0 xs.length) xs)|_=> .bad
section
variable{X:Cx}{G:Pg}{da:DP}{ds:DS}{pos p pos2 p2 cpos apos:Pos}
def AY:Key->PV
 |.inl i=> .int i
 |.inr x=> .str x
noncomputable def z5:List Key->List PV->List PV
 |k::ks,x::xs=> .tup [AY k,x]::z5 ks xs
 |_,_=>[]
noncomputable def si(d:DP):DA:=fun ps=>(d ps).bind fun x=>match x with | .dic ks xs=>if ks.length=xs.length then .ok (z5 ks xs) else .bad|_=> .bad
def sj(d:DP)(g:DG)(body:DS):DS:=sFor (si d) g body
end
@[simp]theorem wW(da:DP)(ds:DS)(ps:aH)(g:DG):sj da g ds ps=(si da ps).st fun ws=>bW g ds ws ps:=rfl
@[simp]theorem AE(da:DP)(ps:aH):si da ps=(da ps).bind fun x=>match x with | .dic ks xs=>if ks.length=xs.length then .ok (z5 ks xs) else .bad|_=> .bad:=rfl
@[simp]theorem sk(da:DP)(ps:aH):AX da ps=(da ps).bind fun x=>match x with | .lst xs=> .ok (.dic (nK 0 xs.length) xs)|_=> .bad:=rfl
section
variable{X:Cx}{G:Pg}{e:Expr}{db:DP}{pos apos cpos:Pos}{x:Str}
end
def sr:List Key->Key->Option Nat
 |[],_=>none
 |a::ks,k=>if a=k then some 0 else(sr ks k).map (· + 1)
section
variable{X:Cx}{G:Pg}{ke:Expr}{dk:DP}{pos p tpos apos cpos:Pos}{x:Str}{i:Nat}
def vn(i:Nat)(dk:DP):DM:=fun ps=>(dk ps).bind fun y=>match ps[i]?,iK y with
 |some (.dol ks xss),some k=>(match sr ks k with
  |some j=>if j<xss.length then .ok (.non,ps.set i (.dol ks (xss.set j []))) else .bad
  |none=> .bad)
 |_,_=> .bad
end
section
variable{X:Cx}{G:Pg}{ke a b:Expr}{dk da db:DP}{pos p tpos apos cpos:Pos}{x:Str}{i:Nat}
def vo(i:Nat):DM:=fun ps=>match ps[i]? with
 |some (.dol _ _)=> .ok (.non,ps.set i (.own (.dic [] [])))
 |_=> .bad
section
variable{pins:List (Addr×Obj)}{σ :L2.St}{H:Hp}{s:Shared}{A0:Av}
end
end
section
variable{X:Cx}{G:Pg}{e tg:Expr}{dm:DM}{pos:Pos}
def vp(g:DG)(d:DM):DS:=fun ps=>(d ps).st fun w=>(g w.1 w.2).st fun ps'=> .nx ps'
end
section
variable(ps:aH)(i:Nat)(dk:DP)
@[simp]theorem z6(g:DG)(d:DM):vp g d ps=(d ps).st fun w=>(g w.1 w.2).st fun ps'=> .nx ps':=rfl
@[simp]theorem z7:vn i dk ps=(dk ps).bind fun y=>match ps[i]?,iK y with
 |some (.dol ks xss),some k=>(match sr ks k with
  |some j=>if j<xss.length then .ok (.non,ps.set i (.dol ks (xss.set j []))) else .bad
  |none=> .bad)
 |_,_=> .bad:=rfl
@[simp]theorem z9:vo i ps=match ps[i]? with
 |some (.dol _ _)=> .ok (.non,ps.set i (.own (.dic [] [])))
 |_=> .bad:=rfl
end
end DN
end
section
namespace L2
open PySem PySem.Spec PyProof.Rows PySem.W PySem.Builtin PySem.Builtin.ObjectAttr PySem.Builtin.Getset_descriptor PySem.Calls
section
variable{prog:Program}{w:World}{A:Around}{E:Value->Shared->Prop}{s:Shared}{K:Frag}{C a:Addr}
end
end L2
end
section
namespace DN
open PySem PySem.Spec PyProof.Rows L2
section
variable{X:Cx}{G:Pg}{E:XK}{e a b o tg:Expr}{es:List Expr}{da db:DP}{d:DA}{dm:DM}{dma:kv}{ds du:DS}{dt:DT}{st:Stmt}{rest:List Stmt}{pos p apos cpos:Pos}{x m:Str}{k i:Nat}{ms:List Bool}
end
end DN
end
section
namespace L2
open PySem PySem.Spec PyProof.Rows
section
variable{X:Cx}{pins:List (Addr×Obj)}{σ :St}{H:Hp}{s:Shared}
end
end L2
namespace DN
open PySem PySem.Spec PyProof.Rows L2
section
variable{K:Fg}{G:Pg}{H H':Hp}{A A':Av}{c:Fr}{ow:Ows}{ps:aH}{σ :L2.St}
end
section
variable{X:Cx}{G:Pg}{e:Expr}{es:List Expr}{d:DA}{ds:DS}{da:DP}{pos p:Pos}{x:Str}{i:Nat}{ms:List Bool}
end
section
variable{P:Program}{w:World}{K:Fg}{mg:Str->Option Value}{base:Bs}{G:Pg}{n:Nat}{m:Str}{ms:List Bool}
end
def za:List PV->DA
 |[]=>dNil
 |w::ws=>dCons (dC w) (za ws)
@[simp]theorem ss:∀(ws:List PV) (ps:aH),za ws ps= .ok ws
 |[],ps=>rfl
 |w::ws,ps=>by show(za ws ps).bind _=_;rw[ss ws ps];rfl
end DN
end
section
namespace L2
open PySem PySem.Spec PyProof.Rows
section
variable{X:Cx}
end
end L2
namespace DN
open PySem PySem.Spec PyProof.Rows L2
section
variable{X:Cx}{G:Pg}{a b:Expr}{da db:DP}{pos:Pos}
end
end DN
end
section
namespace L2
open PySem PySem.Spec PyProof.Rows
section
variable{X:Cx}{pins:List (Addr×Obj)}{σ :St}{H:Hp}{s:Shared}
end
end L2
namespace DN
open PySem PySem.Spec PyProof.Rows L2
section
variable{X:Cx}{G:Pg}{E:XK}{e:Expr}{es:List Expr}{d:DA}{x:Str}{ms:List Bool}{p pos:Pos}
end
end DN
end
section
namespace L2
open PySem PySem.Spec PyProof.Rows
end L2
namespace DN
open PySem PySem.Spec PyProof.Rows L2
section
variable{X:Cx}{G:Pg}{a b:Expr}{dm:DM}{db:DP}{pos:Pos}
def m2(f:PV->PV->Rx PV)(a:DM)(b:DP):DM:=fun ps=>(a ps).bind fun x=>(b x.2).bind fun y=>(f x.1 y).bind fun w=> .ok (w,x.2)
end
section
variable{X:Cx}{G:Pg}{ms:List Bool}{x:Str}{p pos:Pos}{e:Expr}{es:List Expr}{d:DA}{ds:DS}
end
section
variable{X:Cx}{G:Pg}{E:XK}{ms:List Bool}{x:Str}{p pos:Pos}{e:Expr}{es:List Expr}{d:DA}{ds:DS}
end
mutual
def nol:PV->Bool
 |.lst _=>false
 |.dic _ _=>false
 |.dit _ _=>false
 |.dbo _ _=>false
 |.tup xs=>dF xs
 |.obj _ xs=>dF xs
 |.clo _ xs=>dF xs
 |.non=>true
 |.bl _=>true
 |.int _=>true
 |.str _=>true
 |.exn _=>true
def dF:List PV->Bool
 |[]=>true
 |x::xs=>nol x && dF xs
end
def tf(H:Hp)(a:Addr):Prop:=∃vs,H a=some (.lst vs)
section
variable{K:Fg}{G:Pg}{H H':Hp}{A A':Av}
mutual
theorem kN(hA:∀a,A' a->A a\/tf H a):∀{w:PV} {v:V},nol w=true->cW K G H A w v->cW K G H A' w v
 |.non,_,_,h=>h
 |.bl _,_,_,h=>h
 |.int _,_,_,h=>h
 |.str _,_,_,h=>h
 |.exn _,_,_,h=>h
 |.tup xs,v,n,h=>by
  rw[nol]at n
  obtain⟨a,vs,e,s,r⟩:=h
  exact⟨a,vs,e,s,eS hA n r⟩
 |.lst xs,v,n,h=>by rw[nol]at n;cases n
 |.dic _ _,v,n,h=>by rw[nol]at n;cases n
 |.dit _ _,v,n,h=>by rw[nol]at n;cases n
 |.dbo _ _,v,n,h=>by rw[nol]at n;cases n
 |.obj c xs,v,n,h=>by
  rw[nol]at n
  obtain⟨a,dx,vs,e,s,l,na,r⟩:=h
  refine⟨a,dx,vs,e,s,l,fun z=> ?_,eS hA n r⟩
  rcases hA a z with z|⟨us,z⟩
  ·exact na z
  ·rw[s]at z;cases z
 |.clo f xs,v,n,h=>by
  rw[nol]at n
  obtain⟨q,cl,vs,e,hc,hce,r⟩:=h
  exact⟨q,cl,vs,e,hc,hce,eS hA n r⟩
theorem eS(hA:∀a,A' a->A a\/tf H a):∀{ws:List PV} {vs:List V},dF ws=true->az K G H A ws vs->az K G H A' ws vs
 |[],vs,_,h=>h
 |w::ws,vs,n,h=>by
  rw[dF,Bool.and_eq_true]at n
  obtain⟨v,r,e,h1,h2⟩:=h
  exact⟨v,r,e,kN hA n.1 h1,eS hA n.2 h2⟩
end
def eT:Sl->Sl
 |.v w=>if nol w=true then .v w else .no
 |_=> .no
theorem aN.fresh0{c:Fr}{ow:Ows}{ps:aH}{σ :L2.St}(R:aN K G c H ow ps σ):aN K G ⟨H,fun a=>av c ow a\/tf H a,fun _=>False,none⟩ H iR (ps.map eT) σ :=by
 refine⟨by rw[List.length_map];exact R.len,fun a o e _=>e,fun p e=>(by cases e),fun a z=> ?_,fun a z=>z.elim,fun i p e=>(by cases e),fun i j p e=>(by cases e),fun i p e=>(by cases e),fun i s o e1 e2=> ?_⟩
 ·rcases z with z|⟨vs,z⟩
  ·exact R.used a z
  ·show H a≠none
   rw[z];simp
 ·rw[List.getElem?_map]at e1
  cases es:ps[i]? with
  |none=>rw[es]at e1;cases e1
  |some t =>
   rw[es]at e1
   have e1:eT t=s:=Option.some.inj e1
   subst e1
   have q:=R.slot i t o es e2
   cases t with
   |v w =>
    obtain⟨_,v,e3,r⟩:=q
    by_cases hn:nol w=true
    ·have ek:eT (.v w)= .v w:=if_pos hn
     rw[ek]
     refine⟨rfl,v,e3,kN (fun a z=> ?_) hn r⟩
     rcases z with z|⟨i,z⟩
     ·exact z
     ·cases z
    ·have ek:eT (.v w)= .no:=if_neg hn
     rw[ek];rfl
   |no=>rfl
   |own _=>rfl
   |bor _=>rfl
   |ino _=>rfl
   |ini _ _=>rfl
   |dol _ _=>rfl
   |als _ _=>rfl
   |rgn _=>rfl
end
section
variable{X:Cx}{G:Pg}{e:Expr}{da:DP}{dt:DT}{x:Str}{p pos:Pos}{i:Nat}
theorem pP(h:JP X G e da):PE X e (fun σ H Q=>∃(c:Fr) (ow:Ows) (ps:aH) (w:PV),aN X.K G c H ow ps σ /\da (ps.map eT)= .ok w/\ ∀v H',Same H H'->cW X.K G H' (fun a=>av c ow a\/tf H a) w v->Q v H'):=imp h fun σ H Q ⟨c,ow,ps,w,R,e,q⟩ =>
 ⟨_,iR,ps.map eT,w,R.fresh0,e,fun v H' s r=>q v H' s ((Kp.weak fun a z=>Or.inl z).rep r)⟩
def isMany:Sl->Bool
 |.als _ _=>true
 |.dol _ _=>true
 |.rgn _=>true
 |_=>false
def lA(i:Nat)(d:DP):DS:=fun ps=>if (ps.set i .no).any isMany=true then .bad else(d (ps.map eT)).st fun w=>match w with
 |.obj k [y,.lst (.lst (.tup zs::xs)::ys)]=> .nx (ps.set i (.rgn (.obj k [y,.lst (.lst (.tup zs::xs)::ys)])))
 |_=> .bad
theorem gt{ps:aH}{i j:Nat}{s:Sl}(h:(ps.set i .no).any isMany=false)(hj:j≠i)(e:ps[j]? =some s):isMany s=false:=by
 have:=List.any_eq_false.mp h s (List.mem_of_getElem? (i:=j) (by rw[List.getElem?_set_ne (fun z=>hj z.symm)];exact e))
 simpa using this
def kO(n:Nat)(ow:Ows)(i:Nat)(p1 p0:Addr):Ows:=rA (rA (dR n ow i) (vx n i 0) p1) (vx n i 1) p0
theorem fu{n i j:Nat}{ow:Ows}{p1 p0 q:Addr}(h:kO n ow i p1 p0 j=some q):q=p1/\j=vx n i 0\/q=p0/\j=vx n i 1\/ow j=some q/\j≠vx n i 0/\j≠vx n i 1:=by
 unfold kO rA at h
 split at h
 ·cases h;rename_i z;exact .inr (.inl ⟨rfl,z⟩)
 ·rename_i n1
  split at h
  ·cases h;rename_i z;exact .inl ⟨rfl,z⟩
  ·rename_i n0
   unfold dR at h
   split at h
   ·cases h
   ·exact .inr (.inr ⟨h,n0,n1⟩)
theorem su{n i j:Nat}{ow:Ows}{p1 p0:Addr}(hj:j<n)(hji:j≠i):kO n ow i p1 p0 j=ow j:=by
 unfold kO rA dR vx
 rw[if_neg (by omega),if_neg (by omega),if_neg (by omega)]
theorem vq{n i:Nat}{ow:Ows}{p1 p0:Addr}(hi:i<n):kO n ow i p1 p0 i=none:=by
 unfold kO rA dR vx
 rw[if_neg (by omega),if_neg (by omega),if_pos ⟨rfl,hi⟩]
theorem vt{n i:Nat}{ow:Ows}{p1 p0:Addr}:kO n ow i p1 p0 (vx n i 0)=some p1:=by
 unfold kO rA
 rw[if_neg (by unfold vx;omega),if_pos rfl]
theorem vv{n i:Nat}{ow:Ows}{p1 p0:Addr}:kO n ow i p1 p0 (vx n i 1)=some p0:=by
 unfold kO rA
 rw[if_pos rfl]
theorem aN.region{K:Fg}{H H':Hp}{c:Fr}{ow:Ows}{ps:aH}{σ :L2.St}(R:aN K G c H ow ps σ)(s:Same H H')(few:(ps.set i .no).any isMany=false){k:Nat}{y:PV}{zs xs ys:List PV}{v:V}(r:cW K G H' (fun a=>av c ow a\/tf H a) (.obj k [y,.lst (.lst (.tup zs::xs)::ys)]) v) :
  ∃ow',aN K G c H' ow' (ps.set i (.rgn (.obj k [y,.lst (.lst (.tup zs::xs)::ys)]))) (σ.set i (some v))/\Kp K G H (av c ow) H' (av c ow'):=by
 have r0:=r
 obtain⟨a,dx,vs,rfl,hH,hl,na,v1,_,rfl,ry,v2,_,rfl,⟨p1,us1,rfl,h1,v3,us2,rfl,⟨p0,us3,rfl,h0,v4,us4,rfl,⟨ta,tvs,rfl,ht,rt⟩,rxs⟩,rys⟩,rfl⟩:=r
 have new:∀q us,sS K H' (fun a=>av c ow a\/tf H a) q us->(¬ ∀v∈us,∃j,v=V.int j)->H' q=some (.lst us)/\H q=none:=fun q us h hn=>by
  rcases h with⟨h,n⟩|⟨_,_,h⟩|⟨_,h⟩
  ·refine⟨h,?_⟩
   cases e:H q with
   |none=>rfl
   |some o =>
    exfalso
    have:=s _ _ e
    rw[h]at this
    cases this
    exact n (.inr ⟨_,e⟩)
  ·exact absurd h hn
  ·exact absurd h hn
 obtain⟨e1,f1⟩:=new p1 _ h1 (fun z=>by obtain⟨j,z⟩:=z _ List.mem_cons_self;cases z)
 obtain⟨e0,f0⟩:=new p0 _ h0 (fun z=>by obtain⟨j,z⟩:=z _ List.mem_cons_self;cases z)
 have hne:p1≠p0:=fun z=>by
  subst z
  rw[e1]at e0
  cases e0
  rw[e1]at ht
  cases ht
 have R':=R.grow s
 have hlx:∀q,H q=none->c.lx≠some q:=fun q hq z=>(R.lent q z).2 hq
 have kp:Kp K G H (av c ow) H' (av c (kO ps.length ow i p1 p0)):=⟨fun b o h _=>s _ _ h,fun b vs h=>s _ _ h,fun b o u h=>s _ _ h,fun b hb z=>by
  rcases z with z|⟨j,z⟩
  ·exact .inl z
  ·rcases fu z with⟨rfl,_⟩|⟨rfl,_⟩|⟨z,_⟩
   ·exact absurd f1 hb
   ·exact absurd f0 hb
   ·exact .inr ⟨j,z⟩⟩
 refine⟨kO ps.length ow i p1 p0,⟨by simp[R.len],R'.same,R'.lent,R.a0,R.b0,fun j q e=> ?_,fun j j' q e e'=> ?_,fun j q h=> ?_,fun j z o g1 g2=> ?_⟩,kp⟩
 ·rcases fu e with⟨rfl,_⟩|⟨rfl,_⟩|⟨e,_⟩
  ·exact R.same.free f1 (hlx _ f1)
  ·exact R.same.free f0 (hlx _ f0)
  ·exact R.fresh j q e
 ·rcases fu e with⟨rfl,z1⟩|⟨rfl,z1⟩|⟨e1',_,_⟩ <;> rcases fu e' with⟨z2,z3⟩|⟨z2,z3⟩|⟨e2',_,_⟩
  ·rw[z1,z3]
  ·exact absurd z2 hne
  ·exact absurd f1 (R.used _ (.inr ⟨_,e2'⟩))
  ·exact absurd z2.symm hne
  ·rw[z1,z3]
  ·exact absurd f0 (R.used _ (.inr ⟨_,e2'⟩))
  ·subst z2;exact absurd f1 (R.used _ (.inr ⟨_,e1'⟩))
  ·subst z2;exact absurd f0 (R.used _ (.inr ⟨_,e1'⟩))
  ·exact R.inj j j' q e1' e2'
 ·rw[List.length_set]
  rcases fu h with⟨rfl,_⟩|⟨rfl,_⟩|⟨h,_⟩
  ·right;rw[e1];simp
  ·right;rw[e0];simp
  ·exact R'.out j q h
 ·rw[List.length_set]
  by_cases hj:j=i
  ·subst hj
   have hlt:j<ps.length:=by
    have:=(List.getElem?_eq_some_iff.mp g1).1
    rwa [List.length_set]at this
   rw[List.getElem?_set_self hlt]at g1
   rw[List.getElem?_set_self (by rw[<-R.len];exact hlt)]at g2
   cases g1
   cases g2
   refine⟨vq hlt,k,y,(.tup zs::xs),ys,a,dx,v1,p1,p0,us2,_,rfl,rfl,hH,e1,e0,vt,vv,?_⟩
   refine(Kp.weak (fun b z=> ?_)).rep r0
   obtain⟨z,n1,n0⟩:=z
   rcases z with z|⟨j',z⟩
   ·exact .inl (.inl z)
   ·rcases fu z with⟨z,_⟩|⟨z,_⟩|⟨z,_⟩
    ·exact absurd z n1
    ·exact absurd z n0
    ·exact .inl (.inr ⟨j',z⟩)
  ·rw[List.getElem?_set_ne (fun z=>hj z.symm)]at g1 g2
   have hlt:j<ps.length:=(List.getElem?_eq_some_iff.mp g1).1
   have q:=R.slot j z o g1 g2
   have ej:kO ps.length ow i p1 p0 j=ow j:=su hlt hj
   have us:∀q,ow j=some q->H' q=H q:=fun q e=>by
    cases hq:H q with
    |none=>exact absurd hq (R.used q (.inr ⟨j,e⟩))
    |some o=>exact s _ _ hq
   have ul:∀q,c.lx=some q->H' q=H q:=fun q e=>by
    cases hq:H q with
    |none=>exact absurd hq (R.lent q e).2
    |some o=>exact s _ _ hq
   have fw:=gt few hj g1
   cases z with
   |no=>show kO ps.length ow i p1 p0 j=none;rw[ej];exact q
   |v w=>obtain⟨z,v,e3,r⟩:=q;exact⟨by rw[ej];exact z,v,e3,kp.rep r⟩
   |own y=>obtain⟨p,e3,e4,r⟩:=q;exact⟨p,by rw[ej];exact e3,e4,r.keep kp (us p e3)⟩
   |bor w=>obtain⟨z,v,e3,r⟩:=q;exact⟨by rw[ej];exact z,v,e3,dA R.b0 R.same R'.same kp r⟩
   |ino y=>obtain⟨z,z2,p,e3,e4,r⟩:=q;exact⟨by rw[ej];exact z,z2,p,e3,e4,r.keep kp (ul p e4)⟩
   |ini c xs=>obtain⟨z,z2,p,e3,e4,r⟩:=q;exact⟨by rw[ej];exact z,z2,p,e3,e4,r.keep kp (ul p e4)⟩
   |dol _ _=>cases fw
   |als _ _=>cases fw
   |rgn _=>cases fw
theorem vw(hN:X.N.Nodup)(hi:X.N[i]? =some x)(hx:oz X.env.scope x)(he:JP X G e da)(hs:swapsWith e (some (.Name x p)) pos.line X.env=pure false:=by rfl)(hf:X.fn x=true\/X.env.scope.names.lookup x=some .local:=by first|exact .inl rfl|exact .inr rfl|assumption) :
  JS X G (.Assign [.Name x p] e pos) (lA i da):=jd (lR hN hi hx (pP he) hs hf) fun D σ H ⟨c,ow,ps,R,q⟩=>by
 unfold lA at q
 by_cases few:(ps.set i .no).any isMany=true
 ·rw[if_pos few]at q;exact q.elim
 ·rw[if_neg few]at q
  obtain⟨w,e1,q⟩:=bQ q
  refine⟨c,ow,ps,w,R,e1,fun v H' s r=> ?_⟩
  split at q
  ·obtain⟨ow',R',k⟩:=R.region s (by simpa using few) r
   exact q _ _ _ R' k
  ·exact q.elim
def ka(i:Nat)(t:DT):DT:=fun ps=>match ps[i]? with
 |some (.rgn w)=>if (ps.set i .no).any isMany=true then .bad else t (ps.set i (.v w))
 |_=> .bad
theorem aN.unlock{K:Fg}{H:Hp}{c:Fr}{ow:Ows}{ps:aH}{σ :L2.St}(R:aN K G c H ow ps σ){w:PV}(hw:ps[i]? =some (.rgn w))(few:(ps.set i .no).any isMany=false):∃ow',aN K G c H ow' (ps.set i (.v w)) σ :=by
 obtain⟨o,eo,z,k,x,xs,ys,a,dx,v1,p1,p0,vs,us,e1,e2,e3,e4,e5,e6,e7,r⟩:=R.get hw
 have hlt:i<ps.length:=(List.getElem?_eq_some_iff.mp hw).1
 let ow':Ows:=fun j=>if j=vx ps.length i 0\/j=vx ps.length i 1 then none else ow j
 have inn:∀{j q},ow' j=some q->ow j=some q/\j≠vx ps.length i 0/\j≠vx ps.length i 1:=fun {j q} h=>by
  have h:(if j=vx ps.length i 0\/j=vx ps.length i 1 then none else ow j)=some q:=h
  split at h
  ·cases h
  ·rename_i n;exact⟨h,fun z=>n (.inl z),fun z=>n (.inr z)⟩
 have at':∀{j},j<ps.length->ow' j=ow j:=fun {j} hj=>if_neg (by unfold vx;omega)
 have wk:∀b,av c ow' b->av c ow b/\b≠p1/\b≠p0:=fun b h=>by
  rcases h with h|⟨j,h⟩
  ·refine⟨.inl h,fun q=> ?_,fun q=> ?_⟩
   ·subst q;exact R.a0 _ h (R.fresh _ _ e6)
   ·subst q;exact R.a0 _ h (R.fresh _ _ e7)
  ·obtain⟨h,n1,n0⟩:=inn h
   exact⟨.inr ⟨j,h⟩,fun q=>n1 (R.inj _ _ _ h (by rw[q];exact e6)),fun q=>n0 (R.inj _ _ _ h (by rw[q];exact e7))⟩
 have kp:Kp K G H (av c ow) H (av c ow'):=Kp.weak fun b h=>(wk b h).1
 refine⟨ow',by simp[R.len],R.same,R.lent,R.a0,R.b0,fun j q h=>R.fresh j q (inn h).1,fun j j' q h h'=>R.inj j j' q (inn h).1 (inn h').1,fun j q h=> ?_,fun j t o' g1 g2=> ?_⟩
 ·rw[List.length_set];exact R.out j q (inn h).1
 ·rw[List.length_set]
  by_cases hj:j=i
  ·subst hj
   rw[List.getElem?_set_self hlt]at g1
   cases g1
   rw[eo]at g2
   cases g2
   refine⟨by rw[at' hlt];exact z,.ref a,e2,(Kp.weak wk).rep r⟩
  ·rw[List.getElem?_set_ne (fun z=>hj z.symm)]at g1
   have hjl:j<ps.length:=(List.getElem?_eq_some_iff.mp g1).1
   have q:=R.slot j t o' g1 g2
   have ej:=at' hjl
   have fw:=gt few hj g1
   cases t with
   |no=>show ow' j=none;rw[ej];exact q
   |v w=>obtain⟨z,v,e3,r⟩:=q;exact⟨by rw[ej];exact z,v,e3,kp.rep r⟩
   |own y=>obtain⟨p,e3,e4,r⟩:=q;exact⟨p,by rw[ej];exact e3,e4,r.keep kp rfl⟩
   |bor w=>obtain⟨z,v,e3,r⟩:=q;exact⟨by rw[ej];exact z,v,e3,dA R.b0 R.same R.same kp r⟩
   |ino y=>obtain⟨z,z2,p,e3,e4,r⟩:=q;exact⟨by rw[ej];exact z,z2,p,e3,e4,r.keep kp rfl⟩
   |ini c xs=>obtain⟨z,z2,p,e3,e4,r⟩:=q;exact⟨by rw[ej];exact z,z2,p,e3,e4,r.keep kp rfl⟩
   |dol _ _=>cases fw
   |als _ _=>cases fw
   |rgn _=>cases fw
theorem vy(i:Nat)(h:JT X G e dt):JT X G e (ka i dt):=pf h fun σ H Q ⟨c,ow,ps,b,R,e,q⟩=>by
 unfold ka at e
 split at e
 ·rename_i w hw
  by_cases few:(ps.set i .no).any isMany=true
  ·rw[if_pos few]at e;cases e
  ·rw[if_neg few]at e
   obtain⟨ow',R'⟩:=R.unlock hw (by simpa using few)
   exact⟨c,ow',_,b,R',e,q⟩
 ·cases e
def eU(l:List (Nat×Nat))(i:Nat)(ds:DS):DS:=fun ps=>match ps[i]? with
 |some (.rgn (.obj k _))=>if (ps.set i .no).any isMany=true then .bad else if l.lookup k=some 1 then ds (ps.set i .no) else .bad
 |_=> .bad
theorem aN.forget{K:Fg}{H H2:Hp}{c:Fr}{ow:Ows}{ps:aH}{σ :L2.St}(R:aN K G c H ow ps σ)(few:(ps.set i .no).any isMany=false){p1 p0:Addr}(hn:ow i=none)(h1:ow (vx ps.length i 0)=some p1)(h0:ow (vx ps.length i 1)=some p0)(k:Kp K G H (av c ow) H2 (av c ow))
  (ne:∀q,q≠p1->q≠p0->H2 q=H q) (n1:H2 p1≠none) (n0:H2 p0≠none):aN K G c H2 ow (ps.set i .no) σ :=by
 have old:∀q,c.H0 q≠none->q≠p1/\q≠p0:=fun q hq=>⟨fun z=>by subst z;exact hq (R.fresh _ _ h1),fun z=>by subst z;exact hq (R.fresh _ _ h0)⟩
 have sm:ga c H2:=fun a o e n=>by
  obtain⟨y1,y0⟩:=old a (by rw[e];simp)
  rw[ne a y1 y0];exact R.same a o e n
 have lt:∀q,c.lx=some q->H2 q=H q:=fun q hq=>by
  obtain⟨y1,y0⟩:=old q (R.a0 q (R.lent q hq).1)
  exact ne q y1 y0
 refine⟨by simp[R.len],sm,fun q hq=>⟨(R.lent q hq).1,by rw[lt q hq];exact(R.lent q hq).2⟩,R.a0,R.b0,R.fresh,R.inj,fun j q h=> ?_,fun j t o g1 g2=> ?_⟩
 ·rw[List.length_set]
  by_cases y1:q=p1
  ·right;rw[y1];exact n1
  by_cases y0:q=p0
  ·right;rw[y0];exact n0
  rcases R.out j q h with z|z
  ·exact .inl z
  ·right;rw[ne q y1 y0];exact z
 ·rw[List.length_set]
  by_cases hj:j=i
  ·subst hj
   have hlt:j<ps.length:=by
    have:=(List.getElem?_eq_some_iff.mp g1).1
    rwa [List.length_set]at this
   rw[List.getElem?_set_self hlt]at g1
   cases g1
   exact hn
  ·rw[List.getElem?_set_ne (fun z=>hj z.symm)]at g1
   have hjl:j<ps.length:=(List.getElem?_eq_some_iff.mp g1).1
   have q:=R.slot j t o g1 g2
   have fw:=gt few hj g1
   have us:∀q,ow j=some q->H2 q=H q:=fun q e=>ne q (fun z=>by subst z;have:=R.inj _ _ _ e h1;unfold vx at this;omega) (fun z=>by subst z;have:=R.inj _ _ _ e h0;unfold vx at this;omega)
   cases t with
   |no=>exact q
   |v w=>obtain⟨z,v,e3,r⟩:=q;exact⟨z,v,e3,k.rep r⟩
   |own y=>obtain⟨p,e3,e4,r⟩:=q;exact⟨p,e3,e4,r.keep k (us p e3)⟩
   |bor w=>obtain⟨z,v,e3,r⟩:=q;exact⟨z,v,e3,dA R.b0 R.same sm k r⟩
   |ino y=>obtain⟨z,z2,p,e3,e4,r⟩:=q;exact⟨z,z2,p,e3,e4,r.keep k (lt p e4)⟩
   |ini c xs=>obtain⟨z,z2,p,e3,e4,r⟩:=q;exact⟨z,z2,p,e3,e4,r.keep k (lt p e4)⟩
   |dol _ _=>cases fw
   |als _ _=>cases fw
   |rgn _=>cases fw
theorem lB{f:Str}{l:List (Nat×Nat)}{rest:List Stmt}{ds:DS}{p2 p3 p4 ap cp ep q1 q2 ap' cp' ep':Pos}{j:Nat}(ok:bV X.K G f l)(i:Nat)(hrest:lL X G rest ds)
  (hN:X.N[i]? =some x:=by rfl) (hv:oy X.env.scope x:=by first|exact Or.inl rfl|exact Or.inr (Or.inl rfl)|exact Or.inr (Or.inr rfl)) (hd:(x == .(U))=false:=by decide) (hcd:(x == ("__classdict__":Str))=false:=by decide)
  (hb1:attributeBase (.Name x p) f X.env (eval (.Name x p) X.env)=eval (.Name x p) X.env:=by rfl) (hb2:attributeBase (.Name x q1) f X.env (eval (.Name x q1) X.env)=eval (.Name x q1) X.env:=by rfl)
  (hc1:attributeBase .(Ap) "clear" X.env (eval .(Ap) X.env)=eval .(Ap) X.env:=by rfl)
  (hc2:attributeBase (.Attribute (.Name x q1) f q2) "clear" X.env (eval (.Attribute (.Name x q1) f q2) X.env)=eval (.Attribute (.Name x q1) f q2) X.env:=by rfl)
  (hl1:(ap.endLine == cp.line)=true:=by rfl) (hl2:(ap'.endLine == cp'.line)=true:=by rfl)
  (hs1:swapsWith (.Call (.Attribute .(Ap) "clear" ap) [] [] cp) none ep.line X.env=pure false:=by rfl)
  (hs2:swapsWith (.Call (.Attribute (.Attribute (.Name x q1) f q2) "clear" ap') [] [] cp') none ep'.line X.env=pure false:=by rfl) :
  lL X G (.Expr (.Call (.Attribute .(Ap) "clear" ap) [] [] cp) ep :: .Expr (.Call (.Attribute (.Attribute (.Name x q1) f q2) "clear" ap') [] [] cp') ep'::rest) (eU l i ds) :=
 my (cO (kj (m4 PySem.F.plainAttrs_list PySem.F.slot_list_clear PySem.F.type_list_clear j4 (q8 lY (jD (br hN hv hd hcd) hb1) lO .(D)) hc1 hl1) hs1) (cO (kj (m4 PySem.F.plainAttrs_list PySem.F.slot_list_clear PySem.F.type_list_clear j4 (jD (br hN hv hd hcd) hb2) hc2 hl2) hs2) hrest)) fun D σ H ⟨c,ow,ps,R,q⟩=>by
  unfold eU at q
  split at q
  ·rename_i k fs hw
   by_cases few:(ps.set i .no).any isMany=true
   ·rw[if_pos few]at q;exact q.elim
   rw[if_neg few]at q
   by_cases hlk:l.lookup k=some 1
   ·rw[if_pos hlk]at q
    obtain⟨o,eo,z,k',x',xs,ys,a,dx,v1,p1,p0,vs,us,e1,e2,e3,e4,e5,e6,e7,r⟩:=R.get hw
    cases e1
    subst e2
    obtain⟨c1,c2,c3,c4⟩:=ok.all k 1 hlk
    have lk:((G.fN k).zip [v1,V.ref p1]).lookup f=some (.ref p1):=eA c3 c4 rfl
    have hne:p1≠p0:=fun y=>by
     have:=R.inj _ _ _ e6 (by rw[y];exact e7)
     unfold vx at this;omega
    have ha0:a≠p0:=fun y=>by rw[y,e5]at e3;cases e3
    have m0:Mt (HO.lst us):=And.intro (fun _ z=>by cases z) (fun _ _ z=>by cases z)
    have m1:Mt (HO.lst (V.ref p0::vs)):=And.intro (fun _ z=>by cases z) (fun _ _ z=>by cases z)
    have hp1:upd H p0 (.lst []) p1=some (.lst (.ref p0::vs)):=by rw[ay hne];exact e4
    have kA:Kp X.K G H (av c ow) (upd H p0 (.lst [])) (av c ow):=Kp.own (.inr ⟨_,e7⟩) e5 m0
    have kB:Kp X.K G (upd H p0 (.lst [])) (av c ow) (upd (upd H p0 (.lst [])) p1 (.lst [])) (av c ow):=Kp.own (.inr ⟨_,e6⟩) hp1 m1
    have R2:=R.forget (H2:=upd (upd H p0 (.lst [])) p1 (.lst [])) (by simpa using few) z e6 e7 (kA.trans kB) (fun q y1 y0=>by rw[ay y1,ay y0]) (by rw[aE];simp) (by rw[ay (fun y=>hne y.symm),aE];simp)
    refine⟨.ref a,eo,a,_,dx,_,.ref p1,rfl,e3,c1,c2,lk,.inl ⟨p1,_,0,.ref p0,rfl,rfl,dI.of e4,cX (j:=0) rfl,.inl ⟨rfl,_,dI.of e5⟩,p0,us,rfl,rfl,e5,?_⟩⟩
    refine⟨.ref a,eo,a,_,dx,_,.ref p1,rfl,by rw[ay ha0];exact e3,c1,c2,lk,.inl ⟨rfl,_,dI.of hp1⟩,p1,_,rfl,rfl,hp1,?_⟩
    exact⟨c,ow,_,R2,q.mono (kA.trans kB)⟩
   ·rw[if_neg hlk]at q;exact q.elim
  ·exact q.elim
end
end DN
end
section
namespace M31
open PySem L2 DN
open PyProof.Rows (boot_isinstance boot_bool boot_int boot_str boot_tuple boot_list boot_dict boot_sum boot_all boot_any boot_abs boot_enumerate boot_min boot_max)
noncomputable def top(i:Nat):Stmt:=PySem.Challenge.pw_anymeaning_k31_doors.main.body.getD i (.Pass ⟨0,0,0,0⟩)
noncomputable def fN:Nat->List Str
 |0=>[]
 |1=>[]
 |2=>[]
 |3=>["name"]
 |4=>["head","tail"]
 |5=>["test","yes","no"]
 |6=>["test","body"]
 |7=>[]
 |8=>[]
 |9=>["name"]
 |10=>["inner"]
 |11=>["left","right"]
 |12=>["left","right"]
 |13=>["step","doors"]
 |_=>[]
abbrev mX:Stmt:=top 23
abbrev mY:Stmt:=top 24
abbrev mZ:Stmt:=top 25
abbrev n3:Stmt:=top 26
abbrev n4:Stmt:=top 27
abbrev n5:Stmt:=top 28
abbrev n6:Stmt:=top 29
abbrev ng:Stmt:=top 30
abbrev nh:Stmt:=top 32
abbrev ni:Stmt:=top 33
abbrev nj:Stmt:=top 34
abbrev nk:Stmt:=top 35
abbrev nl:Stmt:=top 36
abbrev nq:Stmt:=top 37
abbrev nr:Stmt:=top 38
abbrev nt:Stmt:=top 39
abbrev nu:Stmt:=top 40
abbrev nv:Stmt:=top 41
abbrev nw:Stmt:=top 42
abbrev ny:Stmt:=top 43
abbrev nz:Stmt:=top 44
abbrev nA:Stmt:=top 45
abbrev nB:Stmt:=top 46
abbrev nD:Stmt:=top 47
abbrev jk:Stmt:=top 48
abbrev nE:Stmt:=aR (top 6) 1
abbrev nG:Stmt:=aR (top 7) 1
abbrev nH:Stmt:=aR (top 8) 2
abbrev nI:Stmt:=aR (top 9) 2
abbrev nJ:Stmt:=aR (top 10) 2
abbrev nL:Stmt:=aR (top 11) 2
abbrev nM:Stmt:=aR (top 16) 0
abbrev nN:Stmt:=aR (top 17) 1
abbrev nO:Stmt:=aR (top 18) 1
abbrev nP:Stmt:=aR (top 19) 1
abbrev nQ:Stmt:=aR (top 20) 1
abbrev nR:Stmt:=aR (top 22) 2
abbrev nS:Stmt:=aR (top 22) 0
noncomputable def nF:Nat->om
 |_=>default
abbrev tC:List (Nat×Nat):=[]
noncomputable def pg(cA:Nat->Addr):Pg:=⟨cA,fN,nF⟩
abbrev cz:List (Nat×Nat):=[(6,1)]
abbrev aC:List (Nat×Nat):=[(13,1)]
abbrev cB:List (Nat×Nat):=[(4,0)]
abbrev iL:List (Nat×Nat):=[(10,0)]
abbrev gu:List (Nat×Nat):=[(11,0),(12,0)]
abbrev eE:List (Nat×Nat):=[(3,0),(9,0)]
abbrev iM:List (Nat×Nat):=[(5,2)]
abbrev eV:List (Nat×Nat):=[(11,1),(12,1)]
abbrev bK:List (Nat×Nat):=[(13,0)]
abbrev cC:List (Nat×Nat):=[(4,1)]
abbrev bL:List (Nat×Nat):=[(5,0),(6,0)]
abbrev eW:List (Nat×Nat):=[(5,1)]
abbrev aL:List (Nat×Nat):=[(8,31),(9,32),(10,33),(11,34),(12,35)]
abbrev ck:List (Nat×Nat):=[(1,25),(2,26),(3,27),(4,28),(5,29),(6,30)]
abbrev q_rest_of:List (Nat×Nat):=[(13,36)]
abbrev i_zH:List (Nat×Bool):=[(0,false),(1,false),(2,false),(3,false),(4,false),(5,false),(6,false),(0+10,false),(1+10,false),(2+10,false),(3+10,false),(4+10,false),(5+10,true),(6+10,false),(7+10,false),(8+10,false),(9+10,false),(10+10,false),(11+10,false),(12+10,false),(13+10,false)]
abbrev i_zF:List (Nat×Bool):=[(0,false),(1,false),(2,false),(3,false),(4,false),(5,false),(6,false),(0+10,false),(1+10,false),(2+10,false),(3+10,true),(4+10,false),(5+10,false),(6+10,false),(7+10,false),(8+10,false),(9+10,false),(10+10,false),(11+10,false),(12+10,false),(13+10,false)]
abbrev i_zI:List (Nat×Bool):=[(0,false),(1,false),(2,false),(3,false),(4,false),(5,false),(6,false),(0+10,false),(1+10,false),(2+10,false),(3+10,false),(4+10,false),(5+10,false),(6+10,true),(7+10,false),(8+10,false),(9+10,false),(10+10,false),(11+10,false),(12+10,false),(13+10,false)]
abbrev i_zG:List (Nat×Bool):=[(0,false),(1,false),(2,false),(3,false),(4,false),(5,false),(6,false),(0+10,false),(1+10,false),(2+10,false),(3+10,false),(4+10,true),(5+10,false),(6+10,false),(7+10,false),(8+10,false),(9+10,false),(10+10,false),(11+10,false),(12+10,false),(13+10,false)]
abbrev i_zD:List (Nat×Bool):=[(0,false),(1,false),(2,false),(3,false),(4,false),(5,false),(6,false),(0+10,false),(1+10,true),(2+10,false),(3+10,false),(4+10,false),(5+10,false),(6+10,false),(7+10,false),(8+10,false),(9+10,false),(10+10,false),(11+10,false),(12+10,false),(13+10,false)]
abbrev i_zE:List (Nat×Bool):=[(0,false),(1,false),(2,false),(3,false),(4,false),(5,false),(6,false),(0+10,false),(1+10,false),(2+10,true),(3+10,false),(4+10,false),(5+10,false),(6+10,false),(7+10,false),(8+10,false),(9+10,false),(10+10,false),(11+10,false),(12+10,false),(13+10,false)]
abbrev i_bool:List (Nat×Bool):=[(0,false),(1,true),(2,false),(3,false),(4,false),(5,false),(6,false),(0+10,false),(1+10,false),(2+10,false),(3+10,false),(4+10,false),(5+10,false),(6+10,false),(7+10,false),(8+10,false),(9+10,false),(10+10,false),(11+10,false),(12+10,false),(13+10,false)]
abbrev i_list:List (Nat×Bool):=[(0,false),(1,false),(2,false),(3,false),(4,false),(5,true),(6,false),(0+10,false),(1+10,false),(2+10,false),(3+10,false),(4+10,false),(5+10,false),(6+10,false),(7+10,false),(8+10,false),(9+10,false),(10+10,false),(11+10,false),(12+10,false),(13+10,false)]
abbrev i_tuple:List (Nat×Bool):=[(0,false),(1,false),(2,false),(3,false),(4,true),(5,false),(6,false),(0+10,false),(1+10,false),(2+10,false),(3+10,false),(4+10,false),(5+10,false),(6+10,false),(7+10,false),(8+10,false),(9+10,false),(10+10,false),(11+10,false),(12+10,false),(13+10,false)]
@[simp]theorem ti(x0 x1:PV):aZ cz (.obj 6 [x0,x1])= .ok x1:=rfl
@[simp]theorem qq(x0 x1:PV):aZ aC (.obj 13 [x0,x1])= .ok x1:=rfl
@[simp]theorem tj(x0 x1:PV):aZ cB (.obj 4 [x0,x1])= .ok x0:=rfl
@[simp]theorem qr(x0:PV):aZ iL (.obj 10 [x0])= .ok x0:=rfl
@[simp]theorem sv(x0 x1:PV):aZ gu (.obj 11 [x0,x1])= .ok x0:=rfl
@[simp]theorem sw(x0 x1:PV):aZ gu (.obj 12 [x0,x1])= .ok x0:=rfl
@[simp]theorem tm(x0:PV):aZ eE (.obj 3 [x0])= .ok x0:=rfl
@[simp]theorem tt(x0:PV):aZ eE (.obj 9 [x0])= .ok x0:=rfl
@[simp]theorem wX(x0 x1 x2:PV):aZ iM (.obj 5 [x0,x1,x2])= .ok x2:=rfl
@[simp]theorem qt(x0 x1:PV):aZ eV (.obj 11 [x0,x1])= .ok x1:=rfl
@[simp]theorem qu(x0 x1:PV):aZ eV (.obj 12 [x0,x1])= .ok x1:=rfl
@[simp]theorem sx(x0 x1:PV):aZ bK (.obj 13 [x0,x1])= .ok x0:=rfl
@[simp]theorem tu(x0 x1:PV):aZ cC (.obj 4 [x0,x1])= .ok x1:=rfl
@[simp]theorem tw(x0 x1 x2:PV):aZ bL (.obj 5 [x0,x1,x2])= .ok x0:=rfl
@[simp]theorem tz(x0 x1:PV):aZ bL (.obj 6 [x0,x1])= .ok x0:=rfl
@[simp]theorem vz(x0 x1 x2:PV):aZ eW (.obj 5 [x0,x1,x2])= .ok x1:=rfl
#synth .(is i_zH 7 14 [] [5])
#synth .(is i_zF 7 14 [] [3])
#synth .(is i_zI 7 14 [] [6])
#synth .(is i_zG 7 14 [] [4])
#synth .(is i_zD 7 14 [] [1])
#synth .(is i_zE 7 14 [] [2])
#synth .(is i_bool 7 14 [1] [])
#synth .(is i_list 7 14 [5] [])
#synth .(is i_tuple 7 14 [4] [])
abbrev ia:List PV:=[PV.str "a",PV.str "b",PV.str "c",PV.str "d"]
structure Ct(P:Program)(w:World)(K:Fg)(mg:Str->Option Value)(base:Bs)(cA:Nat->Addr)(ts:List Addr):Prop where
 tb:base.tabs=ts
 c_zC:mg "Step"=some (.ref ((pg cA).cA 0))
 l_zC:bx K ((pg cA).cA 0)
 c_zD:mg "Skip"=some (.ref ((pg cA).cA 1))
 l_zD:bx K ((pg cA).cA 1)
 c_zE:mg "Stop"=some (.ref ((pg cA).cA 2))
 l_zE:bx K ((pg cA).cA 2)
 c_zF:mg "Deed"=some (.ref ((pg cA).cA 3))
 l_zF:bx K ((pg cA).cA 3)
 c_zG:mg "Row"=some (.ref ((pg cA).cA 4))
 l_zG:bx K ((pg cA).cA 4)
 c_zH:mg "Choice"=some (.ref ((pg cA).cA 5))
 l_zH:bx K ((pg cA).cA 5)
 c_zI:mg "Loop"=some (.ref ((pg cA).cA 6))
 l_zI:bx K ((pg cA).cA 6)
 c_zJ:mg "Test"=some (.ref ((pg cA).cA 7))
 l_zJ:bx K ((pg cA).cA 7)
 c_zK:mg "Yes"=some (.ref ((pg cA).cA 8))
 l_zK:bx K ((pg cA).cA 8)
 c_zL:mg "Named"=some (.ref ((pg cA).cA 9))
 l_zL:bx K ((pg cA).cA 9)
 c_zM:mg "Not"=some (.ref ((pg cA).cA 10))
 l_zM:bx K ((pg cA).cA 10)
 c_zN:mg "Both"=some (.ref ((pg cA).cA 11))
 l_zN:bx K ((pg cA).cA 11)
 c_zO:mg "Either"=some (.ref ((pg cA).cA 12))
 l_zO:bx K ((pg cA).cA 12)
 c_zP:mg "Rooms"=some (.ref ((pg cA).cA 13))
 l_zP:bx K ((pg cA).cA 13)
 n_zN:dY P w K mg base "Both" ((pg cA).cA 11) ((pg cA).fN 11)
 n_zH:dY P w K mg base "Choice" ((pg cA).cA 5) ((pg cA).fN 5)
 n_zF:dY P w K mg base "Deed" ((pg cA).cA 3) ((pg cA).fN 3)
 n_zO:dY P w K mg base "Either" ((pg cA).cA 12) ((pg cA).fN 12)
 n_zI:dY P w K mg base "Loop" ((pg cA).cA 6) ((pg cA).fN 6)
 n_zL:dY P w K mg base "Named" ((pg cA).cA 9) ((pg cA).fN 9)
 n_zM:dY P w K mg base "Not" ((pg cA).cA 10) ((pg cA).fN 10)
 n_zG:dY P w K mg base "Row" ((pg cA).cA 4) ((pg cA).fN 4)
 k_zD:sR K ((pg cA).cA 1)
 k_zE:sR K ((pg cA).cA 2)
 k_zK:sR K ((pg cA).cA 8)
 x_Rooms_step:bu K ((pg cA).cA 13) "step"
 x_Rooms_doors:bu K ((pg cA).cA 13) "doors"
 f_body:bV K (pg cA) "body" cz
 f_doors:bV K (pg cA) "doors" aC
 f_head:bV K (pg cA) "head" cB
 f_inner:bV K (pg cA) "inner" iL
 f_left:bV K (pg cA) "left" gu
 f_name:bV K (pg cA) "name" eE
 f_no:bV K (pg cA) "no" iM
 f_right:bV K (pg cA) "right" eV
 f_step:bV K (pg cA) "step" bK
 f_tail:bV K (pg cA) "tail" cC
 f_test:bV K (pg cA) "test" bL
 f_yes:bV K (pg cA) "yes" eW
 i_zH:bU K (pg cA) (.ref ((pg cA).cA 5)) i_zH
 i_zF:bU K (pg cA) (.ref ((pg cA).cA 3)) i_zF
 i_zI:bU K (pg cA) (.ref ((pg cA).cA 6)) i_zI
 i_zG:bU K (pg cA) (.ref ((pg cA).cA 4)) i_zG
 i_zD:bU K (pg cA) (.ref ((pg cA).cA 1)) i_zD
 i_zE:bU K (pg cA) (.ref ((pg cA).cA 2)) i_zE
 i_bool:bU K (pg cA) (.type "bool") i_bool
 i_list:bU K (pg cA) (.type "list") i_list
 i_tuple:bU K (pg cA) (.type "tuple") i_tuple
 e_DONE:∃t,mg "DONE"=some (.str "done" t)
 e_HUNG:∃t,mg "HUNG"=some (.str "hung" t)
 e_LETTERS:∃a,mg "LETTERS"=some (.ref a)/\jO K a [V.str "a",V.str "b",V.str "c",V.str "d"]
 e_SETTINGS:∃t,mg "SETTINGS"=some (.int (16) t)
 e_STOPPED:∃t,mg "STOPPED"=some (.str "stopped" t)
 z_bool:mg "bool"=none
 z_int:mg "int"=none
 z_isinstance:mg "isinstance"=none
 z_len:mg "len"=none
 z_list:mg "list"=none
 z_range:mg "range"=none
 z_tuple:mg "tuple"=none
theorem qv:aj ["step","begun"] ["step"] (ag mX):= .q
noncomputable def gJ(g:Nat->List PV->Rx PV):DS :=
 (ao (sIf (dTr (bT i_zF (dSee 0)))
 (aq (aK (dCons (dC (.obj 1 [])) dNil)))
 al)
 (ao (sIf (dTr (bT i_zG (dSee 0)))
 (ao (aO 1 (aK (dComp ["left"] [("step",0)] (bh (ad (g 0) (dCons (ax cB (aa 0)) dNil))) (gSet 0) ci (cu 4 (dCons (aa 0) (dCons (ax cC (aa 1)) dNil))))))
 (aq (aK (cg (dSee 1) (ad (g 0) (dCons (ax cC (aa 0)) dNil))))))
 al)
 (ao (sIf (dTr (bT i_zH (dSee 0)))
 (aq (aK (cg (ad (g 0) (dCons (ax eW (aa 0)) dNil)) (ad (g 0) (dCons (ax iM (aa 0)) dNil)))))
 al)
 (ao (sIf (dTr (bT i_zI (dSee 0)))
 (aq (aK (dComp ["left"] [("step",0)] (bh (ad (g 0) (dCons (ax cz (aa 0)) dNil))) (gSet 0) ci (cu 4 (dCons (aa 0) .(R))))))
 al)
 (aq (aK dNil))))))
theorem vA:aj ["step","ahead"] ["step","ahead"] (ag mY):= .q
noncomputable def gK(g:Nat->List PV->Rx PV):DS :=
 (ao (sIf (dTr (bT i_zD (dSee 0)))
 (aq (aK (dCons (ad (g 2) (dCons (dC (.str "done")) dNil)) dNil)))
 al)
 (ao (sIf (dTr (bT i_zE (dSee 0)))
 (aq (aK (dCons (ad (g 2) (dCons (dC (.str "stopped")) dNil)) dNil)))
 al)
 (ao (sIf (dTr (bT i_zF (dSee 0)))
 (aq (aK (dCons (aK (pJ (dCons (aS (dCons (ax eE (aa 0)) (dCons (d2 bZ (dSee 1) (dC (.int 1))) dNil))) dNil) (dC (.int (16))))) (dCons (ad (g 2) (dCons (dC (.str "done")) dNil)) dNil))))
 al)
 (ao (sIf (dTr (bT i_zG (dSee 0)))
 (aq (ad (g 3) (dCons (aa 0) .(R))))
 al)
 (ao (sIf (dTr (bT i_zH (dSee 0)))
 (aq (ad (g 4) (dCons (aa 0) .(R))))
 al)
 (aq (ad (g 5) (dCons (aa 0) .(R)))))))))
theorem vB:aj ["end"] ["end"] (ag mZ):= .q
noncomputable def sy(g:Nat->List PV->Rx PV):DS :=
 (aq (aK (pJ (dCons (aS (dCons (aa 0) .(Ak))) dNil) (dC (.int (16))))))
theorem nT:aj ["step","ahead","head","tail"] ["step","ahead"] (ag n3):= .q
noncomputable def lC(g:Nat->List PV->Rx PV):DS :=
 (ao (aO 2 (ad (g 1) (dCons (ax cB (aa 0)) .(R))))
 (ao (aO 3 (ad (g 1) (dCons (ax cC (aa 0)) (dCons (d2 jQ (d2 bZ (dSee 1) (ad dS (dCons (dSee 2) dNil))) (dC (.int 1))) dNil))))
 (aq (aK (cg (aK (dComp ["doors"] [("tail",3)] (bh (dSee 2)) (gSet 0) ci (ad (g 7) (dCons (aa 0) (dCons .(Ac) dNil))))) (aK (cr (dSee 3) .(Ar) gB)))))))
theorem kP:aj ["step","ahead","yes","no","begin"] ["step","ahead"] (ag n4):= .q
noncomputable def lD(g:Nat->List PV->Rx PV):DS :=
 (ao (aO 2 (ad (g 1) (dCons (ax eW (aa 0)) .(R))))
 (ao (aO 3 (ad (g 1) (dCons (ax iM (aa 0)) (dCons (d2 jQ (d2 bZ (dSee 1) (ad dS (dCons (dSee 2) dNil))) (dC (.int 1))) dNil))))
 (ao (aO 4 (aK (dComp ["setting"] [("yes",2),("no",3),("step",0)] (dRng1 (dCons (dC (.int (16))) dNil)) (gSet 0) ci (ln (dTr (bn aL g (ax bL (aa 3)) .(Ay))) (d2 fIx .(Ac) (dSee 0)) (d2 fIx (d2 fIx (dSee 2) (dC (.int 0))) (dSee 0))))))
 (aq (aK (cg (aK (cg (aK (dCons (aa 4) dNil)) .(Aj))) (aK (cr (dSee 3) .(Ar) gB))))))))
theorem nU:aj ["step","ahead","body","begin"] ["step","ahead"] (ag n5):= .q
noncomputable def lE(g:Nat->List PV->Rx PV):DS :=
 (ao (aO 2 (ad (g 1) (dCons (ax cz (aa 0)) .(R))))
 (ao (aO 3 (aK (dComp ["setting"] [("body",2),("step",0)] (dRng1 (dCons (dC (.int (16))) dNil)) (gSet 0) ci (ad (g 6) (dCons (bn aL g (ax bL (aa 2)) .(Ay)) (dCons (d2 fIx .(Ac) (dSee 0)) dNil))))))
 (aq (aK (cg (aK .(P)) (aK (dComp ["doors"] [("begin",3)] (bh .(Aj)) (gSet 0) ci (ad (g 7) (dCons (aa 0) .(R))))))))))
theorem vC:aj ["holds","door"] ["holds","door"] (ag n6):= .q
noncomputable def lF(g:Nat->List PV->Rx PV):DS :=
 (ao (sIf (aY (dTr (aa 0)))
 (aq (aS (dCons (dC (.str "done")) .(Ak))))
 al)
 (ao (sIf (dTr (d2 fEq .(Ac) (dC (.str "done"))))
 (aq (aS (dCons (dC (.str "hung")) .(Ak))))
 al)
 (aq (aa 1))))
theorem vD:aj ["doors","later"] ["doors","later"] (ag ng):= .q
noncomputable def lG(g:Nat->List PV->Rx PV):DS :=
 (aq (aK (dComp ["setting"] [("later",1),("doors",0)] (dRng1 (dCons (dC (.int (16))) dNil)) (gSet 0) ci (ln (dTr (d2 fEq (d2 fIx (d2 fIx (dSee 2) (dSee 0)) (dC (.int 0))) (dC (.str "done")))) (d2 fIx (dSee 1) (dSee 0)) (d2 fIx (dSee 2) (dSee 0))))))
theorem vE:aj ["_law_script","_law_k"] ["_law_script","_law_k"] (ag nh):= .q
noncomputable def lH(g:Nat->List PV->Rx PV):DS :=
 (ao (sIf (dTr (d2 oo (dSee 1) (ad dS (dCons (dSee 0) dNil))))
 (aq (d2 fIx (dSee 0) (dSee 1)))
 al)
 (aq (dC (.int 0))))
theorem qw:aj ["_law_cell","_law_k","_law_number"] ["_law_cell","_law_k"] (ag ni):= .q
noncomputable def nV(g:Nat->List PV->Rx PV):DS :=
 (ao (aO 2 (d2 fMod (d2 pj (d2 bZ (d2 bZ (dSee 0) (d2 pj (dC (.int 7919)) (dSee 1))) (dC (.int 1))) (dC (.int 48271))) (dC (.int 2147483647))))
 (aq (d2 fMod (d2 pj (dSee 2) (d2 bZ (d2 fDiv (dSee 2) (dC (.int 1009))) (dC (.int 69621)))) (dC (.int 2147483647)))))
theorem ib:aj ["_law_test_here","_law_one","_law_two","_law_kind","_law_i","_law_j"] ["_law_test_here"] (ag nj):= .q
noncomputable def nW(g:Nat->List PV->Rx PV):DS :=
 (ao (lp (hX 3 (bI (gSet 3) (bI (gSet 4) (bI (gSet 5) hV)))) (aa 0))
 (ao (aO 1 (cu 9 (dCons (d2 fIx (dC (.str "abcd")) (dSee 4)) dNil)))
 (ao (aO 2 (cu 9 (dCons (d2 fIx (dC (.str "abcd")) (dSee 5)) dNil)))
 (ao (sIf (dTr (d2 fEq (dSee 3) (dC (.int 1))))
 (aq (cu 10 .(R)))
 al)
 (ao (sIf (dTr (d2 fEq (dSee 3) (dC (.int 2))))
 (aq (cu 11 (dCons (aa 1) .(I))))
 al)
 (ao (sIf (dTr (d2 fEq (dSee 3) (dC (.int 3))))
 (aq (cu 12 (dCons (aa 1) (dCons (cu 10 .(I)) dNil))))
 al)
 (ao (sIf (dTr (d2 fEq (dSee 3) (dC (.int 4))))
 (aq (dC (.obj 8 [])))
 al)
 (ao (sIf (dTr (d2 fEq (dSee 3) (dC (.int 5))))
 (aq (cu 11 (dCons (aa 1) (dCons (cu 10 .(I)) dNil))))
 al)
 (aq (aa 1))))))))))
theorem ie:aj ["_law_test_here","_law_s","_law_one","_law_two","_law_kind","_law_i","_law_j"] ["_law_test_here","_law_s"] (ag nk):= .q
noncomputable def nX(g:Nat->List PV->Rx PV):DS :=
 (ao (lp (hX 3 (bI (gSet 4) (bI (gSet 5) (bI (gSet 6) hV)))) (aa 0))
 (ao (aO 2 (d2 fEq (d2 pi (d2 pk (dSee 1) (dSee 5)) (dC (.int 1))) (dC (.int 1))))
 (ao (aO 3 (d2 fEq (d2 pi (d2 pk (dSee 1) (dSee 6)) (dC (.int 1))) (dC (.int 1))))
 (aq (d2 fIx (aK (dCons (aa 2) (dCons (ge (aa 2)) (dCons (cH (aa 2) (aa 3)) (dCons (pw (aa 2) (ge (aa 3))) (dCons (dC (.bl true)) (dCons (cH (aa 2) (ge (aa 3))) dNil))))))) (dSee 4))))))
theorem vF:aj ["_law_cell"] ["_law_cell"] (ag nl):= .q
noncomputable def nY(g:Nat->List PV->Rx PV):DS :=
 (aq (aS (dCons (d2 fMod (dSee 0) (dC (.int 6))) (dCons (d2 fMod (d2 fDiv (dSee 0) (dC (.int 6))) (dC (.int 4))) (dCons (d2 fMod (d2 fDiv (dSee 0) (dC (.int 24))) (dC (.int 4))) dNil)))))
theorem kQ:aj ["_law_prog_here","_law_cell","_law_way","_law_deed","_law_test_here"] ["_law_prog_here","_law_cell"] (ag nq):= .q
noncomputable def nZ(g:Nat->List PV->Rx PV):DS :=
 (ao (aO 2 (d2 fMod (ad (g 9) (dCons (aa 1) .(Ak))) (dC (.int 8))))
 (ao (aO 3 (aS (dCons (dC (.str "deed")) (dCons (d2 fIx (dC (.str "PQRST")) (d2 fMod (ad (g 9) (dCons (aa 1) (dCons (dC (.int 1)) dNil))) (dC (.int 5)))) dNil))))
 (ao (aO 4 (ad (g 12) (dCons (ad (g 9) (dCons (aa 1) (dCons (dC (.int 2)) dNil))) dNil)))
 (ao (sIf (dTr (d2 fEq (dSee 2) (dC (.int 0))))
 (aq (aS (dCons .(Av) (dCons (aa 0) .(P)))))
 al)
 (ao (sIf (dTr (d2 fEq (dSee 2) (dC (.int 1))))
 (aq (aS (dCons .(Av) (dCons (aa 3) .(Ay)))))
 al)
 (ao (sIf (dTr (d2 fEq (dSee 2) (dC (.int 2))))
 (aq (aS (dCons (dC (.str "loop")) (dCons (aa 4) .(Ay)))))
 al)
 (ao (sIf (dTr (d2 fEq (dSee 2) (dC (.int 3))))
 (aq (aS (dCons (dC .(AF)) (dCons (aa 4) (dCons (aa 0) .(P))))))
 al)
 (ao (sIf (dTr (d2 fEq (dSee 2) (dC (.int 4))))
 (aq (aS (dCons (dC .(AF)) (dCons (aa 4) (dCons (aa 3) .(Ay))))))
 al)
 (ao (sIf (dTr (d2 fEq (dSee 2) (dC (.int 5))))
 (aq (aS (dCons .(Av) (dCons (aa 0) (dCons (aS (dCons (dC .(AF)) (dCons (aa 4) (dCons (aS (dCons (dC (.str "stop")) dNil)) (dCons (aS (dCons (dC (.str "skip")) dNil)) dNil))))) dNil)))))
 al)
 (ao (sIf (dTr (d2 fEq (dSee 2) (dC (.int 6))))
 (aq (aS (dCons .(Av) (dCons (aS (dCons (dC (.str "loop")) (dCons (aa 4) .(P)))) .(Ay)))))
 al)
 (aq (aS (dCons (dC .(AF)) (dCons (aa 4) (dCons (aS (dCons (dC (.str "skip")) dNil)) .(Ay))))))))))))))))
theorem kR:aj ["_law_cell","_law_cells","_law_prog_here","_law_one"] ["_law_cell","_law_cells"] (ag nr):= .q
noncomputable def iN(g:Nat->List PV->Rx PV):DS :=
 (aO 2 (ad (g 13) (dCons (aa 2) .(P))))
noncomputable def kf(g:Nat->List PV->Rx PV):DS :=
 (ao (aO 2 .(Ad))
 (ao (sFor (bh (aa 1)) (gSet 3)
 (iN g))
 (aq (aa 2))))
theorem vG:aj ["_law_prog_here"] ["_law_prog_here"] (ag nt):= .q
noncomputable def dU(g:Nat->List PV->Rx PV):DS :=
 (ao (sIf (dTr (d2 fEq .(M) .(Av)))
 (aq (d2 bZ (ad (g 15) (dCons .(Y) dNil)) (ad (g 15) (dCons .(Q) dNil))))
 al)
 (ao (sIf (dTr (d2 fEq .(M) (dC .(AF))))
 (aq (d2 bZ (ad (g 15) (dCons .(Q) dNil)) (ad (g 15) (dCons (d2 fIx (dSee 0) (dC (.int 3))) dNil))))
 al)
 (ao (sIf (dTr (d2 fEq .(M) (dC (.str "loop"))))
 (aq (ad (g 15) (dCons .(Q) dNil)))
 al)
 (aq (ad mo (dCons (d2 fEq .(M) (dC (.str "deed"))) dNil))))))
theorem qx:aj ["_law_prog_here","_law_at","_law_later"] ["_law_prog_here","_law_at"] (ag nu):= .q
noncomputable def gL(g:Nat->List PV->Rx PV):DS :=
 (ao (sIf (dTr (d2 fEq .(M) (dC (.str "deed"))))
 (aq (aS (dCons (dC (.str "deed")) (dCons .(Y) (dCons (d2 bZ (dSee 1) (dC (.int 1))) dNil)))))
 al)
 (ao (sIf (dTr (d2 fEq .(M) .(Av)))
 (aq (aS (dCons .(Av) (dCons (ad (g 16) (dCons .(Y) .(R))) (dCons (ad (g 16) (dCons .(Q) (dCons (d2 bZ (dSee 1) (ad (g 15) (dCons .(Y) dNil))) dNil))) dNil)))))
 al)
 (ao (sIf (dTr (d2 fEq .(M) (dC .(AF))))
 (ao (aO 2 (d2 bZ (dSee 1) (ad (g 15) (dCons .(Q) dNil))))
 (aq (aS (dCons (dC .(AF)) (dCons .(Y) (dCons (ad (g 16) (dCons .(Q) .(R))) (dCons (ad (g 16) (dCons (d2 fIx (dSee 0) (dC (.int 3))) .(I))) dNil)))))))
 al)
 (ao (sIf (dTr (d2 fEq .(M) (dC (.str "loop"))))
 (aq (aS (dCons (dC (.str "loop")) (dCons .(Y) (dCons (ad (g 16) (dCons .(Q) .(R))) dNil)))))
 al)
 (aq (aa 0))))))
theorem vH:aj ["_law_prog_here"] ["_law_prog_here"] (ag nv):= .q
noncomputable def gM(g:Nat->List PV->Rx PV):DS :=
 (ao (sIf (dTr (d2 fEq .(M) (dC (.str "deed"))))
 (aq (cu 3 (dCons .(Y) dNil)))
 al)
 (ao (sIf (dTr (d2 fEq .(M) .(Av)))
 (aq (cu 4 (dCons (ad (g 17) (dCons .(Y) dNil)) (dCons (ad (g 17) (dCons .(Q) dNil)) dNil))))
 al)
 (ao (sIf (dTr (d2 fEq .(M) (dC .(AF))))
 (aq (cu 5 (dCons (ad (g 10) (dCons .(Y) dNil)) (dCons (ad (g 17) (dCons .(Q) dNil)) (dCons (ad (g 17) (dCons (d2 fIx (dSee 0) (dC (.int 3))) dNil)) dNil)))))
 al)
 (ao (sIf (dTr (d2 fEq .(M) (dC (.str "loop"))))
 (aq (cu 6 (dCons (ad (g 10) (dCons .(Y) dNil)) (dCons (ad (g 17) (dCons .(Q) dNil)) dNil))))
 al)
 (ao (sIf (dTr (d2 fEq .(M) (dC (.str "stop"))))
 (aq (dC (.obj 2 [])))
 al)
 (aq (dC (.obj 1 []))))))))
theorem gv:aj ["_law_prog_here","_law_s","_law_what","_law_place","_law_left_here"] ["_law_prog_here","_law_s"] (ag nw):= .q
noncomputable def gN(g:Nat->List PV->Rx PV):DS :=
 (ao (sIf (dTr (d2 fEq .(M) (dC (.str "deed"))))
 (aq (aS (dCons .(Y) (dCons .(Q) (dCons (aS (dCons (dC (.str "skip")) dNil)) dNil)))))
 al)
 (ao (sIf (dTr (d2 fEq .(M) (dC .(AF))))
 (aq (ad (g 18) (dCons (d2 fIx (dSee 0) (d2 bZ (dC (.int 2)) (ad mo (dCons (ge (ad (g 11) (dCons .(Y) .(R)))) dNil)))) .(R))))
 al)
 (ao (sIf (dTr (d2 fEq .(M) .(Av)))
 (ao (lp (hX 3 (bI (gSet 2) (bI (gSet 3) (bI (gSet 4) hV)))) (ad (g 18) (dCons .(Y) .(R))))
 (ao (sIf (dTr (d2 fEq (dSee 2) (dC (.str "done"))))
 (aq (ad (g 18) (dCons .(Q) .(R))))
 al)
 (aq (aS (dCons (aa 2) (dCons (aa 3) (dCons (aS (dCons .(Av) (dCons (aa 4) (dCons .(Q) dNil)))) dNil)))))))
 al)
 (ao (sIf (fK (dTr (d2 fEq .(M) (dC (.str "loop")))) (dTr (ad (g 11) (dCons .(Y) .(R)))))
 (ao (lp (hX 3 (bI (gSet 2) (bI (gSet 3) (bI (gSet 4) hV)))) (ad (g 18) (dCons .(Q) .(R))))
 (ao (sIf (dTr (d2 fEq (dSee 2) (dC (.str "done"))))
 (aq (aS (dCons (dC (.str "hung")) (dCons (dC (.int 0)) (dCons (dC .non) dNil)))))
 al)
 (aq (aS (dCons (aa 2) (dCons (aa 3) (dCons (aS (dCons .(Av) (dCons (aa 4) .(Ay)))) dNil)))))))
 al)
 (ao (sIf (dTr (d2 fEq .(M) (dC (.str "stop"))))
 (aq (aS (dCons (dC (.str "stopped")) (dCons (dC (.int 0)) (dCons (dC .non) dNil)))))
 al)
 (aq (aS (dCons (dC (.str "done")) (dCons (dC (.int 0)) (dCons (dC .non) dNil))))))))))
theorem o0:aj ["_law_prog_here","_law_k","_law_many"] ["_law_prog_here","_law_k"] (ag ny):= .q
noncomputable def gO(g:Nat->List PV->Rx PV):DS :=
 (ao (sIf (dTr (d2 fEq .(M) .(Av)))
 (ao (aO 2 (ad (g 15) (dCons .(Y) dNil)))
 (ao (sIf (dTr (d2 sU (dSee 1) (dSee 2)))
 (aq (ad (g 19) (dCons .(Q) (dCons (d2 jQ (dSee 1) (dSee 2)) dNil))))
 al)
 (aq (aS (dCons .(Av) (dCons (ad (g 19) (dCons .(Y) .(R))) (dCons .(Q) dNil)))))))
 al)
 (ao (sIf (dTr (d2 fEq .(M) (dC .(AF))))
 (ao (aO 2 (ad (g 15) (dCons .(Q) dNil)))
 (ao (sIf (dTr (d2 sU (dSee 1) (dSee 2)))
 (aq (ad (g 19) (dCons (d2 fIx (dSee 0) (dC (.int 3))) (dCons (d2 jQ (dSee 1) (dSee 2)) dNil))))
 al)
 (aq (ad (g 19) (dCons .(Q) .(R))))))
 al)
 (ao (sIf (dTr (d2 fEq .(M) (dC (.str "loop"))))
 (aq (aS (dCons .(Av) (dCons (ad (g 19) (dCons .(Q) .(R))) .(Ay)))))
 al)
 (aq (aS (dCons (dC (.str "skip")) dNil))))))
theorem vI:aj ["_law_sign_here","_law_test_here"] ["_law_sign_here","_law_test_here"] (ag nz):= .q
noncomputable def o3(g:Nat->List PV->Rx PV):DS :=
 (aq (d2 fEq (aK (dComp ["_law_s"] [("_law_sign_here",0)] (dRng1 (dCons (dC (.int 16)) dNil)) (gSet 0) ci (bn aL g (aa 1) .(Ay)))) (aK (dComp ["_law_s"] [("_law_test_here",1)] (dRng1 (dCons (dC (.int 16)) dNil)) (gSet 0) ci (ad (g 11) (dCons (aa 1) .(Ay)))))))
theorem vJ:aj ["_law_step","_law_prog_here"] ["_law_step","_law_prog_here"] (ag nA):= .q
noncomputable def gP(g:Nat->List PV->Rx PV):DS :=
 (ao (sIf (dTr (d2 fEq .(Ac) (dC (.str "deed"))))
 (aq (cH (bT i_zF (dSee 0)) (d2 fEq (ax eE (aa 0)) (d2 fIx (dSee 1) (dC (.int 1))))))
 al)
 (ao (sIf (dTr (d2 fEq .(Ac) .(Av)))
 (aq (cH (bT i_zG (dSee 0)) (cH (ad (g 21) (dCons (ax cB (aa 0)) (dCons (d2 fIx (dSee 1) (dC (.int 1))) dNil))) (ad (g 21) (dCons (ax cC (aa 0)) (dCons (d2 fIx (dSee 1) (dC (.int 2))) dNil))))))
 al)
 (ao (sIf (dTr (d2 fEq .(Ac) (dC .(AF))))
 (ao (sIf (dw (aY (dTr (bT i_zH (dSee 0)))) (aY (dTr (ad (g 20) (dCons (ax bL (aa 0)) (dCons (d2 fIx (dSee 1) (dC (.int 1))) dNil))))))
 (aq (dC (.bl false)))
 al)
 (aq (cH (ad (g 21) (dCons (ax eW (aa 0)) (dCons (d2 fIx (dSee 1) (dC (.int 2))) dNil))) (ad (g 21) (dCons (ax iM (aa 0)) (dCons (d2 fIx (dSee 1) (dC (.int 3))) dNil))))))
 al)
 (ao (sIf (dTr (d2 fEq .(Ac) (dC (.str "loop"))))
 (aq (cH (bT i_zI (dSee 0)) (cH (ad (g 20) (dCons (ax bL (aa 0)) (dCons (d2 fIx (dSee 1) (dC (.int 1))) dNil))) (ad (g 21) (dCons (ax cz (aa 0)) (dCons (d2 fIx (dSee 1) (dC (.int 2))) dNil))))))
 al)
 (ao (sIf (dTr (d2 fEq .(Ac) (dC (.str "stop"))))
 (aq (bT i_zE (dSee 0)))
 al)
 (aq (bT i_zD (dSee 0))))))))
theorem o4:aj ["_law_row","_law_left_here","_law_s","_law_door"] ["_law_row","_law_left_here"] (ag nB):= .q
noncomputable def cM(g:Nat->List PV->Rx PV):DS :=
 (ao (aO 3 (d2 fIx (dSee 0) (dSee 2)))
 (ao (sIf (dw (aY (dTr (bT i_tuple (dSee 3)))) (dw (dTr (d2 iG (ad dS (dCons (dSee 3) dNil)) (dC (.int 2)))) (dTr (bT i_bool (d2 fIx (dSee 3) (dC (.int 1)))))))
 (aq (dC (.bl false)))
 al)
 (sIf (dTr (d2 iG (dSee 3) (i8 (ad (g 18) (dCons (aa 1) .(I))) gB (f7 (dC (.int 2))))))
 (aq (dC (.bl false)))
 al)))
noncomputable def o5(g:Nat->List PV->Rx PV):DS :=
 (ao (sIf (dw (aY (dTr (bT i_list (dSee 0)))) (dTr (d2 iG (ad dS (dCons (dSee 0) dNil)) (dC (.int 16)))))
 (aq (dC (.bl false)))
 al)
 (ao (sFor (dRng1 (dCons (dC (.int 16)) dNil)) (gSet 2)
 (cM g))
 (aq (dC (.bl true)))))
theorem jl:aj ["_law_told_here","_law_prog_here","_law_many","_law_room","_law_left_here"] ["_law_told_here","_law_prog_here"] (ag nD):= .q
noncomputable def cN(g:Nat->List PV->Rx PV):DS :=
 (ao (aO 4 (aa 1))
 (ao (sIf (dTr (d2 sU (dSee 3) (dC (.int 0))))
 (aO 4 (ad (g 19) (dCons (aa 1) .(P))))
 al)
 (sIf (dw (aY (dTr (ad (g 22) (dCons (d2 fIx (ax aC (aa 0)) (dSee 3)) (dCons (aa 4) dNil))))) (aY (dTr (ad (g 21) (dCons (bn q_rest_of g (aa 0) .(P)) (dCons (aa 4) dNil))))))
 (aq (dC (.bl false)))
 al)))
noncomputable def o6(g:Nat->List PV->Rx PV):DS :=
 (ao (aO 2 (ad (g 15) .(R)))
 (ao (sIf (dw (aY (dTr (bT i_list (ax aC (aa 0))))) .(Ax))
 (aq (dC (.bl false)))
 al)
 (ao (sFor (dRng1 (dCons (d2 bZ (dSee 2) (dC (.int 1))) dNil)) (gSet 3)
 (cN g))
 (aq (dC (.bl true))))))
theorem cD:aj ["_law_script","_law_cell","_law_prog_here","_law_step","_law_told_here","_law_beside","_law_k","_law_test_here"] ["_law_script"] (ag jk):= .q
noncomputable def b_zo_1(g:Nat->List PV->Rx PV):DS :=
 (sIf (dTr (d2 oo (ad (g 15) .(I)) (d2 bZ (dC (.int 11)) (d2 fMod (d2 fDiv (dSee 1) (dC (.int 160))) (dC (.int 2))))))
 (aO 2 (aS (dCons .(Av) (dCons (aa 2) (dCons (aS (dCons (dC (.str "deed")) (dCons (d2 fIx (dC (.str "PQRST")) (d2 fMod (ad (g 9) (dCons (aa 1) (dCons (aa 6) dNil))) (dC (.int 5)))) dNil))) dNil)))))
 al)
noncomputable def o7(g:Nat->List PV->Rx PV):DS :=
 (ao (aO 1 (ad (g 8) (dCons (aa 0) .(Ak))))
 (ao (aO 2 (ad (g 14) (dCons (aa 1) (dCons (aK (cr (dSee 0) .(Ar) (f7 (dC (.int 8))))) dNil))))
 (ao (sIf (dTr (d2 fEq (d2 fMod (d2 fDiv (dSee 1) (dC (.int 20))) (dC (.int 8))) (dC (.int 1))))
 (sFor (dRng1 (dCons (dC (.int 12)) dNil)) (gSet 6)
 (b_zo_1 g))
 al)
 (ao (aO 3 (ad (g 17) .(I)))
 (ao (sIf (fK (dTr (d2 fEq .(Am) (dC (.int 1)))) (dTr (d2 oo (ad (g 15) .(I)) (dC (.int 7)))))
 (ao (aO 3 (cu 4 (dCons (aa 3) .(P))))
 (aO 2 (aS (dCons .(Av) (dCons (aa 2) .(I))))))
 al)
 (ao (sIf (fK (dTr (d2 fEq .(Am) (dC (.int 2)))) (dTr (d2 oo (ad (g 15) .(I)) (dC (.int 7)))))
 (ao (aO 7 (ad (g 12) (dCons (d2 fDiv (dSee 1) (dC (.int 960))) dNil)))
 (ao (aO 3 (cu 5 (dCons (ad (g 10) (dCons (aa 7) dNil)) (dCons (aa 3) .(P)))))
 (aO 2 (aS (dCons (dC .(AF)) (dCons (aa 7) (dCons (aa 2) .(I))))))))
 al)
 (ao (aO 2 (ad (g 16) (dCons (aa 2) .(Ak))))
 (ao (lA 4 (ad (g 37) .(P)))
 (ao (aO 5 (ad (g 37) .(P)))
 (ao (sIf (ka 4 (dw (aY (dTr (ad (g 21) (dCons (ax bK (aa 4)) .(I))))) (aY (dTr (ad (g 23) (dCons (aa 4) .(I)))))))
 (aq (dC (.bl false)))
 al)
 (eU aC 4
 (aq (cH (ad (g 23) (dCons (aa 5) .(I))) (d2 fEq (ax aC (ad (g 37) .(P))) (ax aC (aa 5))))))))))))))))
theorem vK:aj ["self"] ["self"] (ag nE):= .q
noncomputable def sB(g:Nat->List PV->Rx PV):DS :=
 (aq (dC (.str "")))
theorem vL:aj ["self"] ["self"] (ag nG):= .q
noncomputable def sC(g:Nat->List PV->Rx PV):DS :=
 (aq (dC (.str "")))
theorem vM:aj ["self"] ["self"] (ag nH):= .q
noncomputable def sE(g:Nat->List PV->Rx PV):DS :=
 (aq (ax eE (aa 0)))
theorem vN:aj ["self"] ["self"] (ag nI):= .q
noncomputable def sF(g:Nat->List PV->Rx PV):DS :=
 (aq (d2 bZ (bn ck g (ax cB (aa 0)) dNil) (bn ck g (ax cC (aa 0)) dNil)))
theorem vO:aj ["self"] ["self"] (ag nJ):= .q
noncomputable def sG(g:Nat->List PV->Rx PV):DS :=
 (aq (d2 bZ (bn ck g (ax eW (aa 0)) dNil) (bn ck g (ax iM (aa 0)) dNil)))
theorem vP:aj ["self"] ["self"] (ag nL):= .q
noncomputable def sH(g:Nat->List PV->Rx PV):DS :=
 (aq (bn ck g (ax cz (aa 0)) dNil))
theorem vQ:aj .(Aq) .(Aq) (ag nM):= .q
noncomputable def sI(g:Nat->List PV->Rx PV):DS :=
 (aq (dC (.bl true)))
theorem vR:aj .(Aq) .(Aq) (ag nN):= .q
noncomputable def sJ(g:Nat->List PV->Rx PV):DS :=
 (aq (d2 fEq (d2 pi (d2 pk (dSee 1) (mI ia (ax eE (aa 0)))) (dC (.int 1))) (dC (.int 1))))
theorem vS:aj .(Aq) .(Aq) (ag nO):= .q
noncomputable def sK(g:Nat->List PV->Rx PV):DS :=
 (aq (ge (bn aL g (ax iL (aa 0)) .(R))))
theorem vT:aj .(Aq) .(Aq) (ag nP):= .q
noncomputable def sL(g:Nat->List PV->Rx PV):DS :=
 (aq (cH (bn aL g (ax gu (aa 0)) .(R)) (bn aL g (ax eV (aa 0)) .(R))))
theorem vU:aj .(Aq) .(Aq) (ag nQ):= .q
noncomputable def sM(g:Nat->List PV->Rx PV):DS :=
 (aq (pw (bn aL g (ax gu (aa 0)) .(R)) (bn aL g (ax eV (aa 0)) .(R))))
theorem vV:aj ["self","room"] ["self","room"] (ag nR):= .q
noncomputable def o9(g:Nat->List PV->Rx PV):DS :=
 (ao (sIf (dTr (d2 fEq (dSee 1) (dC (.int 0))))
 (aq (ax bK (aa 0)))
 al)
 (aq (d2 fIx (ad (g 0) (dCons (ax bK (aa 0)) dNil)) (d2 jQ (dSee 1) (dC (.int 1))))))
theorem vW:aj ["self","step"] ["self","step"] (ag nS):= .q
noncomputable def kg(g:Nat->List PV->Rx PV):DS :=
 (ao (jh 13 0 (aa 1))
 (jh 13 1 (ad (g 1) (dCons (aa 1) .(Ak)))))
noncomputable def gF:Nat->Nat->List PV->Rx PV
 |0,_,_=> .bad
 |n+1,0,ws=>aI [false] 2 (gJ (gF n)) ws
 |n+1,1,ws=>aI [false,false] 2 (gK (gF n)) ws
 |n+1,2,ws=>aI [false] 1 (sy (gF n)) ws
 |n+1,3,ws=>aI [false,false] 4 (lC (gF n)) ws
 |n+1,4,ws=>aI [false,false] 5 (lD (gF n)) ws
 |n+1,5,ws=>aI [false,false] 4 (lE (gF n)) ws
 |n+1,6,ws=>aI [false,false] 2 (lF (gF n)) ws
 |n+1,7,ws=>aI [false,false] 2 (lG (gF n)) ws
 |n+1,8,ws=>aI [false,false] 2 (lH (gF n)) ws
 |n+1,9,ws=>aI [false,false] 3 (nV (gF n)) ws
 |n+1,10,ws=>aI [false] 6 (nW (gF n)) ws
 |n+1,11,ws=>aI [false,false] 7 (nX (gF n)) ws
 |n+1,12,ws=>aI [false] 1 (nY (gF n)) ws
 |n+1,13,ws=>aI [false,false] 5 (nZ (gF n)) ws
 |n+1,14,ws=>aI [false,false] 4 (kf (gF n)) ws
 |n+1,15,ws=>aI [false] 1 (dU (gF n)) ws
 |n+1,16,ws=>aI [false,false] 3 (gL (gF n)) ws
 |n+1,17,ws=>aI [false] 1 (gM (gF n)) ws
 |n+1,18,ws=>aI [false,false] 5 (gN (gF n)) ws
 |n+1,19,ws=>aI [false,false] 3 (gO (gF n)) ws
 |n+1,20,ws=>aI [false,false] 2 (o3 (gF n)) ws
 |n+1,21,ws=>aI [false,false] 2 (gP (gF n)) ws
 |n+1,22,ws=>aI [false,false] 4 (o5 (gF n)) ws
 |n+1,23,ws=>aI [false,false] 5 (o6 (gF n)) ws
 |n+1,24,ws=>aI [false] 8 (o7 (gF n)) ws
 |n+1,25,ws=>aI [false] 1 (sB (gF n)) ws
 |n+1,26,ws=>aI [false] 1 (sC (gF n)) ws
 |n+1,27,ws=>aI [false] 1 (sE (gF n)) ws
 |n+1,28,ws=>aI [false] 1 (sF (gF n)) ws
 |n+1,29,ws=>aI [false] 1 (sG (gF n)) ws
 |n+1,30,ws=>aI [false] 1 (sH (gF n)) ws
 |n+1,31,ws=>aI [false,false] 2 (sI (gF n)) ws
 |n+1,32,ws=>aI [false,false] 2 (sJ (gF n)) ws
 |n+1,33,ws=>aI [false,false] 2 (sK (gF n)) ws
 |n+1,34,ws=>aI [false,false] 2 (sL (gF n)) ws
 |n+1,35,ws=>aI [false,false] 2 (sM (gF n)) ws
 |n+1,36,ws=>aI [false,false] 2 (o9 (gF n)) ws
 |n+1,37,ws=>jZ 13 2 [false] 2 (kg (gF n)) ws
 |_+1,_,_=> .bad
#synth .(gq g_z0 0 (aI [false] 2) gJ)
#synth .(gq g_z1 1 (aI [false,false] 2) gK)
#synth .(gq g_z3 3 (aI [false,false] 4) lC)
#synth .(gq g_z4 4 (aI [false,false] 5) lD)
#synth .(gq g_z5 5 (aI [false,false] 4) lE)
#synth .(gq g_z6 6 (aI [false,false] 2) lF)
#synth .(gq g_z7 7 (aI [false,false] 2) lG)
#synth .(gq g_z8 8 (aI [false,false] 2) lH)
#synth .(gq g_z9 9 (aI [false,false] 3) nV)
#synth .(gq g_za 10 (aI [false] 6) nW)
#synth .(gq g_zb 11 (aI [false,false] 7) nX)
#synth .(gq g_zc 12 (aI [false] 1) nY)
#synth .(gq g_zd 13 (aI [false,false] 5) nZ)
#synth .(gq g_ze 14 (aI [false,false] 4) kf)
#synth .(gq g_zf 15 (aI [false] 1) dU)
#synth .(gq g_zg 16 (aI [false,false] 3) gL)
#synth .(gq g_zh 17 (aI [false] 1) gM)
#synth .(gq g_zi 18 (aI [false,false] 5) gN)
#synth .(gq g_zj 19 (aI [false,false] 3) gO)
#synth .(gq g_zl 21 (aI [false,false] 2) gP)
#synth .(gq g_zB 37 (jZ 13 2 [false] 2) kg)
theorem sN:∀(n:Nat) (ws:List PV) (w:PV),gF n 37 ws= .ok w->∃fs,w= .obj 13 fs
 |0,ws,w,h=>by cases h
 |n+1,ws,w,h=>mV h
structure sO(P:Program)(w:World)(K:Fg)(mg:Str->Option Value)(base:Bs)(cA:Nat->Addr)(n:Nat):Prop where
 h_z0:.(ta "rests_behind" [false] 0)
 h_z1:.(ta "doors_of" [false,false] 1)
 h_z2:.(ta "ended" [false] 2)
 h_z3:.(ta "row_doors" [false,false] 3)
 h_z4:.(ta "choice_doors" [false,false] 4)
 h_z5:.(ta "loop_doors" [false,false] 5)
 h_z6:.(ta "loop_door" [false,false] 6)
 h_z7:.(ta "gone_on" [false,false] 7)
 h__law_cell_at:.(ta "_law_cell_at" [false,false] 8)
 h__law_draw:.(ta "_law_draw" [false,false] 9)
 h__law_sign:.(ta "_law_sign" [false] 10)
 h__law_holds:.(ta "_law_holds" [false,false] 11)
 h__law_test:.(ta "_law_test" [false] 12)
 h__law_grown:.(ta "_law_grown" [false,false] 13)
 h__law_prog:.(ta "_law_prog" [false,false] 14)
 h__law_count:.(ta "_law_count" [false] 15)
 h__law_numbered:.(ta "_law_numbered" [false,false] 16)
 h__law_built:.(ta "_law_built" [false] 17)
 h__law_first:.(ta "_law_first" [false,false] 18)
 h__law_left:.(ta "_law_left" [false,false] 19)
 h__law_same_test:.(ta "_law_same_test" [false,false] 20)
 h__law_same:.(ta "_law_same" [false,false] 21)
 h__law_right:.(ta "_law_right" [false,false] 22)
 h__law_told:.(ta "_law_told" [false,false] 23)
 h_zo:.(ta "law" [false] 24)
 m_holds:iB P w K mg base (pg cA) (2*n+3) "holds" [false] aL (gF n)
 m_letters:iB P w K mg base (pg cA) (2*n+3) "letters" [] ck (gF n)
 m_rest_of:iB P w K mg base (pg cA) (2*n+3) "rest_of" [false] q_rest_of (gF n)
 n_zP:rR P w K mg base (pg cA) (2*n+3) "Rooms" 13 [false] (gF n 37)
section
variable{P:Program}{w:World}{K:Fg}{mg:Str->Option Value}{base:Bs}{cA:Nat->Addr}{ts:List Addr}{n:Nat}(C:Ct P w K mg base cA ts)(I:sO P w K mg base cA n)
variable{f:Addr}{cdv:Value}{A:Around}{outer:List Env}{s:Shared}{H:Hp}{E:XK}
include C I
theorem zb(hr:.(hr "rests_behind" mX)):.(bo ["step","begun"] "rests_behind" mX gJ):=by
 unfold gJ
 exact(ae (aD (t_val (bH rfl C.z_isinstance C.i_zF aW (b_var 0) (aV rfl C.c_zF)))
 (af (ah (p_of_n (dD (a_cons (iC C.k_zD rfl rfl C.c_zD) a_nil)))))
 ai)
 (ae (aD (t_val (bH rfl C.z_isinstance C.i_zG aW (b_var 0) (aV rfl C.c_zG)))
 (ae (mS (i:=1) qv.nd rfl (Or.inl rfl) (own:=["left"]) (caps:=[("step",0)]) .(V) rfl (s_list (b_of (p_fn I.h_z0 hr.s rfl (a_cons (p_fld C.f_head (p_var 0) rfl) a_nil)))) (.(gn ["left","step"])) (fun _ _ _ _=>ts_nil) (fun _ _ _ _=>(p_new (k:=2*n+2) C.n_zG hr rfl (a_cons (p_var 0) (a_cons (p_fld C.f_tail (p_var 1) rfl) a_nil)) rfl)) gk_set)
 (af (ah (p_of_n (hU (b_var 1) (b_of (p_fn I.h_z0 hr.s rfl (a_cons (p_fld C.f_tail (p_var 0) rfl) a_nil))) dL)))))
 ai)
 (ae (aD (t_val (bH rfl C.z_isinstance C.i_zH aW (b_var 0) (aV rfl C.c_zH)))
 (af (ah (p_of_n (hU (b_of (p_fn I.h_z0 hr.s rfl (a_cons (p_fld C.f_yes (p_var 0) rfl) a_nil))) (b_of (p_fn I.h_z0 hr.s rfl (a_cons (p_fld C.f_no (p_var 0) rfl) a_nil))) dL))))
 ai)
 (ae (aD (t_val (bH rfl C.z_isinstance C.i_zI aW (b_var 0) (aV rfl C.c_zI)))
 (af (ah (p_of_n (eC (own:=["left"]) (caps:=[("step",0)]) .(V) rfl (s_list (b_of (p_fn I.h_z0 hr.s rfl (a_cons (p_fld C.f_body (p_var 0) rfl) a_nil)))) (.(gn ["left","step"])) (fun _ _ _ _=>ts_nil) (fun _ _ _ _=>(p_new (k:=2*n+2) C.n_zG hr rfl (a_cons (p_var 0) .(N)) rfl)) gk_set))))
 ai)
 (af (ah (p_of_n (dD a_nil))))))))
theorem zc(hr:.(hr "doors_of" mY)):.(bo ["step","ahead"] "doors_of" mY gK):=by
 obtain⟨_,g_DONE⟩:=C.e_DONE
 obtain⟨_,g_SETTINGS⟩:=C.e_SETTINGS
 obtain⟨_,g_STOPPED⟩:=C.e_STOPPED
 unfold gK
 exact(ae (aD (t_val (bH rfl C.z_isinstance C.i_zD aW (b_var 0) (aV rfl C.c_zD)))
 (af (ah (p_of_n (dD (a_cons (p_fn I.h_z2 hr.s rfl (a_cons (eu rfl g_DONE) a_nil)) a_nil)))))
 ai)
 (ae (aD (t_val (bH rfl C.z_isinstance C.i_zE aW (b_var 0) (aV rfl C.c_zE)))
 (af (ah (p_of_n (dD (a_cons (p_fn I.h_z2 hr.s rfl (a_cons (eu rfl g_STOPPED) a_nil)) a_nil)))))
 ai)
 (ae (aD (t_val (bH rfl C.z_isinstance C.i_zF aW (b_var 0) (aV rfl C.c_zF)))
 (af (ah (p_of_n (dD (a_cons (p_of_n (qk (dD (a_cons (aF (a_cons (p_fld C.f_name (p_var 0) rfl) (a_cons (bS (b_var 1) (b_of p_int)) a_nil))) a_nil)) (p_topI rfl g_SETTINGS))) (a_cons (p_fn I.h_z2 hr.s rfl (a_cons (eu rfl g_DONE) a_nil)) a_nil))))))
 ai)
 (ae (aD (t_val (bH rfl C.z_isinstance C.i_zG aW (b_var 0) (aV rfl C.c_zG)))
 (af (ah (p_fn I.h_z3 hr.s rfl (a_cons (p_var 0) .(N)))))
 ai)
 (ae (aD (t_val (bH rfl C.z_isinstance C.i_zH aW (b_var 0) (aV rfl C.c_zH)))
 (af (ah (p_fn I.h_z4 hr.s rfl (a_cons (p_var 0) .(N)))))
 ai)
 (af (ah (p_fn I.h_z5 hr.s rfl (a_cons (p_var 0) .(N))))))))))
theorem zd(hr:.(hr "ended" mZ)):.(bo ["end"] "ended" mZ sy):=by
 obtain⟨_,g_SETTINGS⟩:=C.e_SETTINGS
 unfold sy
 exact(af (ah (p_of_n (qk (dD (a_cons (aF (a_cons (p_var 0) (a_cons p_int a_nil))) a_nil)) (p_topI rfl g_SETTINGS)))))
theorem ze(hr:.(hr "row_doors" n3)):.(bo ["step","ahead","head","tail"] "row_doors" n3 lC):=by
 unfold lC
 exact(ae (aT (i:=2) nT.nd rfl (Or.inl rfl) (p_fn I.h_z1 hr.s rfl (a_cons (p_fld C.f_head (p_var 0) rfl) .(N))))
 (ae (aT (i:=3) nT.nd rfl (Or.inr rfl) (p_fn I.h_z1 hr.s rfl (a_cons (p_fld C.f_tail (p_var 0) rfl) (a_cons (j9 (b_of (bS (b_var 1) (b_of (dM cP fh rfl C.z_len PySem.boot_len (cI (b_var 2) a_nil))))) (b_of p_int)) a_nil))))
 (af (ah (p_of_n (hU (b_of (p_of_n (eC (own:=["doors"]) (caps:=[("tail",3)]) .(V) rfl (s_list (b_var 2)) (.(gn ["doors","tail"])) (fun _ _ _ _=>ts_nil) (fun _ _ _ _=>(p_fn I.h_z7 hr.s rfl (a_cons (p_var 0) (a_cons (p_at (b_var 1) (b_of p_int) .(D)) a_nil)))) gk_set))) (b_of (p_of_n (n_cut (b_var 3) (o_some p_int) o_none))) dL))))))
theorem zf(hr:.(hr "choice_doors" n4)):.(bo ["step","ahead","yes","no","begin"] "choice_doors" n4 lD):=by
 obtain⟨_,g_SETTINGS⟩:=C.e_SETTINGS
 unfold lD
 exact(ae (aT (i:=2) kP.nd rfl (Or.inr rfl) (p_fn I.h_z1 hr.s rfl (a_cons (p_fld C.f_yes (p_var 0) rfl) .(N))))
 (ae (aT (i:=3) kP.nd rfl (Or.inr rfl) (p_fn I.h_z1 hr.s rfl (a_cons (p_fld C.f_no (p_var 0) rfl) (a_cons (j9 (b_of (bS (b_var 1) (b_of (dM cP fh rfl C.z_len PySem.boot_len (cI (b_var 2) a_nil))))) (b_of p_int)) a_nil))))
 (ae (mS (i:=4) kP.nd rfl (Or.inl rfl) (own:=["setting"]) (caps:=[("yes",2),("no",3),("step",0)]) ⟨rfl,by decide +kernel,by decide +kernel,⟨⟨rfl,rfl,Or.inl rfl⟩,⟨⟨rfl,rfl,Or.inl rfl⟩,.(Ah)⟩⟩,rfl⟩ rfl (s_of_i (i_rng1 rfl C.z_range (a_cons (p_topI rfl g_SETTINGS) a_nil))) (.(gn ["setting","yes","no","step"])) (fun _ _ _ _=>ts_nil) (fun _ _ _ _=>(p_ifV (t_val (p_meth I.m_holds hr.s (p_fld C.f_test (p_var 3) rfl) (a_cons (p_var 0) a_nil))) (p_at (b_of (p_at (b_var 1) (b_of p_int) .(D))) (b_var 0) .(D)) (p_at (b_of (p_at (b_var 2) (b_of p_int) .(D))) (b_var 0) .(D)))) gk_set)
 (af (ah (p_of_n (hU (b_of (p_of_n (hU (b_of (p_of_n (dD (a_cons (p_var 4) a_nil)))) (b_of (p_of_n (n_cut (b_var 2) (o_some p_int) o_none))) dL))) (b_of (p_of_n (n_cut (b_var 3) (o_some p_int) o_none))) dL)))))))
theorem zg(hr:.(hr "loop_doors" n5)):.(bo ["step","ahead","body","begin"] "loop_doors" n5 lE):=by
 obtain⟨_,g_SETTINGS⟩:=C.e_SETTINGS
 unfold lE
 exact(ae (aT (i:=2) nU.nd rfl (Or.inr rfl) (p_fn I.h_z1 hr.s rfl (a_cons (p_fld C.f_body (p_var 0) rfl) .(N))))
 (ae (aT (i:=3) nU.nd rfl (Or.inr rfl) (p_of_n (eC (own:=["setting"]) (caps:=[("body",2),("step",0)]) ⟨rfl,by decide +kernel,by decide +kernel,⟨⟨rfl,rfl,Or.inl rfl⟩,.(Ah)⟩,rfl⟩ rfl (s_of_i (i_rng1 rfl C.z_range (a_cons (p_topI rfl g_SETTINGS) a_nil))) (.(gn ["setting","body","step"])) (fun _ _ _ _=>ts_nil) (fun _ _ _ _=>(p_fn I.h_z6 hr.s rfl (a_cons (p_meth I.m_holds hr.s (p_fld C.f_test (p_var 2) rfl) (a_cons (p_var 0) a_nil)) (a_cons (p_at (b_of (p_at (b_var 1) (b_of p_int) .(D))) (b_var 0) .(D)) a_nil)))) gk_set)))
 (af (ah (p_of_n (hU (b_of (p_of_n (dD .(AB)))) (b_of (p_of_n (eC (own:=["doors"]) (caps:=[("begin",3)]) .(V) rfl (s_list (b_of (p_of_n (n_cut (b_var 2) (o_some p_int) o_none)))) (.(gn ["doors","begin"])) (fun _ _ _ _=>ts_nil) (fun _ _ _ _=>(p_fn I.h_z7 hr.s rfl (a_cons (p_var 0) .(N)))) gk_set))) dL))))))
theorem zh(hr:.(hr "loop_door" n6)):.(bo ["holds","door"] "loop_door" n6 lF):=by
 obtain⟨_,g_DONE⟩:=C.e_DONE
 obtain⟨_,g_HUNG⟩:=C.e_HUNG
 unfold lF
 exact(ae (aD (dZ (t_val (p_var 0)))
 (af (ah (aF (a_cons (eu rfl g_DONE) (a_cons p_int a_nil)))))
 ai)
 (ae (aD (t_eq hr (b_of (p_at (b_var 1) (b_of p_int) .(D))) (b_of (eu rfl g_DONE)))
 (af (ah (aF (a_cons (eu rfl g_HUNG) (a_cons p_int a_nil)))))
 ai)
 (af (ah (p_var 1)))))
theorem zi(hr:.(hr "gone_on" ng)):.(bo ["doors","later"] "gone_on" ng lG):=by
 obtain⟨_,g_DONE⟩:=C.e_DONE
 obtain⟨_,g_SETTINGS⟩:=C.e_SETTINGS
 unfold lG
 exact(af (ah (p_of_n (eC (own:=["setting"]) (caps:=[("later",1),("doors",0)]) ⟨rfl,by decide +kernel,by decide +kernel,⟨⟨rfl,rfl,Or.inl rfl⟩,.(Ah)⟩,rfl⟩ rfl (s_of_i (i_rng1 rfl C.z_range (a_cons (p_topI rfl g_SETTINGS) a_nil))) (.(gn ["setting","later","doors"])) (fun _ _ _ _=>ts_nil) (fun _ _ _ _=>(p_ifV (t_eq hr (b_of (p_at (b_of (p_at (b_var 2) (b_var 0) .(D))) (b_of p_int) .(D))) (b_of (eu rfl g_DONE))) (p_at (b_var 1) (b_var 0) .(D)) (p_at (b_var 2) (b_var 0) .(D)))) gk_set))))
theorem zj(hr:.(hr "_law_cell_at" nh)):.(bo ["_law_script","_law_k"] "_law_cell_at" nh lH):=by
 unfold lH
 exact(ae (aD (pq (b_var 1) (b_of (dM cP fh rfl C.z_len PySem.boot_len (cI (b_var 0) a_nil))))
 (af (ah (p_at (b_var 0) (b_var 1) .(D))))
 ai)
 (af (ah p_int)))
theorem zk(hr:.(hr "_law_draw" ni)):.(bo ["_law_cell","_law_k","_law_number"] "_law_draw" ni nV):=by
 unfold nV
 exact(ae (aT (i:=2) qw.nd rfl (Or.inl rfl) (cG (b_of (ml (b_of (bS (b_of (bS (b_var 0) (b_of (ml (b_of p_int) (b_var 1))))) (b_of p_int))) (b_of p_int))) (b_of p_int)))
 (af (ah (cG (b_of (ml (b_var 2) (b_of (bS (b_of (eQ (b_var 2) (b_of p_int))) (b_of p_int))))) (b_of p_int)))))
theorem zl(hr:.(hr "_law_sign" nj)):.(bo ["_law_test_here","_law_one","_law_two","_law_kind","_law_i","_law_j"] "_law_sign" nj nW):=by
 unfold nW
 exact(ae (kH (p_var 0) (kE rfl (bA (bv (i:=3) ib.nd rfl (Or.inl rfl)) (bA (bv (i:=4) ib.nd rfl (Or.inl rfl)) (bA (bv (i:=5) ib.nd rfl (Or.inl rfl)) iD)))))
 (ae (aT (i:=1) ib.nd rfl (Or.inl rfl) (p_new (k:=2*n+2) C.n_zL hr rfl (a_cons (p_at (b_of ar) (b_var 4) .(D)) a_nil) rfl))
 (ae (aT (i:=2) ib.nd rfl (Or.inl rfl) (p_new (k:=2*n+2) C.n_zL hr rfl (a_cons (p_at (b_of ar) (b_var 5) .(D)) a_nil) rfl))
 (ae (aD (t_eq hr (b_var 3) (b_of p_int))
 (af (ah (p_new (k:=2*n+2) C.n_zM hr rfl .(N) rfl)))
 ai)
 (ae (aD (t_eq hr (b_var 3) (b_of p_int))
 (af (ah (p_new (k:=2*n+2) C.n_zN hr rfl (a_cons (p_var 1) .(As)) rfl)))
 ai)
 (ae (aD (t_eq hr (b_var 3) (b_of p_int))
 (af (ah (p_new (k:=2*n+2) C.n_zO hr rfl (a_cons (p_var 1) (a_cons (p_new (k:=2*n+2) C.n_zM hr rfl .(As) rfl) a_nil)) rfl)))
 ai)
 (ae (aD (t_eq hr (b_var 3) (b_of p_int))
 (af (ah (iC C.k_zK rfl rfl C.c_zK)))
 ai)
 (ae (aD (t_eq hr (b_var 3) (b_of p_int))
 (af (ah (p_new (k:=2*n+2) C.n_zN hr rfl (a_cons (p_var 1) (a_cons (p_new (k:=2*n+2) C.n_zM hr rfl .(As) rfl) a_nil)) rfl)))
 ai)
 (af (ah (p_var 1)))))))))))
theorem zm(hr:.(hr "_law_holds" nk)):.(bo ["_law_test_here","_law_s","_law_one","_law_two","_law_kind","_law_i","_law_j"] "_law_holds" nk nX):=by
 unfold nX
 exact(ae (kH (p_var 0) (kE rfl (bA (bv (i:=4) ie.nd rfl (Or.inl rfl)) (bA (bv (i:=5) ie.nd rfl (Or.inl rfl)) (bA (bv (i:=6) ie.nd rfl (Or.inl rfl)) iD)))))
 (ae (aT (i:=2) ie.nd rfl (Or.inl rfl) (jW hr (b_of (mk (b_of (mm (b_var 1) (b_var 5))) (b_of p_int))) (b_of p_int)))
 (ae (aT (i:=3) ie.nd rfl (Or.inl rfl) (jW hr (b_of (mk (b_of (mm (b_var 1) (b_var 6))) (b_of p_int))) (b_of p_int)))
 (af (ah (p_at (b_of (p_of_n (dD (a_cons (p_var 2) (a_cons (gf (p_var 2)) (a_cons (cL (p_var 2) (ee (p_var 3))) (a_cons (qb (p_var 2) (ee (gf (p_var 3)))) (a_cons gc (a_cons (cL (p_var 2) (ee (gf (p_var 3)))) a_nil))))))))) (b_var 4) .(D)))))))
theorem zn(hr:.(hr "_law_test" nl)):.(bo ["_law_cell"] "_law_test" nl nY):=by
 unfold nY
 exact(af (ah (aF (a_cons (cG (b_var 0) (b_of p_int)) (a_cons (cG (b_of (eQ (b_var 0) (b_of p_int))) (b_of p_int)) (a_cons (cG (b_of (eQ (b_var 0) (b_of p_int))) (b_of p_int)) a_nil))))))
theorem zo(hr:.(hr "_law_grown" nq)):.(bo ["_law_prog_here","_law_cell","_law_way","_law_deed","_law_test_here"] "_law_grown" nq nZ):=by
 unfold nZ
 exact(ae (aT (i:=2) kQ.nd rfl (Or.inl rfl) (cG (b_of (p_fn I.h__law_draw hr.s rfl (a_cons (p_var 1) (a_cons p_int a_nil)))) (b_of p_int)))
 (ae (aT (i:=3) kQ.nd rfl (Or.inl rfl) (aF (a_cons ar (a_cons (p_at (b_of ar) (b_of (cG (b_of (p_fn I.h__law_draw hr.s rfl (a_cons (p_var 1) (a_cons p_int a_nil)))) (b_of p_int))) .(D)) a_nil))))
 (ae (aT (i:=4) kQ.nd rfl (Or.inl rfl) (p_fn I.h__law_test hr.s rfl (a_cons (p_fn I.h__law_draw hr.s rfl (a_cons (p_var 1) (a_cons p_int a_nil))) a_nil)))
 (ae (aD (t_eq hr (b_var 2) (b_of p_int))
 (af (ah (aF (a_cons ar (a_cons (p_var 0) .(AB))))))
 ai)
 (ae (aD (t_eq hr (b_var 2) (b_of p_int))
 (af (ah (aF (a_cons ar (a_cons (p_var 3) (a_cons (p_var 0) a_nil))))))
 ai)
 (ae (aD (t_eq hr (b_var 2) (b_of p_int))
 (af (ah (aF (a_cons ar (a_cons (p_var 4) (a_cons (p_var 0) a_nil))))))
 ai)
 (ae (aD (t_eq hr (b_var 2) (b_of p_int))
 (af (ah (aF (a_cons ar (a_cons (p_var 4) (a_cons (p_var 0) .(AB)))))))
 ai)
 (ae (aD (t_eq hr (b_var 2) (b_of p_int))
 (af (ah (aF (a_cons ar (a_cons (p_var 4) (a_cons (p_var 3) (a_cons (p_var 0) a_nil)))))))
 ai)
 (ae (aD (t_eq hr (b_var 2) (b_of p_int))
 (af (ah (aF (a_cons ar (a_cons (p_var 0) (a_cons (aF (a_cons ar (a_cons (p_var 4) (a_cons (aF (a_cons ar a_nil)) (a_cons (aF (a_cons ar a_nil)) a_nil))))) a_nil))))))
 ai)
 (ae (aD (t_eq hr (b_var 2) (b_of p_int))
 (af (ah (aF (a_cons ar (a_cons (aF (a_cons ar (a_cons (p_var 4) .(AB)))) (a_cons (p_var 0) a_nil))))))
 ai)
 (af (ah (aF (a_cons ar (a_cons (p_var 4) (a_cons (aF (a_cons ar a_nil)) (a_cons (p_var 0) a_nil)))))))))))))))))
theorem zp(hr:.(hr "_law_prog" nr)):.(bo ["_law_cell","_law_cells","_law_prog_here","_law_one"] "_law_prog" nr kf):=by
 unfold kf
 exact(ae (aT (i:=2) kR.nd rfl (Or.inl rfl) (p_at (b_of (p_of_n (dD (a_cons (aF (a_cons ar (a_cons (p_at (b_of ar) (b_of (cG (b_of (eQ (b_var 0) (b_of p_int))) (b_of p_int))) .(D)) a_nil))) (a_cons (aF (a_cons ar a_nil)) (a_cons (aF (a_cons ar a_nil)) (a_cons (aF (a_cons ar (a_cons ar a_nil))) a_nil))))))) (b_of (cG (b_var 0) (b_of p_int))) .(D)))
 (ae (kI PassesOwn.never rfl (DN.i_list (p_var 1)) (bv (i:=3) kR.nd rfl (Or.inl rfl))
 (af (aT (i:=2) kR.nd rfl (Or.inl rfl) (p_fn I.h__law_grown hr.s rfl (a_cons (p_var 2) .(AB))))))
 (af (ah (p_var 2)))))
theorem zq(hr:.(hr "_law_count" nt)):.(bo ["_law_prog_here"] "_law_count" nt dU):=by
 unfold dU
 exact(ae (aD (t_eq hr (b_of .(A)) (b_of ar))
 (af (ah (bS (b_of (p_fn I.h__law_count hr.s rfl (a_cons .(A) a_nil))) (b_of (p_fn I.h__law_count hr.s rfl (a_cons .(A) a_nil))))))
 ai)
 (ae (aD (t_eq hr (b_of .(A)) (b_of ar))
 (af (ah (bS (b_of (p_fn I.h__law_count hr.s rfl (a_cons .(A) a_nil))) (b_of (p_fn I.h__law_count hr.s rfl (a_cons .(A) a_nil))))))
 ai)
 (ae (aD (t_eq hr (b_of .(A)) (b_of ar))
 (af (ah (p_fn I.h__law_count hr.s rfl (a_cons .(A) a_nil))))
 ai)
 (af (ah (ja gR mq rfl C.z_int boot_int (cI (b_of (jW hr (b_of .(A)) (b_of ar))) a_nil)))))))
theorem zr(hr:.(hr "_law_numbered" nu)):.(bo ["_law_prog_here","_law_at","_law_later"] "_law_numbered" nu gL):=by
 unfold gL
 exact(ae (aD (t_eq hr (b_of .(A)) (b_of ar))
 (af (ah (aF (a_cons ar (a_cons .(A) (a_cons (bS (b_var 1) (b_of p_int)) a_nil))))))
 ai)
 (ae (aD (t_eq hr (b_of .(A)) (b_of ar))
 (af (ah (aF (a_cons ar (a_cons (p_fn I.h__law_numbered hr.s rfl (a_cons .(A) .(N))) (a_cons (p_fn I.h__law_numbered hr.s rfl (a_cons .(A) (a_cons (bS (b_var 1) (b_of (p_fn I.h__law_count hr.s rfl (a_cons .(A) a_nil)))) a_nil))) a_nil))))))
 ai)
 (ae (aD (t_eq hr (b_of .(A)) (b_of ar))
 (ae (aT (i:=2) qx.nd rfl (Or.inl rfl) (bS (b_var 1) (b_of (p_fn I.h__law_count hr.s rfl (a_cons .(A) a_nil)))))
 (af (ah (aF (a_cons ar (a_cons .(A) (a_cons (p_fn I.h__law_numbered hr.s rfl (a_cons .(A) .(N))) (a_cons (p_fn I.h__law_numbered hr.s rfl (a_cons .(A) .(As))) a_nil))))))))
 ai)
 (ae (aD (t_eq hr (b_of .(A)) (b_of ar))
 (af (ah (aF (a_cons ar (a_cons .(A) (a_cons (p_fn I.h__law_numbered hr.s rfl (a_cons .(A) .(N))) a_nil))))))
 ai)
 (af (ah (p_var 0)))))))
theorem zt(hr:.(hr "_law_built" nv)):.(bo ["_law_prog_here"] "_law_built" nv gM):=by
 unfold gM
 exact(ae (aD (t_eq hr (b_of .(A)) (b_of ar))
 (af (ah (p_new (k:=2*n+2) C.n_zF hr rfl (a_cons .(A) a_nil) rfl)))
 ai)
 (ae (aD (t_eq hr (b_of .(A)) (b_of ar))
 (af (ah (p_new (k:=2*n+2) C.n_zG hr rfl (a_cons (p_fn I.h__law_built hr.s rfl (a_cons .(A) a_nil)) (a_cons (p_fn I.h__law_built hr.s rfl (a_cons .(A) a_nil)) a_nil)) rfl)))
 ai)
 (ae (aD (t_eq hr (b_of .(A)) (b_of ar))
 (af (ah (p_new (k:=2*n+2) C.n_zH hr rfl (a_cons (p_fn I.h__law_sign hr.s rfl (a_cons .(A) a_nil)) (a_cons (p_fn I.h__law_built hr.s rfl (a_cons .(A) a_nil)) (a_cons (p_fn I.h__law_built hr.s rfl (a_cons .(A) a_nil)) a_nil))) rfl)))
 ai)
 (ae (aD (t_eq hr (b_of .(A)) (b_of ar))
 (af (ah (p_new (k:=2*n+2) C.n_zI hr rfl (a_cons (p_fn I.h__law_sign hr.s rfl (a_cons .(A) a_nil)) (a_cons (p_fn I.h__law_built hr.s rfl (a_cons .(A) a_nil)) a_nil)) rfl)))
 ai)
 (ae (aD (t_eq hr (b_of .(A)) (b_of ar))
 (af (ah (iC C.k_zE rfl rfl C.c_zE)))
 ai)
 (af (ah (iC C.k_zD rfl rfl C.c_zD))))))))
theorem zu(hr:.(hr "_law_first" nw)):.(bo ["_law_prog_here","_law_s","_law_what","_law_place","_law_left_here"] "_law_first" nw gN):=by
 unfold gN
 exact(ae (aD (t_eq hr (b_of .(A)) (b_of ar))
 (af (ah (aF (a_cons .(A) (a_cons .(A) (a_cons (aF (a_cons ar a_nil)) a_nil))))))
 ai)
 (ae (aD (t_eq hr (b_of .(A)) (b_of ar))
 (af (ah (p_fn I.h__law_first hr.s rfl (a_cons (p_at (b_var 0) (b_of (bS (b_of p_int) (b_of (ja gR mq rfl C.z_int boot_int (cI (b_of (gf (p_fn I.h__law_holds hr.s rfl (a_cons .(A) .(N))))) a_nil))))) .(D)) .(N)))))
 ai)
 (ae (aD (t_eq hr (b_of .(A)) (b_of ar))
 (ae (kH (p_fn I.h__law_first hr.s rfl (a_cons .(A) .(N))) (kE rfl (bA (bv (i:=2) gv.nd rfl (Or.inl rfl)) (bA (bv (i:=3) gv.nd rfl (Or.inl rfl)) (bA (bv (i:=4) gv.nd rfl (Or.inl rfl)) iD)))))
 (ae (aD (t_eq hr (b_var 2) (b_of ar))
 (af (ah (p_fn I.h__law_first hr.s rfl (a_cons .(A) .(N)))))
 ai)
 (af (ah (aF (a_cons (p_var 2) (a_cons (p_var 3) (a_cons (aF (a_cons ar (a_cons (p_var 4) (a_cons .(A) a_nil)))) a_nil))))))))
 ai)
 (ae (aD (pr (mn (t_eq hr (b_of .(A)) (b_of ar)) (jR (t_val (p_fn I.h__law_holds hr.s rfl (a_cons .(A) .(N)))))))
 (ae (kH (p_fn I.h__law_first hr.s rfl (a_cons .(A) .(N))) (kE rfl (bA (bv (i:=2) gv.nd rfl (Or.inl rfl)) (bA (bv (i:=3) gv.nd rfl (Or.inl rfl)) (bA (bv (i:=4) gv.nd rfl (Or.inl rfl)) iD)))))
 (ae (aD (t_eq hr (b_var 2) (b_of ar))
 (af (ah (aF (a_cons ar (a_cons p_int (a_cons mi a_nil))))))
 ai)
 (af (ah (aF (a_cons (p_var 2) (a_cons (p_var 3) (a_cons (aF (a_cons ar (a_cons (p_var 4) (a_cons (p_var 0) a_nil)))) a_nil))))))))
 ai)
 (ae (aD (t_eq hr (b_of .(A)) (b_of ar))
 (af (ah (aF (a_cons ar (a_cons p_int (a_cons mi a_nil))))))
 ai)
 (af (ah (aF (a_cons ar (a_cons p_int (a_cons mi a_nil)))))))))))
theorem zv(hr:.(hr "_law_left" ny)):.(bo ["_law_prog_here","_law_k","_law_many"] "_law_left" ny gO):=by
 unfold gO
 exact(ae (aD (t_eq hr (b_of .(A)) (b_of ar))
 (ae (aT (i:=2) o0.nd rfl (Or.inl rfl) (p_fn I.h__law_count hr.s rfl (a_cons .(A) a_nil)))
 (ae (aD (rD (b_var 1) (b_var 2))
 (af (ah (p_fn I.h__law_left hr.s rfl (a_cons .(A) (a_cons (j9 (b_var 1) (b_var 2)) a_nil)))))
 ai)
 (af (ah (aF (a_cons ar (a_cons (p_fn I.h__law_left hr.s rfl (a_cons .(A) .(N))) (a_cons .(A) a_nil))))))))
 ai)
 (ae (aD (t_eq hr (b_of .(A)) (b_of ar))
 (ae (aT (i:=2) o0.nd rfl (Or.inl rfl) (p_fn I.h__law_count hr.s rfl (a_cons .(A) a_nil)))
 (ae (aD (rD (b_var 1) (b_var 2))
 (af (ah (p_fn I.h__law_left hr.s rfl (a_cons .(A) (a_cons (j9 (b_var 1) (b_var 2)) a_nil)))))
 ai)
 (af (ah (p_fn I.h__law_left hr.s rfl (a_cons .(A) .(N)))))))
 ai)
 (ae (aD (t_eq hr (b_of .(A)) (b_of ar))
 (af (ah (aF (a_cons ar (a_cons (p_fn I.h__law_left hr.s rfl (a_cons .(A) .(N))) (a_cons (p_var 0) a_nil))))))
 ai)
 (af (ah (aF (a_cons ar a_nil)))))))
theorem zw(hr:.(hr "_law_same_test" nz)):.(bo ["_law_sign_here","_law_test_here"] "_law_same_test" nz o3):=by
 unfold o3
 exact(af (ah (jW hr (b_of (p_of_n (eC (own:=["_law_s"]) (caps:=[("_law_sign_here",0)]) .(V) rfl (s_of_i (i_rng1 rfl C.z_range (a_cons p_int a_nil))) (.(gn ["_law_s","_law_sign_here"])) (fun _ _ _ _=>ts_nil) (fun _ _ _ _=>(p_meth I.m_holds hr.s (p_var 1) (a_cons (p_var 0) a_nil))) gk_set))) (b_of (p_of_n (eC (own:=["_law_s"]) (caps:=[("_law_test_here",1)]) .(V) rfl (s_of_i (i_rng1 rfl C.z_range (a_cons p_int a_nil))) (.(gn ["_law_s","_law_test_here"])) (fun _ _ _ _=>ts_nil) (fun _ _ _ _=>(p_fn I.h__law_holds hr.s rfl (a_cons (p_var 1) (a_cons (p_var 0) a_nil)))) gk_set))))))
theorem zx(hr:.(hr "_law_same" nA)):.(bo ["_law_step","_law_prog_here"] "_law_same" nA gP):=by
 unfold gP
 exact(ae (aD (t_eq hr (b_of (p_at (b_var 1) (b_of p_int) .(D))) (b_of ar))
 (af (ah (cL (bH rfl C.z_isinstance C.i_zF aW (b_var 0) (aV rfl C.c_zF)) (ee (jW hr (b_of (p_fld C.f_name (p_var 0) rfl)) (b_of (p_at (b_var 1) (b_of p_int) .(D))))))))
 ai)
 (ae (aD (t_eq hr (b_of (p_at (b_var 1) (b_of p_int) .(D))) (b_of ar))
 (af (ah (cL (bH rfl C.z_isinstance C.i_zG aW (b_var 0) (aV rfl C.c_zG)) (cL (p_fn I.h__law_same hr.s rfl (a_cons (p_fld C.f_head (p_var 0) rfl) (a_cons (p_at (b_var 1) (b_of p_int) .(D)) a_nil))) (ee (p_fn I.h__law_same hr.s rfl (a_cons (p_fld C.f_tail (p_var 0) rfl) (a_cons (p_at (b_var 1) (b_of p_int) .(D)) a_nil))))))))
 ai)
 (ae (aD (t_eq hr (b_of (p_at (b_var 1) (b_of p_int) .(D))) (b_of ar))
 (ae (aD (pr (jS (dZ (t_val (bH rfl C.z_isinstance C.i_zH aW (b_var 0) (aV rfl C.c_zH)))) (hJ (dZ (t_val (p_fn I.h__law_same_test hr.s rfl (a_cons (p_fld C.f_test (p_var 0) rfl) (a_cons (p_at (b_var 1) (b_of p_int) .(D)) a_nil))))))))
 (af (ah gc))
 ai)
 (af (ah (cL (p_fn I.h__law_same hr.s rfl (a_cons (p_fld C.f_yes (p_var 0) rfl) (a_cons (p_at (b_var 1) (b_of p_int) .(D)) a_nil))) (ee (p_fn I.h__law_same hr.s rfl (a_cons (p_fld C.f_no (p_var 0) rfl) (a_cons (p_at (b_var 1) (b_of p_int) .(D)) a_nil))))))))
 ai)
 (ae (aD (t_eq hr (b_of (p_at (b_var 1) (b_of p_int) .(D))) (b_of ar))
 (af (ah (cL (bH rfl C.z_isinstance C.i_zI aW (b_var 0) (aV rfl C.c_zI)) (cL (p_fn I.h__law_same_test hr.s rfl (a_cons (p_fld C.f_test (p_var 0) rfl) (a_cons (p_at (b_var 1) (b_of p_int) .(D)) a_nil))) (ee (p_fn I.h__law_same hr.s rfl (a_cons (p_fld C.f_body (p_var 0) rfl) (a_cons (p_at (b_var 1) (b_of p_int) .(D)) a_nil))))))))
 ai)
 (ae (aD (t_eq hr (b_of (p_at (b_var 1) (b_of p_int) .(D))) (b_of ar))
 (af (ah (bH rfl C.z_isinstance C.i_zE aW (b_var 0) (aV rfl C.c_zE))))
 ai)
 (af (ah (bH rfl C.z_isinstance C.i_zD aW (b_var 0) (aV rfl C.c_zD)))))))))
theorem zy(hr:.(hr "_law_right" nB)):.(bo ["_law_row","_law_left_here","_law_s","_law_door"] "_law_right" nB o5):=by
 unfold o5
 exact(ae (aD (pr (jS (dZ (t_val (bH rfl C.z_isinstance C.i_list fV (b_var 0) (fT rfl C.z_list boot_list)))) (hJ (pC hr (b_of (dM cP fh rfl C.z_len PySem.boot_len (cI (b_var 0) a_nil))) (b_of p_int)))))
 (af (ah gc))
 ai)
 (ae (kI PassesOwn.never rfl (i_rng1 rfl C.z_range (a_cons p_int a_nil)) (bv (i:=2) o4.nd rfl (Or.inl rfl))
 (ae (aT (i:=3) o4.nd rfl (Or.inl rfl) (p_at (b_var 0) (b_var 2) .(D)))
 (ae (aD (pr (jS (dZ (t_val (bH rfl C.z_isinstance C.i_tuple fV (b_var 3) (fT rfl C.z_tuple boot_tuple)))) (jS (pC hr (b_of (dM cP fh rfl C.z_len PySem.boot_len (cI (b_var 3) a_nil))) (b_of p_int)) (hJ (t_val (bH rfl C.z_isinstance C.i_bool fV (b_of (p_at (b_var 3) (b_of p_int) .(D))) (fT rfl C.z_bool boot_bool)))))))
 (af (ah gc))
 ai)
 (af (aD (pC hr (b_var 3) (b_of (rN (p_fn I.h__law_first hr.s rfl (a_cons (p_var 1) .(As))) o_none (o_some p_int))))
 (af (ah gc))
 ai)))))
 (af (ah gc))))
theorem zz(hr:.(hr "_law_told" nD)):.(bo ["_law_told_here","_law_prog_here","_law_many","_law_room","_law_left_here"] "_law_told" nD o6):=by
 unfold o6
 exact(ae (aT (i:=2) jl.nd rfl (Or.inl rfl) (p_fn I.h__law_count hr.s rfl .(N)))
 (ae (aD (pr (jS (dZ (t_val (bH rfl C.z_isinstance C.i_list fV (b_of (p_fld C.f_doors (p_var 0) rfl)) (fT rfl C.z_list boot_list)))) (hJ (pC hr (b_of (dM cP fh rfl C.z_len PySem.boot_len (cI (b_of (p_fld C.f_doors (p_var 0) rfl)) a_nil))) (b_of (bS (b_var 2) (b_of p_int)))))))
 (af (ah gc))
 ai)
 (ae (kI PassesOwn.never rfl (i_rng1 rfl C.z_range (a_cons (bS (b_var 2) (b_of p_int)) a_nil)) (bv (i:=3) jl.nd rfl (Or.inl rfl))
 (ae (aT (i:=4) jl.nd rfl (Or.inl rfl) (p_var 1))
 (ae (aD (rD (b_var 3) (b_of p_int))
 (af (aT (i:=4) jl.nd rfl (Or.inl rfl) (p_fn I.h__law_left hr.s rfl (a_cons (p_var 1) .(AB)))))
 ai)
 (af (aD (pr (jS (dZ (t_val (p_fn I.h__law_right hr.s rfl (a_cons (p_at (b_of (p_fld C.f_doors (p_var 0) rfl)) (b_var 3) .(D)) (a_cons (p_var 4) a_nil))))) (hJ (dZ (t_val (p_fn I.h__law_same hr.s rfl (a_cons (p_meth I.m_rest_of hr.s (p_var 0) .(AB)) (a_cons (p_var 4) a_nil))))))))
 (af (ah gc))
 ai)))))
 (af (ah gc)))))
theorem vX(hr:.(hr "law" jk)):.(bo ["_law_script","_law_cell","_law_prog_here","_law_step","_law_told_here","_law_beside","_law_k","_law_test_here"] "law" jk o7):=by
 unfold o7
 exact(ae (aT (i:=1) cD.nd rfl (Or.inl rfl) (p_fn I.h__law_cell_at hr.s rfl (a_cons (p_var 0) (a_cons p_int a_nil))))
 (ae (aT (i:=2) cD.nd rfl (Or.inl rfl) (p_fn I.h__law_prog hr.s rfl (a_cons (p_var 1) (a_cons (p_of_n (n_cut (b_var 0) (o_some p_int) (o_some p_int))) a_nil))))
 (ae (aD (t_eq hr (b_of (cG (b_of (eQ (b_var 1) (b_of p_int))) (b_of p_int))) (b_of p_int))
 (af (kI PassesOwn.never rfl (i_rng1 rfl C.z_range (a_cons p_int a_nil)) (bv (i:=6) cD.nd rfl (Or.inl rfl))
 (af (aD (pq (b_of (p_fn I.h__law_count hr.s rfl .(As))) (b_of (bS (b_of p_int) (b_of (cG (b_of (eQ (b_var 1) (b_of p_int))) (b_of p_int))))))
 (af (aT (i:=2) cD.nd rfl (Or.inl rfl) (aF (a_cons ar (a_cons (p_var 2) (a_cons (aF (a_cons ar (a_cons (p_at (b_of ar) (b_of (cG (b_of (p_fn I.h__law_draw hr.s rfl (a_cons (p_var 1) (a_cons (p_var 6) a_nil)))) (b_of p_int))) .(D)) a_nil))) a_nil))))))
 ai))))
 ai)
 (ae (aT (i:=3) cD.nd rfl (Or.inl rfl) (p_fn I.h__law_built hr.s rfl .(As)))
 (ae (aD (pr (mn (t_eq hr (b_of (cG (b_of (eQ (b_var 1) (b_of p_int))) (b_of p_int))) (b_of p_int)) (jR (pq (b_of (p_fn I.h__law_count hr.s rfl .(As))) (b_of p_int)))))
 (ae (aT (i:=3) cD.nd rfl (Or.inl rfl) (p_new (k:=2*n+2) C.n_zG hr rfl (a_cons (p_var 3) .(AB)) rfl))
 (af (aT (i:=2) cD.nd rfl (Or.inl rfl) (aF (a_cons ar (a_cons (p_var 2) .(As)))))))
 ai)
 (ae (aD (pr (mn (t_eq hr (b_of (cG (b_of (eQ (b_var 1) (b_of p_int))) (b_of p_int))) (b_of p_int)) (jR (pq (b_of (p_fn I.h__law_count hr.s rfl .(As))) (b_of p_int)))))
 (ae (aT (i:=7) cD.nd rfl (Or.inl rfl) (p_fn I.h__law_test hr.s rfl (a_cons (eQ (b_var 1) (b_of p_int)) a_nil)))
 (ae (aT (i:=3) cD.nd rfl (Or.inl rfl) (p_new (k:=2*n+2) C.n_zH hr rfl (a_cons (p_fn I.h__law_sign hr.s rfl (a_cons (p_var 7) a_nil)) (a_cons (p_var 3) .(AB))) rfl))
 (af (aT (i:=2) cD.nd rfl (Or.inl rfl) (aF (a_cons ar (a_cons (p_var 7) (a_cons (p_var 2) .(As)))))))))
 ai)
 (ae (aT (i:=2) cD.nd rfl (Or.inl rfl) (p_fn I.h__law_numbered hr.s rfl (a_cons (p_var 2) (a_cons p_int a_nil))))
 (ae (vw (i:=4) cD.nd rfl (Or.inl rfl) (k7 I.n_zP hr rfl .(AB) (sN _)))
 (ae (aT (i:=5) cD.nd rfl (Or.inl rfl) (k7 I.n_zP hr rfl .(AB) (sN _)))
 (ae (aD (vy 4 (pr (jS (dZ (t_val (p_fn I.h__law_same hr.s rfl (a_cons (p_fld C.f_step (p_var 4) rfl) .(As))))) (hJ (dZ (t_val (p_fn I.h__law_told hr.s rfl (a_cons (p_var 4) .(As)))))))))
 (af (ah gc))
 ai)
 (lB C.f_doors 4
 (af (ah (cL (p_fn I.h__law_told hr.s rfl (a_cons (p_var 5) .(As))) (ee (jW hr (b_of (p_fld C.f_doors (k7 I.n_zP hr rfl .(AB) (sN _)) rfl)) (b_of (p_fld C.f_doors (p_var 5) rfl))))))))))))))))))
theorem zA(hr:.(hr "Skip.letters" nE)):.(bo ["self"] "Skip.letters" nE sB):=by
 unfold sB
 exact(af (ah ar))
theorem zB(hr:.(hr "Stop.letters" nG)):.(bo ["self"] "Stop.letters" nG sC):=by
 unfold sC
 exact(af (ah ar))
theorem zC(hr:.(hr "Deed.letters" nH)):.(bo ["self"] "Deed.letters" nH sE):=by
 unfold sE
 exact(af (ah (p_fld C.f_name (p_var 0) rfl)))
theorem zD(hr:.(hr "Row.letters" nI)):.(bo ["self"] "Row.letters" nI sF):=by
 unfold sF
 exact(af (ah (bS (b_of (eR I.m_letters hr.s (p_fld C.f_head (p_var 0) rfl))) (b_of (eR I.m_letters hr.s (p_fld C.f_tail (p_var 0) rfl))))))
theorem zE(hr:.(hr "Choice.letters" nJ)):.(bo ["self"] "Choice.letters" nJ sG):=by
 unfold sG
 exact(af (ah (bS (b_of (eR I.m_letters hr.s (p_fld C.f_yes (p_var 0) rfl))) (b_of (eR I.m_letters hr.s (p_fld C.f_no (p_var 0) rfl))))))
theorem zF(hr:.(hr "Loop.letters" nL)):.(bo ["self"] "Loop.letters" nL sH):=by
 unfold sH
 exact(af (ah (eR I.m_letters hr.s (p_fld C.f_body (p_var 0) rfl))))
theorem zG(hr:.(hr "Yes.holds" nM)):.(bo .(Aq) "Yes.holds" nM sI):=by
 unfold sI
 exact(af (ah gc))
theorem zH(hr:.(hr "Named.holds" nN)):.(bo .(Aq) "Named.holds" nN sJ):=by
 obtain⟨_,g_LETTERS,t_LETTERS⟩:=C.e_LETTERS
 unfold sJ
 exact(af (ah (jW hr (b_of (mk (b_of (mm (b_var 1) (b_of (pG (ws:=ia) t_LETTERS rfl g_LETTERS (fun _ _=>⟨_,_,rfl,rfl,⟨_,_,rfl,rfl,⟨_,_,rfl,rfl,⟨_,_,rfl,rfl,rfl⟩⟩⟩⟩) rfl (p_fld C.f_name (p_var 0) rfl))))) (b_of p_int))) (b_of p_int))))
theorem zI(hr:.(hr "Not.holds" nO)):.(bo .(Aq) "Not.holds" nO sK):=by
 unfold sK
 exact(af (ah (gf (p_meth I.m_holds hr.s (p_fld C.f_inner (p_var 0) rfl) .(N)))))
theorem zJ(hr:.(hr "Both.holds" nP)):.(bo .(Aq) "Both.holds" nP sL):=by
 unfold sL
 exact(af (ah (cL (p_meth I.m_holds hr.s (p_fld C.f_left (p_var 0) rfl) .(N)) (ee (p_meth I.m_holds hr.s (p_fld C.f_right (p_var 0) rfl) .(N))))))
theorem zK(hr:.(hr "Either.holds" nQ)):.(bo .(Aq) "Either.holds" nQ sM):=by
 unfold sM
 exact(af (ah (qb (p_meth I.m_holds hr.s (p_fld C.f_left (p_var 0) rfl) .(N)) (ee (p_meth I.m_holds hr.s (p_fld C.f_right (p_var 0) rfl) .(N))))))
theorem zL(hr:.(hr "Rooms.rest_of" nR)):.(bo ["self","room"] "Rooms.rest_of" nR o9):=by
 unfold o9
 exact(ae (aD (t_eq hr (b_var 1) (b_of p_int))
 (af (ah (p_fld C.f_step (p_var 0) rfl)))
 ai)
 (af (ah (p_at (b_of (p_fn I.h_z0 hr.s rfl (a_cons (p_fld C.f_step (p_var 0) rfl) a_nil))) (b_of (j9 (b_var 1) (b_of p_int))) .(D)))))
theorem zM(hr:.(hr "Rooms.__init__" nS)):.(bo ["self","step"] "Rooms.__init__" nS kg):=by
 unfold kg
 exact(ae (ql (j:=0) 13 C.l_zP.cls C.x_Rooms_step (show(fN 13).Nodup by decide +kernel) rfl (show(fN 13).length<1000 by decide) (p_var 1))
 (af (ql (j:=1) 13 C.l_zP.cls C.x_Rooms_doors (show(fN 13).Nodup by decide +kernel) rfl (show(fN 13).length<1000 by decide) (p_fn I.h_z1 hr.s rfl (a_cons (p_var 1) (a_cons p_int a_nil))))))
end
structure Fs(K:Fg)(mg:Str->Option Value)(cA:Nat->Addr)(ts:List Addr):Prop where
 F_z0:.(df "rests_behind" mX ["step"])
 F_z1:.(df "doors_of" mY ["step","ahead"])
 F_z2:.(df "ended" mZ ["end"])
 F_z3:.(df "row_doors" n3 ["step","ahead"])
 F_z4:.(df "choice_doors" n4 ["step","ahead"])
 F_z5:.(df "loop_doors" n5 ["step","ahead"])
 F_z6:.(df "loop_door" n6 ["holds","door"])
 F_z7:.(df "gone_on" ng ["doors","later"])
 F_z8:.(df "_law_cell_at" nh ["_law_script","_law_k"])
 F_z9:.(df "_law_draw" ni ["_law_cell","_law_k"])
 F_za:.(df "_law_sign" nj ["_law_test_here"])
 F_zb:.(df "_law_holds" nk ["_law_test_here","_law_s"])
 F_zc:.(df "_law_test" nl ["_law_cell"])
 F_zd:.(df "_law_grown" nq ["_law_prog_here","_law_cell"])
 F_ze:.(df "_law_prog" nr ["_law_cell","_law_cells"])
 F_zf:.(df "_law_count" nt ["_law_prog_here"])
 F_zg:.(df "_law_numbered" nu ["_law_prog_here","_law_at"])
 F_zh:.(df "_law_built" nv ["_law_prog_here"])
 F_zi:.(df "_law_first" nw ["_law_prog_here","_law_s"])
 F_zj:.(df "_law_left" ny ["_law_prog_here","_law_k"])
 F_zk:.(df "_law_same_test" nz ["_law_sign_here","_law_test_here"])
 F_zl:.(df "_law_same" nA ["_law_step","_law_prog_here"])
 F_zm:.(df "_law_right" nB ["_law_row","_law_left_here"])
 F_zn:.(df "_law_told" nD ["_law_told_here","_law_prog_here"])
 F_zo:.(df "law" jk ["_law_script"])
 F_zp:∃f fd,fM K "letters" "Skip.letters" nE f fd/\bj K fd ["self"] []/\eJ K ((pg cA).cA 1) "letters" f
 F_zq:∃f fd,fM K "letters" "Stop.letters" nG f fd/\bj K fd ["self"] []/\eJ K ((pg cA).cA 2) "letters" f
 F_zr:∃f fd,fM K "letters" "Deed.letters" nH f fd/\bj K fd ["self"] []/\eJ K ((pg cA).cA 3) "letters" f
 F_zs:∃f fd,fM K "letters" "Row.letters" nI f fd/\bj K fd ["self"] []/\eJ K ((pg cA).cA 4) "letters" f
 F_zt:∃f fd,fM K "letters" "Choice.letters" nJ f fd/\bj K fd ["self"] []/\eJ K ((pg cA).cA 5) "letters" f
 F_zu:∃f fd,fM K "letters" "Loop.letters" nL f fd/\bj K fd ["self"] []/\eJ K ((pg cA).cA 6) "letters" f
 F_zv:∃f fd,fM K "holds" "Yes.holds" nM f fd/\bj K fd .(Aq) []/\eJ K ((pg cA).cA 8) "holds" f
 F_zw:∃f fd,fM K "holds" "Named.holds" nN f fd/\bj K fd .(Aq) []/\eJ K ((pg cA).cA 9) "holds" f
 F_zx:∃f fd,fM K "holds" "Not.holds" nO f fd/\bj K fd .(Aq) []/\eJ K ((pg cA).cA 10) "holds" f
 F_zy:∃f fd,fM K "holds" "Both.holds" nP f fd/\bj K fd .(Aq) []/\eJ K ((pg cA).cA 11) "holds" f
 F_zz:∃f fd,fM K "holds" "Either.holds" nQ f fd/\bj K fd .(Aq) []/\eJ K ((pg cA).cA 12) "holds" f
 F_zA:∃f fd,fM K "rest_of" "Rooms.rest_of" nR f fd/\bj K fd ["self","room"] []/\eJ K ((pg cA).cA 13) "rest_of" f
 F_zB:∃f fd,fM K "__init__" "Rooms.__init__" nS f fd/\bj K fd ["self","step"] []/\Mk K ((pg cA).cA 13) f
theorem kh{P:Program}{w:World}{K:Fg}{mg:Str->Option Value}{base:Bs}{cA:Nat->Addr}{ts:List Addr}(C:Ct P w K mg base cA ts)(F:Fs K mg cA ts):∀n,sO P w K mg base cA n
 |0=>by
  obtain⟨f_z0,fd_z0,E_z0⟩:=F.F_z0
  obtain⟨f_z1,fd_z1,E_z1⟩:=F.F_z1
  obtain⟨f_z2,fd_z2,E_z2⟩:=F.F_z2
  obtain⟨f_z3,fd_z3,E_z3⟩:=F.F_z3
  obtain⟨f_z4,fd_z4,E_z4⟩:=F.F_z4
  obtain⟨f_z5,fd_z5,E_z5⟩:=F.F_z5
  obtain⟨f_z6,fd_z6,E_z6⟩:=F.F_z6
  obtain⟨f_z7,fd_z7,E_z7⟩:=F.F_z7
  obtain⟨f_z8,fd_z8,E_z8⟩:=F.F_z8
  obtain⟨f_z9,fd_z9,E_z9⟩:=F.F_z9
  obtain⟨f_za,fd_za,E_za⟩:=F.F_za
  obtain⟨f_zb,fd_zb,E_zb⟩:=F.F_zb
  obtain⟨f_zc,fd_zc,E_zc⟩:=F.F_zc
  obtain⟨f_zd,fd_zd,E_zd⟩:=F.F_zd
  obtain⟨f_ze,fd_ze,E_ze⟩:=F.F_ze
  obtain⟨f_zf,fd_zf,E_zf⟩:=F.F_zf
  obtain⟨f_zg,fd_zg,E_zg⟩:=F.F_zg
  obtain⟨f_zh,fd_zh,E_zh⟩:=F.F_zh
  obtain⟨f_zi,fd_zi,E_zi⟩:=F.F_zi
  obtain⟨f_zj,fd_zj,E_zj⟩:=F.F_zj
  obtain⟨f_zk,fd_zk,E_zk⟩:=F.F_zk
  obtain⟨f_zl,fd_zl,E_zl⟩:=F.F_zl
  obtain⟨f_zm,fd_zm,E_zm⟩:=F.F_zm
  obtain⟨f_zn,fd_zn,E_zn⟩:=F.F_zn
  obtain⟨f_zo,fd_zo,E_zo⟩:=F.F_zo
  obtain⟨f_zp,fd_zp,F_zp,B_zp,M_zp_1⟩:=F.F_zp
  obtain⟨f_zq,fd_zq,F_zq,B_zq,M_zq_2⟩:=F.F_zq
  obtain⟨f_zr,fd_zr,F_zr,B_zr,M_zr_3⟩:=F.F_zr
  obtain⟨f_zs,fd_zs,F_zs,B_zs,M_zs_4⟩:=F.F_zs
  obtain⟨f_zt,fd_zt,F_zt,B_zt,M_zt_5⟩:=F.F_zt
  obtain⟨f_zu,fd_zu,F_zu,B_zu,M_zu_6⟩:=F.F_zu
  obtain⟨f_zv,fd_zv,F_zv,B_zv,M_zv_8⟩:=F.F_zv
  obtain⟨f_zw,fd_zw,F_zw,B_zw,M_zw_9⟩:=F.F_zw
  obtain⟨f_zx,fd_zx,F_zx,B_zx,M_zx_10⟩:=F.F_zx
  obtain⟨f_zy,fd_zy,F_zy,B_zy,M_zy_11⟩:=F.F_zy
  obtain⟨f_zz,fd_zz,F_zz,B_zz,M_zz_12⟩:=F.F_zz
  obtain⟨f_zA,fd_zA,F_zA,B_zA,M_zA_13⟩:=F.F_zA
  obtain⟨f_zB,fd_zB,F_zB,B_zB,M_zB⟩:=F.F_zB
  exact {
   h_z0:=E_z0.at (am fun _=>rfl)
   h_z1:=E_z1.at (am fun _=>rfl)
   h_z2:=E_z2.at (am fun _=>rfl)
   h_z3:=E_z3.at (am fun _=>rfl)
   h_z4:=E_z4.at (am fun _=>rfl)
   h_z5:=E_z5.at (am fun _=>rfl)
   h_z6:=E_z6.at (am fun _=>rfl)
   h_z7:=E_z7.at (am fun _=>rfl)
   h__law_cell_at:=E_z8.at (am fun _=>rfl)
   h__law_draw:=E_z9.at (am fun _=>rfl)
   h__law_sign:=E_za.at (am fun _=>rfl)
   h__law_holds:=E_zb.at (am fun _=>rfl)
   h__law_test:=E_zc.at (am fun _=>rfl)
   h__law_grown:=E_zd.at (am fun _=>rfl)
   h__law_prog:=E_ze.at (am fun _=>rfl)
   h__law_count:=E_zf.at (am fun _=>rfl)
   h__law_numbered:=E_zg.at (am fun _=>rfl)
   h__law_built:=E_zh.at (am fun _=>rfl)
   h__law_first:=E_zi.at (am fun _=>rfl)
   h__law_left:=E_zj.at (am fun _=>rfl)
   h__law_same_test:=E_zk.at (am fun _=>rfl)
   h__law_same:=E_zl.at (am fun _=>rfl)
   h__law_right:=E_zm.at (am fun _=>rfl)
   h__law_told:=E_zn.at (am fun _=>rfl)
   h_zo:=E_zo.at (am fun _=>rfl)
   n_zP:=⟨C.c_zP,C.l_zP.cls,_,_,_,M_zB,(ly fun _=>rfl),B_zB⟩
   m_holds:=(aJ (.(mc C.l_zK M_zv_8 (am fun _=>rfl) B_zv)) (.(nf "holds" 8)) (aJ (.(mc C.l_zL M_zw_9 (am fun _=>rfl) B_zw)) (.(nf "holds" 9)) (aJ (.(mc C.l_zM M_zx_10 (am fun _=>rfl) B_zx)) (.(nf "holds" 10)) (aJ (.(mc C.l_zN M_zy_11 (am fun _=>rfl) B_zy)) (.(nf "holds" 11)) (aJ (.(mc C.l_zO M_zz_12 (am fun _=>rfl) B_zz)) (.(nf "holds" 12)) fm)))))
   m_letters:=(aJ (.(mc C.l_zD M_zp_1 (am fun _=>rfl) B_zp)) (.(nf "letters" 1)) (aJ (.(mc C.l_zE M_zq_2 (am fun _=>rfl) B_zq)) (.(nf "letters" 2)) (aJ (.(mc C.l_zF M_zr_3 (am fun _=>rfl) B_zr)) (.(nf "letters" 3)) (aJ (.(mc C.l_zG M_zs_4 (am fun _=>rfl) B_zs)) (.(nf "letters" 4)) (aJ (.(mc C.l_zH M_zt_5 (am fun _=>rfl) B_zt)) (.(nf "letters" 5)) (aJ (.(mc C.l_zI M_zu_6 (am fun _=>rfl) B_zu)) (.(nf "letters" 6)) fm))))))
   m_rest_of:=(aJ (.(mc C.l_zP M_zA_13 (am fun _=>rfl) B_zA)) (.(nf "rest_of" 13)) fm)
  }
 |n+1=>by
  show sO P w K mg base cA (n+1)
  have I:=kh C F n
  obtain⟨f_z0,fd_z0,E_z0⟩:=F.F_z0
  obtain⟨f_z1,fd_z1,E_z1⟩:=F.F_z1
  obtain⟨f_z2,fd_z2,E_z2⟩:=F.F_z2
  obtain⟨f_z3,fd_z3,E_z3⟩:=F.F_z3
  obtain⟨f_z4,fd_z4,E_z4⟩:=F.F_z4
  obtain⟨f_z5,fd_z5,E_z5⟩:=F.F_z5
  obtain⟨f_z6,fd_z6,E_z6⟩:=F.F_z6
  obtain⟨f_z7,fd_z7,E_z7⟩:=F.F_z7
  obtain⟨f_z8,fd_z8,E_z8⟩:=F.F_z8
  obtain⟨f_z9,fd_z9,E_z9⟩:=F.F_z9
  obtain⟨f_za,fd_za,E_za⟩:=F.F_za
  obtain⟨f_zb,fd_zb,E_zb⟩:=F.F_zb
  obtain⟨f_zc,fd_zc,E_zc⟩:=F.F_zc
  obtain⟨f_zd,fd_zd,E_zd⟩:=F.F_zd
  obtain⟨f_ze,fd_ze,E_ze⟩:=F.F_ze
  obtain⟨f_zf,fd_zf,E_zf⟩:=F.F_zf
  obtain⟨f_zg,fd_zg,E_zg⟩:=F.F_zg
  obtain⟨f_zh,fd_zh,E_zh⟩:=F.F_zh
  obtain⟨f_zi,fd_zi,E_zi⟩:=F.F_zi
  obtain⟨f_zj,fd_zj,E_zj⟩:=F.F_zj
  obtain⟨f_zk,fd_zk,E_zk⟩:=F.F_zk
  obtain⟨f_zl,fd_zl,E_zl⟩:=F.F_zl
  obtain⟨f_zm,fd_zm,E_zm⟩:=F.F_zm
  obtain⟨f_zn,fd_zn,E_zn⟩:=F.F_zn
  obtain⟨f_zo,fd_zo,E_zo⟩:=F.F_zo
  obtain⟨f_zp,fd_zp,F_zp,B_zp,M_zp_1⟩:=F.F_zp
  obtain⟨f_zq,fd_zq,F_zq,B_zq,M_zq_2⟩:=F.F_zq
  obtain⟨f_zr,fd_zr,F_zr,B_zr,M_zr_3⟩:=F.F_zr
  obtain⟨f_zs,fd_zs,F_zs,B_zs,M_zs_4⟩:=F.F_zs
  obtain⟨f_zt,fd_zt,F_zt,B_zt,M_zt_5⟩:=F.F_zt
  obtain⟨f_zu,fd_zu,F_zu,B_zu,M_zu_6⟩:=F.F_zu
  obtain⟨f_zv,fd_zv,F_zv,B_zv,M_zv_8⟩:=F.F_zv
  obtain⟨f_zw,fd_zw,F_zw,B_zw,M_zw_9⟩:=F.F_zw
  obtain⟨f_zx,fd_zx,F_zx,B_zx,M_zx_10⟩:=F.F_zx
  obtain⟨f_zy,fd_zy,F_zy,B_zy,M_zy_11⟩:=F.F_zy
  obtain⟨f_zz,fd_zz,F_zz,B_zz,M_zz_12⟩:=F.F_zz
  obtain⟨f_zA,fd_zA,F_zA,B_zA,M_zA_13⟩:=F.F_zA
  obtain⟨f_zB,fd_zB,F_zB,B_zB,M_zB⟩:=F.F_zB
  exact {
   h_z0:=.(ha E_z0 qv zb)
   h_z1:=.(ha E_z1 vA zc)
   h_z2:=.(ha E_z2 vB zd)
   h_z3:=.(ha E_z3 nT ze)
   h_z4:=.(ha E_z4 kP zf)
   h_z5:=.(ha E_z5 nU zg)
   h_z6:=.(ha E_z6 vC zh)
   h_z7:=.(ha E_z7 vD zi)
   h__law_cell_at:=.(ha E_z8 vE zj)
   h__law_draw:=.(ha E_z9 qw zk)
   h__law_sign:=.(ha E_za ib zl)
   h__law_holds:=.(ha E_zb ie zm)
   h__law_test:=.(ha E_zc vF zn)
   h__law_grown:=.(ha E_zd kQ zo)
   h__law_prog:=.(ha E_ze kR zp)
   h__law_count:=.(ha E_zf vG zq)
   h__law_numbered:=.(ha E_zg qx zr)
   h__law_built:=.(ha E_zh vH zt)
   h__law_first:=.(ha E_zi gv zu)
   h__law_left:=.(ha E_zj o0 zv)
   h__law_same_test:=.(ha E_zk vI zw)
   h__law_same:=.(ha E_zl vJ zx)
   h__law_right:=.(ha E_zm o4 zy)
   h__law_told:=.(ha E_zn jl zz)
   h_zo:=.(ha E_zo cD vX)
   n_zP:=⟨C.c_zP,C.l_zP.cls,_,_,_,M_zB,(rQ F_zB vW rfl (by decide) rfl fun _ _ _ _ _ _ hr=>zM C I hr),B_zB⟩
   m_holds:=(aJ (.(mc C.l_zK M_zv_8 (.(fk F_zv vQ zG)) B_zv)) (.(nf "holds" 8)) (aJ (.(mc C.l_zL M_zw_9 (.(fk F_zw vR zH)) B_zw)) (.(nf "holds" 9)) (aJ (.(mc C.l_zM M_zx_10 (.(fk F_zx vS zI)) B_zx)) (.(nf "holds" 10)) (aJ (.(mc C.l_zN M_zy_11 (.(fk F_zy vT zJ)) B_zy)) (.(nf "holds" 11)) (aJ (.(mc C.l_zO M_zz_12 (.(fk F_zz vU zK)) B_zz)) (.(nf "holds" 12)) fm)))))
   m_letters:=(aJ (.(mc C.l_zD M_zp_1 (.(fk F_zp vK zA)) B_zp)) (.(nf "letters" 1)) (aJ (.(mc C.l_zE M_zq_2 (.(fk F_zq vL zB)) B_zq)) (.(nf "letters" 2)) (aJ (.(mc C.l_zF M_zr_3 (.(fk F_zr vM zC)) B_zr)) (.(nf "letters" 3)) (aJ (.(mc C.l_zG M_zs_4 (.(fk F_zs vN zD)) B_zs)) (.(nf "letters" 4)) (aJ (.(mc C.l_zH M_zt_5 (.(fk F_zt vO zE)) B_zt)) (.(nf "letters" 5)) (aJ (.(mc C.l_zI M_zu_6 (.(fk F_zu vP zF)) B_zu)) (.(nf "letters" 6)) fm))))))
   m_rest_of:=(aJ (.(mc C.l_zP M_zA_13 (.(fk F_zA vV zL)) B_zA)) (.(nf "rest_of" 13)) fm)
  }
end M31
end
section
namespace M31
open PySem L2 DN
inductive Tr where
 |yes|named (c:Str)|neg (t:Tr)|both (l r:Tr)|either (l r:Tr)
def Tr.pv:Tr->PV
 |.yes=> .obj 8 [] | .named c=> .obj 9 [.str c] | .neg t=> .obj 10 [t.pv] | .both l r=> .obj 11 [l.pv,r.pv] | .either l r=> .obj 12 [l.pv,r.pv]
def Tr.depth:Tr->Nat
 |.yes=>0 | .named _=>0 | .neg t=>t.depth+1 | .both l r=>max l.depth r.depth+1 | .either l r=>max l.depth r.depth+1
def Tr.size:Tr->Nat
 |.yes=>1 | .named _=>1 | .neg t=>t.size+1 | .both l r=>l.size+r.size+1 | .either l r=>l.size+r.size+1
def oa(c:Str):Prop:=c="a"\/c="b"\/c="c"\/c="d"
def Tr.ok:Tr->Prop
 |.yes=>True | .named c=>oa c | .neg t=>t.ok | .both l r=>l.ok/\r.ok | .either l r=>l.ok/\r.ok
def ixL(c:Str):Nat:=if c="a" then 0 else if c="b" then 1 else if c="c" then 2 else 3
def Tr.at:Tr->Int->Bool
 |.yes,_=>true
 |.named c,s=>Builtin.bitAnd (s / 2 ^ ((ixL c:Nat):Int).toNat) 1 == 1
 |.neg t,s=> !t.at s
 |.both l r,s=>l.at s && r.at s
 |.either l r,s=>l.at s || r.at s
theorem bX:∀(t:Tr) (n:Nat) (s:Int),t.ok->t.depth<n->callM aL (gF n) t.pv [.int s]= .ok (.bl (t.at s))
 |.yes,n+1,s,_,_=>rfl
 |.named c,n+1,s,h,_=>by
  rcases h with rfl|rfl|rfl|rfl <;> rfl
 |.neg t,n+1,s,h,hd=>by
  have ih:=bX t n s h (Nat.lt_of_succ_lt_succ hd)
  have e:callM aL (gF (n+1)) (Tr.neg t).pv [.int s]=fin ((((callM aL (gF n) t.pv [.int s]).bind fun x=>match x with | .bl k=>Rx.ok (PV.bl (!k))|_=> .bad)).st fun w=> .ret w):=rfl
  rw[e,ih];rfl
 |.both l r,n+1,s,h,hd=>by
  have hd':max l.depth r.depth+1<n+1:=hd
  have i1:=bX l n s h.1 (by omega)
  have i2:=bX r n s h.2 (by omega)
  have e:callM aL (gF (n+1)) (Tr.both l r).pv [.int s]=fin ((((callM aL (gF n) l.pv [.int s]).bind fun x=>match x with | .bl true=>callM aL (gF n) r.pv [.int s] | .bl false=> .ok (.bl false)|_=> .bad)).st fun w=> .ret w):=rfl
  rw[e,i1,i2]
  show _=Rx.ok (PV.bl (l.at s && r.at s))
  cases l.at s <;> rfl
 |.either l r,n+1,s,h,hd=>by
  have hd':max l.depth r.depth+1<n+1:=hd
  have i1:=bX l n s h.1 (by omega)
  have i2:=bX r n s h.2 (by omega)
  have e:callM aL (gF (n+1)) (Tr.either l r).pv [.int s]=fin ((((callM aL (gF n) l.pv [.int s]).bind fun x=>match x with | .bl true=> .ok (.bl true) | .bl false=>callM aL (gF n) r.pv [.int s]|_=> .bad)).st fun w=> .ret w):=rfl
  rw[e,i1,i2]
  show _=Rx.ok (PV.bl (l.at s || r.at s))
  cases l.at s <;> rfl
inductive St where
 |skip|stop|deed (c:Str)|row (h t:St)|choice (g:Tr) (y n:St)|loop (g:Tr) (b:St)
def St.pv:St->PV
 |.skip=> .obj 1 [] | .stop=> .obj 2 [] | .deed c=> .obj 3 [.str c] | .row h t=> .obj 4 [h.pv,t.pv] | .choice g y n=> .obj 5 [g.pv,y.pv,n.pv] | .loop g b=> .obj 6 [g.pv,b.pv]
def St.depth:St->Nat
 |.skip=>0 | .stop=>0 | .deed _=>0 | .row h t=>max h.depth t.depth+1 | .choice g y n=>max g.depth (max y.depth n.depth)+1 | .loop g b=>max g.depth b.depth+1
def St.size:St->Nat
 |.skip=>1 | .stop=>1 | .deed _=>1 | .row h t=>h.size+t.size+1 | .choice g y n=>g.size+y.size+n.size+1 | .loop g b=>g.size+b.size+1
def kS(c:Str):Prop:=c="P"\/c="Q"\/c="R"\/c="S"\/c="T"
def St.ok:St->Prop
 |.skip=>True | .stop=>True | .deed c=>kS c | .row h t=>h.ok/\t.ok | .choice g y n=>g.ok/\y.ok/\n.ok | .loop g b=>g.ok/\b.ok
def St.ders:St->List St
 |.skip=>[] | .stop=>[] | .deed _=>[.skip]
 |.row h t=>h.ders.map (fun l=> .row l t)++t.ders
 |.choice _ y n=>y.ders++n.ders
 |.loop g b=>b.ders.map fun l=> .row l (.loop g b)
abbrev Rw:=Int->Str×Int
def eX(d:Str×Int):PV:= .tup [.str d.1,.int d.2]
theorem dix(d:Str×Int):fIx (eX d) (.int 0)= .ok (.str d.1):=rfl
def rpv(f:Rw):PV:= .lst (.(AE).map fun(i:Nat)=>eX (f (i:Int)))
def bY(f l:Rw):Rw:=fun s=>if (f s).1="done" then l s else f s
def ldoor(b:Bool)(d:Str×Int):Str×Int:=if b=true then(if d.1="done" then("hung",0) else d) else("done",0)
def Dr:St->Int->Rw×List Rw
 |.skip,_=>(fun _=>("done",0),[])
 |.stop,_=>(fun _=>("stopped",0),[])
 |.deed c,a=>(fun _=>(c,a+1),[fun _=>("done",0)])
 |.row h t,a=>(bY (Dr h a).1 (Dr t (a+(h.ders.length:Int))).1,(Dr h a).2.map (fun f=>bY f (Dr t (a+(h.ders.length:Int))).1)++(Dr t (a+(h.ders.length:Int))).2)
 |.choice g y n,a=>(fun s=>if g.at s=true then(Dr y a).1 s else(Dr n (a+(y.ders.length:Int))).1 s,(Dr y a).2++(Dr n (a+(y.ders.length:Int))).2)
 |.loop g b,a=>(fun s=>ldoor (g.at s) ((Dr b a).1 s),(Dr b a).2.map fun f=>bY f fun s=>ldoor (g.at s) ((Dr b a).1 s))
theorem bp:∀(t:St) (a:Int),(Dr t a).2.length=t.ders.length
 |.skip,_=>rfl
 |.stop,_=>rfl
 |.deed c,a=>rfl
 |.row h t,a=>by simp[Dr,St.ders,bp h,bp t]
 |.choice g y n,a=>by simp[Dr,St.ders,bp y,bp n]
 |.loop g b,a=>by simp[Dr,St.ders,bp b]
theorem tE(f:Rw){s:Int}(h0:0<=s)(h1:s<16):fIx (rpv f) (.int s)= .ok (eX (f s)):=by
 obtain⟨i,rfl⟩:∃i:Nat,s=(i:Int):=⟨s.toNat,by omega⟩
 have hi:i<16:=by omega
 show(match gA (.(AE).map fun(i:Nat)=>eX (f (i:Int))) (i:Int)with|some w=>Rx.ok w|none=> .bad)=_
 rw[cX (v:=eX (f (i:Int))) (by rw[List.getElem?_map,List.getElem?_range hi];rfl)]
theorem ig(ps:aH):dRng1 (dCons (dC (.int 16)) dNil) ps= .ok (.(AE).map fun(i:Nat)=>PV.int (0+(i:Int))):=rfl
theorem jm:(.(AE).map fun(i:Nat)=>PV.int (0+(i:Int))).length<=sizeLine:=by
 rw[List.length_map,List.length_range];decide
theorem kT(n:Nat)(f l:Rw):gF (n+1) 7 [rpv f,rpv l]= .ok (rpv (bY f l)):=by
 rw[g_z7,au rfl]
 show fin (lG (gF n) [.v (rpv f),.v (rpv l)])=_
 have hc:dComp ["setting"] [("later",1),("doors",0)] (dRng1 (dCons (dC (.int (16))) dNil)) (gSet 0) ci (ln (dTr (d2 fEq (d2 fIx (d2 fIx (dSee 2) (dSee 0)) (dC (.int 0))) (dC (.str "done")))) (d2 fIx (dSee 1) (dSee 0)) (d2 fIx (dSee 2) (dSee 0))) [.v (rpv f),.v (rpv l)]= .ok (.(AE).map fun(i:Nat)=>eX (bY f l (i:Int))):=by
  unfold dComp
  rw[ig,aM,if_pos jm]
  refine bJ (ps0:=[.v (rpv l),.v (rpv f)]) (fun(i:Nat)=>PV.int (0+(i:Int))) (fun(i:Nat)=>eX (bY f l (i:Int))) .(AE) .no fun i hi=> ?_
  have hi:=List.mem_range.mp hi
  have e1:=tE f (s:=(i:Int)) (by omega) (by omega)
  have e2:=tE l (s:=(i:Int)) (by omega) (by omega)
  by_cases hd:(f (i:Int)).1="done"
  ·have hb:((f (i:Int)).1 == "done")=true:=by simpa using hd
   simp[e1,e2,dix,hb,bY,hd]
  ·have hb:((f (i:Int)).1 == "done")=false:=by simpa using hd
   simp[e1,e2,dix,hb,bY,hd]
 unfold lG
 simp only[gm,i7,hc,aM,dn,fW]
 rfl
theorem oe(n:Nat)(b:Bool)(d:Str×Int):gF (n+1) 6 [.bl b,eX d]= .ok (eX (ldoor b d)):=by
 rw[g_z6,au rfl]
 show fin (lF (gF n) [.v (.bl b),.v (eX d)])=_
 unfold lF ldoor
 cases b
 ·simp[eX]
 ·by_cases hd:d.1="done"
  ·have hb:(d.1 == "done")=true:=by simpa using hd
   simp[dix,hb]
   rw[if_pos hd]
   rfl
  ·have hb:(d.1 == "done")=false:=by simpa using hd
   simp[dix,hb,hd]
theorem eY(x:PV)(xs:List PV):gH (x::xs) (some 1) none=xs:=by
 have h1:HT.sIx (x::xs).length 0 (some 1)=1:=by
  unfold HT.sIx
  simp
 have h2:HT.sIx (x::xs).length (x::xs).length none=(x::xs).length:=rfl
 unfold gH
 rw[h1,h2]
 simp
theorem kU(x:PV)(xs:List PV):fIx (.lst (x::xs)) (.int 0)= .ok x:=by
 have:gA (x::xs) ((0:Nat):Int)=some x:=cX rfl
 show(match gA (x::xs) ((0:Nat):Int)with|some w=>Rx.ok w|none=> .bad)=_
 rw[this]
def rows(d:Rw×List Rw):PV:= .lst (rpv d.1::d.2.map rpv)
theorem gw(d:Rw×List Rw)(h:d.2.length<=100000):dS [rows d]= .ok (.int ((d.2.length:Int)+1)):=by
 show Rx.ok (PV.int (((rpv d.1::d.2.map rpv).length:Nat):Int))=_
 rw[List.length_cons,List.length_map]
 rfl
theorem cT:∀(t:St) (n:Nat) (a:Int),t.ok->2*t.depth+2<=n->t.ders.length<=1000->gF n 1 [t.pv,.int a]= .ok (rows (Dr t a))
 |.skip,n+2,a,_,_,_=>rfl
 |.stop,n+2,a,_,_,_=>rfl
 |.deed c,n+2,a,_,_,_=>rfl
 |.row h t,n+2,a,ho,hd,hl=>by
  have hd:2*(max h.depth t.depth+1)+2<=n+2:=hd
  have hl:(h.ders.map (fun l=>St.row l t)++t.ders).length<=1000:=hl
  rw[List.length_append,List.length_map]at hl
  obtain⟨k,rfl⟩:∃k,n=k+1:=⟨n-1,by omega⟩
  have i1:=cT h (k+1) a ho.1 (by omega) (by omega)
  have i2:=cT t (k+1) (a+(h.ders.length:Int)) ho.2 (by omega) (by omega)
  have l1:=bp h a
  have l2:=bp t (a+(h.ders.length:Int))
  have lh:=gw (Dr h a) (by omega)
  rw[l1]at lh
  generalize eh:Dr h a=dh at i1 l1 lh
  generalize et:Dr t (a+(h.ders.length:Int))=dt at i2 l2
  have hg:∀ps:aH,ps[2]? =some (.v (rows dh))->ps[3]? =some (.v (rows dt))->dComp ["doors"] [("tail",3)] (bh (dSee 2)) (gSet 0) ci (ad (gF (k+1) 7) (dCons (aa 0) (dCons .(Ac) dNil))) ps= .ok ((dh.1::dh.2).map fun f=>rpv (bY f dt.1)):=fun ps p2 p3=>by
   have ei:bh (dSee 2) ps= .ok ((dh.1::dh.2).map rpv):=by
    unfold bh dSee
    rw[p2];rfl
   have ec:jU ["doors"] [("tail",3)] ps=[.no,.v (rows dt)]:=by
    show[Sl.no,((ps[3]?).getD Sl.no).out]=_
    rw[p3];rfl
   unfold dComp
   rw[ei,aM,if_pos (by rw[List.length_map,List.length_cons];show dh.2.length+1<=16777216;omega),ec]
   exact bJ (ps0:=[.v (rows dt)]) rpv (fun f=>rpv (bY f dt.1)) (dh.1::dh.2) .no fun f hf=>by
    have e3:fIx (rows dt) (.int 0)= .ok (rpv dt.1):=kU _ _
    simp[kT k f dt.1,e3]
  have er:gF (k+2) 3 [(St.row h t).pv,.int a]= .ok (rows (Dr (.row h t) a)):=by
   rw[g_z3,au rfl]
   show fin (lC (gF (k+1)) [.v .(AG),.v (.int a),.no,.no])=_
   have f1:aZ cB .(AG)= .ok h.pv:=rfl
   have f2:aZ cC .(AG)= .ok t.pv:=rfl
   have ea:a+((h.ders.length:Int)+1)-1=a+(h.ders.length:Int):=by omega
   have hg:=hg [.v .(AG),.v (.int a),.v (rows dh),.v (rows dt)] rfl rfl
   have ec:∀x xs,cr (dSee 3) .(Ar) gB [.v x,.v xs,.v (rows dh),.v (rows dt)]= .ok (dt.2.map rpv):=fun x xs=>congrArg Rx.ok (eY _ _)
   have hz:dh.2.length+1+dt.2.length<=sizeLine:=by show _<=16777216;omega
   have hcat:cg (aK (dComp ["doors"] [("tail",3)] (bh (dSee 2)) (gSet 0) ci (ad (gF (k+1) 7) (dCons (aa 0) (dCons .(Ac) dNil))))) (aK (cr (dSee 3) .(Ar) gB)) [.v .(AG),.v (.int a),.v (rows dh),.v (rows dt)]= .ok (((dh.1::dh.2).map fun f=>rpv (bY f dt.1))++dt.2.map rpv):=by
    rw[iJ]
    unfold aK
    rw[hg,ec]
    simp only[aM,List.length_map,List.length_cons]
    rw[if_pos hz]
   unfold lC
   simp only[ba,cy,fq,bB,mQ,mK,List.getElem?_cons_zero,List.getElem?_cons_succ,aM,f1,f2,mO,gl,i1,dn,List.set_cons_succ,List.set_cons_zero,aB,lw,mL,y6,gj,lh,qi,ea,i2,gm,i7,hcat,fW]
   unfold Dr rows
   simp[eh,et,List.map_map,Function.comp_def]
  have e0:gF (k+3) 1 [(St.row h t).pv,.int a]=gF (k+2) 3 [(St.row h t).pv,.int a]:=by
   rw[g_z1,au rfl]
   show fin (gK (gF (k+2)) [.v .(AG),.v (.int a)])=_
   have er:gF (k+2) 3 [.obj 4 [h.pv,t.pv],.int a]= .ok (rows (Dr (.row h t) a)):=er
   unfold gK
   have es:St.pv (.row h t)= .obj 4 [h.pv,t.pv]:=rfl
   simp[er,es]
  exact e0.trans er
 |.choice g y n',n+2,a,ho,hd,hl=>by
  have hd:2*(max g.depth (max y.depth n'.depth)+1)+2<=n+2:=hd
  have hl:(y.ders++n'.ders).length<=1000:=hl
  rw[List.length_append]at hl
  obtain⟨k,rfl⟩:∃k,n=k+1:=⟨n-1,by omega⟩
  have i1:=cT y (k+1) a ho.2.1 (by omega) (by omega)
  have i2:=cT n' (k+1) (a+(y.ders.length:Int)) ho.2.2 (by omega) (by omega)
  have l1:=bp y a
  have l2:=bp n' (a+(y.ders.length:Int))
  have lh:=gw (Dr y a) (by omega)
  rw[l1]at lh
  have er:gF (k+2) 4 [(St.choice g y n').pv,.int a]= .ok (rows (Dr (.choice g y n') a)):=by
   have eD:Dr (.choice g y n') a=(fun s=>if g.at s=true then(Dr y a).1 s else(Dr n' (a+(y.ders.length:Int))).1 s,(Dr y a).2++(Dr n' (a+(y.ders.length:Int))).2):=rfl
   rw[eD]
   generalize eh:Dr y a=dh at i1 l1 lh
   generalize et:Dr n' (a+(y.ders.length:Int))=dt at i2 l2
   rw[g_z4,au rfl]
   show fin (lD (gF (k+1)) [.v (.obj 5 [g.pv,y.pv,n'.pv]),.v (.int a),.no,.no,.no])=_
   have f0:aZ bL (.obj 5 [g.pv,y.pv,n'.pv])= .ok g.pv:=rfl
   have f1:aZ eW (.obj 5 [g.pv,y.pv,n'.pv])= .ok y.pv:=rfl
   have f2:aZ iM (.obj 5 [g.pv,y.pv,n'.pv])= .ok n'.pv:=rfl
   have ea:a+((y.ders.length:Int)+1)-1=a+(y.ders.length:Int):=by omega
   have hg:dComp ["setting"] [("yes",2),("no",3),("step",0)] (dRng1 (dCons (dC (.int (16))) dNil)) (gSet 0) ci (ln (dTr (bn aL (gF (k+1)) (ax bL (aa 3)) .(Ay))) (d2 fIx .(Ac) (dSee 0)) (d2 fIx (d2 fIx (dSee 2) (dC (.int 0))) (dSee 0))) [.v (.obj 5 [g.pv,y.pv,n'.pv]),.v (.int a),.v (rows dh),.v (rows dt),.no]= .ok (.(AE).map fun(i:Nat)=>eX (if g.at (i:Int)=true then dh.1 (i:Int) else dt.1 (i:Int))):=by
    unfold dComp
    rw[ig,aM,if_pos jm]
    refine bJ (ps0:=[.v (rows dh),.v (rows dt),.v (.obj 5 [g.pv,y.pv,n'.pv])]) (fun(i:Nat)=>PV.int (0+(i:Int))) (fun(i:Nat)=>eX (if g.at (i:Int)=true then dh.1 (i:Int) else dt.1 (i:Int))) .(AE) .no fun i hi=> ?_
    have hi:=List.mem_range.mp hi
    have e1:=tE dh.1 (s:=(i:Int)) (by omega) (by omega)
    have e2:=tE dt.1 (s:=(i:Int)) (by omega) (by omega)
    have e3:fIx (rows dh) (.int 0)= .ok (rpv dh.1):=kU _ _
    have e4:fIx (rows dt) (.int 0)= .ok (rpv dt.1):=kU _ _
    have eg:=bX g (k+1) (i:Int) ho.1 (by omega)
    cases hgs:g.at (i:Int) <;> simp[e1,e2,e3,e4,f0,eg,hgs]
   have ec1:∀x xs z,cr (dSee 2) .(Ar) gB [.v x,.v xs,.v (rows dh),.v (rows dt),z]= .ok (dh.2.map rpv):=fun x xs z=>congrArg Rx.ok (eY _ _)
   have ec2:∀x xs z,cr (dSee 3) .(Ar) gB [.v x,.v xs,.v (rows dh),.v (rows dt),z]= .ok (dt.2.map rpv):=fun x xs z=>congrArg Rx.ok (eY _ _)
   have hz1:1+dh.2.length<=sizeLine:=by show _<=16777216;omega
   have hz2:1+dh.2.length+dt.2.length<=sizeLine:=by show _<=16777216;omega
   have hcat:∀x z,cg (aK (cg (aK (dCons (aa 4) dNil)) .(Aj))) (aK (cr (dSee 3) .(Ar) gB)) [.v x,.v (.int a),.v (rows dh),.v (rows dt),.v z]= .ok (z::(dh.2.map rpv++dt.2.map rpv)):=fun x z=>by
    rw[iJ]
    have e1:cg (aK (dCons (aa 4) dNil)) .(Aj) [.v x,.v (.int a),.v (rows dh),.v (rows dt),.v z]= .ok (z::dh.2.map rpv):=by
     rw[iJ]
     unfold aK
     rw[ec1]
     have:dCons (aa 4) dNil [.v x,.v (.int a),.v (rows dh),.v (rows dt),.v z]= .ok [z]:=rfl
     rw[this]
     simp only[aM,List.length_map,List.length_cons,List.length_nil]
     rw[if_pos (by omega)]
     rfl
    have e2:aK (cg (aK (dCons (aa 4) dNil)) .(Aj)) [.v x,.v (.int a),.v (rows dh),.v (rows dt),.v z]= .ok (.lst (z::dh.2.map rpv)):=by
     show(cg _ _ _).bind _=_
     rw[e1];rfl
    have e3:aK (cr (dSee 3) .(Ar) gB) [.v x,.v (.int a),.v (rows dh),.v (rows dt),.v z]= .ok (.lst (dt.2.map rpv)):=by
     show(cr _ _ _ _).bind _=_
     rw[ec2];rfl
    rw[e2,e3]
    simp only[aM,List.length_map,List.length_cons]
    rw[if_pos (by omega)]
    rfl
   unfold lD
   simp only[ba,cy,fq,bB,mQ,mK,List.getElem?_cons_zero,List.getElem?_cons_succ,aM,f1,f2,mO,gl,i1,dn,List.set_cons_succ,List.set_cons_zero,aB,lw,mL,y6,gj,lh,qi,ea,i2,gm,i7,hg,hcat,fW]
   unfold rows rpv
   simp
  have e0:gF (k+3) 1 [(St.choice g y n').pv,.int a]=gF (k+2) 4 [(St.choice g y n').pv,.int a]:=by
   rw[g_z1,au rfl]
   show fin (gK (gF (k+2)) [.v (.obj 5 [g.pv,y.pv,n'.pv]),.v (.int a)])=_
   have er:gF (k+2) 4 [.obj 5 [g.pv,y.pv,n'.pv],.int a]= .ok (rows (Dr (.choice g y n') a)):=er
   unfold gK
   have es:St.pv (.choice g y n')= .obj 5 [g.pv,y.pv,n'.pv]:=rfl
   simp[er,es]
  exact e0.trans er
 |.loop g b,n+2,a,ho,hd,hl=>by
  have hd:2*(max g.depth b.depth+1)+2<=n+2:=hd
  have hl:(b.ders.map (fun l=>St.row l (.loop g b))).length<=1000:=hl
  rw[List.length_map]at hl
  obtain⟨k,rfl⟩:∃k,n=k+1:=⟨n-1,by omega⟩
  have i1:=cT b (k+1) a ho.2 (by omega) (by omega)
  have l1:=bp b a
  have er:gF (k+2) 5 [(St.loop g b).pv,.int a]= .ok (rows (Dr (.loop g b) a)):=by
   have eD:Dr (.loop g b) a=(fun s=>ldoor (g.at s) ((Dr b a).1 s),(Dr b a).2.map fun f=>bY f fun s=>ldoor (g.at s) ((Dr b a).1 s)):=rfl
   rw[eD]
   generalize eh:Dr b a=dh at i1 l1
   rw[g_z5,au rfl]
   show fin (lE (gF (k+1)) [.v .(Ag),.v (.int a),.no,.no])=_
   have f0:aZ bL .(Ag)= .ok g.pv:=rfl
   have f1:aZ cz .(Ag)= .ok b.pv:=rfl
   have hg:dComp ["setting"] [("body",2),("step",0)] (dRng1 (dCons (dC (.int (16))) dNil)) (gSet 0) ci (ad (gF (k+1) 6) (dCons (bn aL (gF (k+1)) (ax bL (aa 2)) .(Ay)) (dCons (d2 fIx .(Ac) (dSee 0)) dNil))) [.v .(Ag),.v (.int a),.v (rows dh),.no]= .ok (.(AE).map fun(i:Nat)=>eX (ldoor (g.at (i:Int)) (dh.1 (i:Int)))):=by
    unfold dComp
    rw[ig,aM,if_pos jm]
    refine bJ (ps0:=[.v (rows dh),.v .(Ag)]) (fun(i:Nat)=>PV.int (0+(i:Int))) (fun(i:Nat)=>eX (ldoor (g.at (i:Int)) (dh.1 (i:Int)))) .(AE) .no fun i hi=> ?_
    have hi:=List.mem_range.mp hi
    have e1:=tE dh.1 (s:=(i:Int)) (by omega) (by omega)
    have e3:fIx (rows dh) (.int 0)= .ok (rpv dh.1):=kU _ _
    have eg:=bX g (k+1) (i:Int) ho.1 (by omega)
    simp[e1,e3,f0,eg,oe]
   generalize hB:(fun s=>ldoor (g.at s) (dh.1 s))=bg
   have hg:dComp ["setting"] [("body",2),("step",0)] (dRng1 (dCons (dC (.int (16))) dNil)) (gSet 0) ci (ad (gF (k+1) 6) (dCons (bn aL (gF (k+1)) (ax bL (aa 2)) .(Ay)) (dCons (d2 fIx .(Ac) (dSee 0)) dNil))) [.v .(Ag),.v (.int a),.v (rows dh),.no]= .ok (.(AE).map fun(i:Nat)=>eX (bg (i:Int))):=by rw[<-hB];exact hg
   have hc2:dComp ["doors"] [("begin",3)] (bh .(Aj)) (gSet 0) ci (ad (gF (k+1) 7) (dCons (aa 0) .(R))) [.v .(Ag),.v (.int a),.v (rows dh),.v (rpv bg)]= .ok (dh.2.map fun f=>rpv (bY f bg)):=by
    have ei:bh .(Aj) [.v .(Ag),.v (.int a),.v (rows dh),.v (rpv bg)]= .ok (dh.2.map rpv):=congrArg Rx.ok (eY _ _)
    unfold dComp
    rw[ei,aM,if_pos (by rw[List.length_map];show dh.2.length<=16777216;omega)]
    exact bJ (ps0:=[.v (rpv bg)]) rpv (fun f=>rpv (bY f bg)) dh.2 .no fun f hf=>by
     simp[kT k f bg]
   have hcat:cg (aK .(P)) (aK (dComp ["doors"] [("begin",3)] (bh .(Aj)) (gSet 0) ci (ad (gF (k+1) 7) (dCons (aa 0) .(R))))) [.v .(Ag),.v (.int a),.v (rows dh),.v (rpv bg)]= .ok (rpv bg::dh.2.map fun f=>rpv (bY f bg)):=by
    rw[iJ]
    unfold aK
    unfold aK at hc2
    rw[hc2]
    have:dCons (aa 3) dNil [.v .(Ag),.v (.int a),.v (rows dh),.v (rpv bg)]= .ok [rpv bg]:=rfl
    rw[this]
    simp only[aM,List.length_map,List.length_cons,List.length_nil]
    rw[if_pos (by show _<=16777216;omega)]
    rfl
   have hcat:cg (aK .(P)) (aK (dComp ["doors"] [("begin",3)] (bh .(Aj)) (gSet 0) ci (ad (gF (k+1) 7) (dCons (aa 0) .(R))))) [.v .(Ag),.v (.int a),.v (rows dh),.v (.lst (.(AE).map fun(i:Nat)=>eX (bg (i:Int))))]= .ok (rpv bg::dh.2.map fun f=>rpv (bY f bg)):=hcat
   unfold lE
   simp only[ba,cy,fq,bB,mQ,mK,List.getElem?_cons_zero,List.getElem?_cons_succ,aM,f1,mO,gl,i1,dn,List.set_cons_succ,List.set_cons_zero,aB,lw,mL,y6,gj,gm,i7,hg,hcat,fW]
   unfold rows
   simp[List.map_map,Function.comp_def]
  have e0:gF (k+3) 1 [(St.loop g b).pv,.int a]=gF (k+2) 5 [(St.loop g b).pv,.int a]:=by
   rw[g_z1,au rfl]
   show fin (gK (gF (k+2)) [.v .(Ag),.v (.int a)])=_
   have er:gF (k+2) 5 [.obj 6 [g.pv,b.pv],.int a]= .ok (rows (Dr (.loop g b) a)):=er
   unfold gK
   have es:St.pv (.loop g b)= .obj 6 [g.pv,b.pv]:=rfl
   simp[er,es]
  exact e0.trans er
def fO(i:Int):Str:=if i=0 then "a" else if i=1 then "b" else if i=2 then "c" else "d"
theorem cK(i:Int):oa (fO i):=by
 unfold fO
 split
 ·exact .inl rfl
 ·split
  ·exact .inr (.inl rfl)
  ·split
   ·exact .inr (.inr (.inl rfl))
   ·exact .inr (.inr (.inr rfl))
theorem jn{i:Int}(h0:0<=i)(h1:i<4):fIx (.str "abcd") (.int i)= .ok (.str (fO i)):=by
 have:i=0\/i=1\/i=2\/i=3:=by omega
 rcases this with rfl|rfl|rfl|rfl <;> rfl
theorem jo{i:Int}(h0:0<=i)(h1:i<4)(s:Int):(Tr.named (fO i)).at s=(Builtin.bitAnd (s / 2 ^ i.toNat) 1 == 1):=by
 have:i=0\/i=1\/i=2\/i=3:=by omega
 rcases this with rfl|rfl|rfl|rfl <;> rfl
def sg(k i j:Int):Tr:=if k=1 then .neg (.named (fO i)) else if k=2 then .both (.named (fO i)) (.named (fO j)) else if k=3 then .either (.named (fO i)) (.neg (.named (fO j))) else if k=4 then .yes else if k=5 then .both (.named (fO i)) (.neg (.named (fO j))) else .named (fO i)
def ot(k i j:Int):Prop:=(0<=k/\k<6)/\(0<=i/\i<4)/\(0<=j/\j<4)
theorem zN{k:Int}(h:0<=k/\k<6):k=0\/k=1\/k=2\/k=3\/k=4\/k=5:=by omega
theorem jp{k i j:Int}(h:ot k i j):(sg k i j).ok/\(sg k i j).depth<=2:=by
 rcases zN h.1 with rfl|rfl|rfl|rfl|rfl|rfl
 ·exact⟨cK i,by simp[sg,Tr.depth]⟩
 ·exact⟨cK i,by simp[sg,Tr.depth]⟩
 ·exact⟨⟨cK i,cK j⟩,by simp[sg,Tr.depth]⟩
 ·exact⟨⟨cK i,cK j⟩,by simp[sg,Tr.depth]⟩
 ·exact⟨True.intro,by simp[sg,Tr.depth]⟩
 ·exact⟨⟨cK i,cK j⟩,by simp[sg,Tr.depth]⟩
theorem iO(n:Nat){k i j:Int}(h:ot k i j):gF (n+1) 10 [.tup .(C)]= .ok (sg k i j).pv:=by
 rw[g_za,au rfl]
 have ei:jv [false] 6 [.tup .(C)]=[.v (.tup .(C)),.no,.no,.no,.no,.no]:=rfl
 rw[ei]
 have ec:=jn h.2.1.1 h.2.1.2
 have ec':=jn h.2.2.1 h.2.2.2
 unfold nW
 rcases zN h.1 with rfl|rfl|rfl|rfl|rfl|rfl <;> (simp[ec,ec'];rfl)
theorem fA(n:Nat){k i j:Int}(h:ot k i j)(s:Int):gF (n+1) 11 [.tup .(C),.int s]= .ok (.bl ((sg k i j).at s)):=by
 rw[g_zb,au rfl]
 have ei:jv [false,false] 7 [.tup .(C),.int s]=[.v (.tup .(C)),.v (.int s),.no,.no,.no,.no,.no]:=rfl
 rw[ei]
 have a1:=jo h.2.1.1 h.2.1.2 s
 have a2:=jo h.2.2.1 h.2.2.2 s
 have h1:=h.2.1.1
 have h2:=h.2.2.1
 generalize hb1:(Builtin.bitAnd (s / 2 ^ i.toNat) 1 == 1)=b1 at a1
 generalize hb2:(Builtin.bitAnd (s / 2 ^ j.toNat) 1 == 1)=b2 at a2
 unfold nX
 have t0:(sg 0 i j).at s=b1:=a1
 have t1:(sg 1 i j).at s= !b1:=by rw[<-a1];rfl
 have t2:(sg 2 i j).at s=(b1 && b2):=by rw[<-a1,<-a2];rfl
 have t3:(sg 3 i j).at s=(b1 || !b2):=by rw[<-a1,<-a2];rfl
 have t4:(sg 4 i j).at s=true:=rfl
 have t5:(sg 5 i j).at s=(b1 && !b2):=by rw[<-a1,<-a2];rfl
 have fin6:∀x0 x1 x2 x3 x4 x5:PV,fIx (.lst [x0,x1,x2,x3,x4,x5]) (.int 0)= .ok x0/\fIx (.lst [x0,x1,x2,x3,x4,x5]) (.int 1)= .ok x1/\fIx (.lst [x0,x1,x2,x3,x4,x5]) (.int 2)= .ok x2/\fIx (.lst [x0,x1,x2,x3,x4,x5]) (.int 3)= .ok x3/\fIx (.lst [x0,x1,x2,x3,x4,x5]) (.int 4)= .ok x4/\fIx (.lst [x0,x1,x2,x3,x4,x5]) (.int 5)= .ok x5:=fun _ _ _ _ _ _=>⟨rfl,rfl,rfl,rfl,rfl,rfl⟩
 rcases zN h.1 with rfl|rfl|rfl|rfl|rfl|rfl <;> cases b1 <;> cases b2 <;> simp[h1,h2,hb1,hb2,t0,t1,t2,t3,t4,t5,fin6, -e_ixL]
inductive Lp where
 |skip|stop|deed (c:Str)|row (a b:Lp)|choice (k i j:Int) (a b:Lp)|loop (k i j:Int) (a:Lp)
def Lp.pv:Lp->PV
 |.skip=> .tup [.str "skip"] | .stop=> .tup [.str "stop"] | .deed c=> .tup [.str "deed",.str c] | .row a b=> .tup [.str "row",a.pv,b.pv]
 |.choice k i j a b=> .tup [.str "choice",.tup [.int k,.int i,.int j],a.pv,b.pv] | .loop k i j a=> .tup [.str "loop",.tup [.int k,.int i,.int j],a.pv]
def Lp.st:Lp->St
 |.skip=> .skip | .stop=> .stop | .deed c=> .deed c | .row a b=> .row a.st b.st | .choice k i j a b=> .choice (sg k i j) a.st b.st | .loop k i j a=> .loop (sg k i j) a.st
def Lp.ok:Lp->Prop
 |.skip=>True | .stop=>True | .deed c=>kS c | .row a b=>a.ok/\b.ok | .choice k i j a b=>ot k i j/\a.ok/\b.ok | .loop k i j a=>ot k i j/\a.ok
theorem Lp.stok:∀p:Lp,p.ok->p.st.ok
 |.skip,_=>True.intro
 |.stop,_=>True.intro
 |.deed c,h=>h
 |.row a b,h=>⟨a.stok h.1,b.stok h.2⟩
 |.choice k i j a b,h=>⟨(jp h.1).1,a.stok h.2.1,b.stok h.2.2⟩
 |.loop k i j a,h=>⟨(jp h.1).1,a.stok h.2⟩
theorem cn:∀(p:Lp) (n:Nat),p.ok->p.st.depth<n->gF n 17 [p.pv]= .ok p.st.pv
 |.skip,n+1,_,_=>rfl
 |.stop,n+1,_,_=>rfl
 |.deed c,n+1,_,_=>rfl
 |.row a b,n+1,ho,hd=>by
  have hd:max a.st.depth b.st.depth+1<n+1:=hd
  have i1:=cn a n ho.1 (by omega)
  have i2:=cn b n ho.2 (by omega)
  rw[g_zh,au rfl]
  show fin (gM (gF n) [.v .(K)])=_
  have j0:fIx .(K) (.int 0)= .ok (.str "row"):=rfl
  have j1:fIx .(K) (.int 1)= .ok a.pv:=rfl
  have j2:fIx .(K) (.int 2)= .ok b.pv:=rfl
  have b1:(("row":Str) == "deed")=false:=by decide +kernel
  unfold gM
  simp[j0,j1,j2, -bi,b1,i1,i2,Lp.st,St.pv]
 |.choice k i j a b,n+1,ho,hd=>by
  have hd:max (sg k i j).depth (max a.st.depth b.st.depth)+1<n+1:=hd
  have i1:=cn a n ho.2.1 (by omega)
  have i2:=cn b n ho.2.2 (by omega)
  obtain⟨m,rfl⟩:∃m,n=m+1:=⟨n-1,by omega⟩
  have i0:=iO m ho.1
  rw[g_zh,au rfl]
  show fin (gM (gF (m+1)) [.v .(B)])=_
  have j0:fIx .(B) (.int 0)= .ok .(AF):=rfl
  have j1:fIx .(B) (.int 1)= .ok (.tup .(C)):=rfl
  have j2:fIx .(B) (.int 2)= .ok a.pv:=rfl
  have j3:fIx .(B) (.int 3)= .ok b.pv:=rfl
  have b1:(("choice":Str) == "deed")=false:=by decide +kernel
  have b2:(("choice":Str) == "row")=false:=by decide +kernel
  unfold gM
  simp[j0,j1,j2,j3, -bi,b1,b2,i0,i1,i2,Lp.st,St.pv]
 |.loop k i j a,n+1,ho,hd=>by
  have hd:max (sg k i j).depth a.st.depth+1<n+1:=hd
  have i1:=cn a n ho.2 (by omega)
  obtain⟨m,rfl⟩:∃m,n=m+1:=⟨n-1,by omega⟩
  have i0:=iO m ho.1
  rw[g_zh,au rfl]
  show fin (gM (gF (m+1)) [.v (.tup [.str "loop",.tup .(C),a.pv])])=_
  have j0:fIx (.tup [.str "loop",.tup .(C),a.pv]) (.int 0)= .ok (.str "loop"):=rfl
  have j1:fIx (.tup [.str "loop",.tup .(C),a.pv]) (.int 1)= .ok (.tup .(C)):=rfl
  have j2:fIx (.tup [.str "loop",.tup .(C),a.pv]) (.int 2)= .ok a.pv:=rfl
  have b1:(("loop":Str) == "deed")=false:=by decide +kernel
  have b2:(("loop":Str) == "row")=false:=by decide +kernel
  have b3:(("loop":Str) == "choice")=false:=by decide +kernel
  unfold gM
  simp[j0,j1,j2, -bi,b1,b2,b3,i0,i1,Lp.st,St.pv]
theorem fX(n:Nat)(z k:Int)(h0:0<=k)(h1:k<=1000000):∃y,gF (n+1) 9 [.int z,.int k]= .ok (.int y)/\0<=y:=by
 rw[g_z9,au rfl]
 have ei:jv [false,false] 3 [.int z,.int k]=[.v (.int z),.v (.int k),.no]:=rfl
 rw[ei]
 unfold nV
 have a1:((z+7919*k+1)*48271 % 2147483647)<2147483647:=by omega
 have a2:0<=((z+7919*k+1)*48271 % 2147483647):=by omega
 generalize hw:((z+7919*k+1)*48271 % 2147483647)=w at a1 a2
 refine⟨w*(w / 1009+69621) % 2147483647,?_,by omega⟩
 have b1:(-18446744073709551616<w/\w<18446744073709551616):=by omega
 simp[hw,b1]
theorem jq(n:Nat)(z:Int):gF (n+1) 12 [.int z]= .ok (.tup [.int (z % 6),.int (z / 6 % 4),.int (z / 24 % 4)]):=by
 rw[g_zc,au rfl]
 have ei:jv [false] 1 [.int z]=[.v (.int z)]:=rfl
 rw[ei]
 unfold nY
 simp
theorem iP{j:Int}(h0:0<=j)(h1:j<5):∃c,fIx (.str "PQRST") (.int j)= .ok (.str c)/\kS c:=by
 have:j=0\/j=1\/j=2\/j=3\/j=4:=by omega
 rcases this with rfl|rfl|rfl|rfl|rfl
 ·exact⟨"P",rfl,.inl rfl⟩
 ·exact⟨"Q",rfl,.inr (.inl rfl)⟩
 ·exact⟨"R",rfl,.inr (.inr (.inl rfl))⟩
 ·exact⟨"S",rfl,.inr (.inr (.inr (.inl rfl)))⟩
 ·exact⟨"T",rfl,.inr (.inr (.inr (.inr rfl)))⟩
theorem lI(n:Nat)(p:Lp)(z:Int)(ho:p.ok):∃q:Lp,gF (n+2) 13 [p.pv,.int z]= .ok q.pv/\q.ok/\q.st.depth<=max 3 p.st.depth+1/\q.st.ders.length<=p.st.ders.length+1:=by
 rw[g_zd,au rfl]
 have ei:jv [false,false] 5 [p.pv,.int z]=[.v p.pv,.v (.int z),.no,.no,.no]:=rfl
 rw[ei]
 obtain⟨y0,e0,h0⟩:=fX n z 0 (by decide) (by decide)
 obtain⟨y1,e1,h1⟩:=fX n z 1 (by decide) (by decide)
 obtain⟨y2,e2,h2⟩:=fX n z 2 (by decide) (by decide)
 obtain⟨c,ec,hc⟩:=iP (j:=y1 % 5) (by omega) (by omega)
 have et:=jq n y2
 have hB:ot (y2 % 6) (y2 / 6 % 4) (y2 / 24 % 4):=⟨by omega,by omega,by omega⟩
 generalize y2 % 6=k at et hB
 generalize y2 / 6 % 4=i at et hB
 generalize y2 / 24 % 4=j at et hB
 obtain⟨so,sd⟩:=jp hB
 have hw:y0 % 8=0\/y0 % 8=1\/y0 % 8=2\/y0 % 8=3\/y0 % 8=4\/y0 % 8=5\/y0 % 8=6\/y0 % 8=7:=by omega
 unfold nZ
 rcases hw with hw|hw|hw|hw|hw|hw|hw|hw
 ·exact⟨.row p (.deed c),by simp[e0,e1,e2,ec,et,hw,Lp.pv],⟨ho,hc⟩,by show max p.st.depth 0+1<=_;omega,by simp[Lp.st,St.ders]⟩
 ·exact⟨.row (.deed c) p,by simp[e0,e1,e2,ec,et,hw,Lp.pv],⟨hc,ho⟩,by show max 0 p.st.depth+1<=_;omega,by simp[Lp.st,St.ders];try omega⟩
 ·exact⟨.loop k i j p,by simp[e0,e1,e2,ec,et,hw,Lp.pv],⟨hB,ho⟩,by show max (sg k i j).depth p.st.depth+1<=_;omega,by simp[Lp.st,St.ders]⟩
 ·exact⟨.choice k i j p (.deed c),by simp[e0,e1,e2,ec,et,hw,Lp.pv],⟨hB,ho,hc⟩,by show max (sg k i j).depth (max p.st.depth 0)+1<=_;omega,by simp[Lp.st,St.ders]⟩
 ·exact⟨.choice k i j (.deed c) p,by simp[e0,e1,e2,ec,et,hw,Lp.pv],⟨hB,hc,ho⟩,by show max (sg k i j).depth (max 0 p.st.depth)+1<=_;omega,by simp[Lp.st,St.ders];try omega⟩
 ·exact⟨.row p (.choice k i j .stop .skip),by simp[e0,e1,e2,ec,et,hw,Lp.pv],⟨ho,hB,True.intro,True.intro⟩,by show max p.st.depth (max (sg k i j).depth (max 0 0)+1)+1<=_;omega,by simp[Lp.st,St.ders]⟩
 ·exact⟨.row (.loop k i j (.deed c)) p,by simp[e0,e1,e2,ec,et,hw,Lp.pv],⟨⟨hB,hc⟩,ho⟩,by show max (max (sg k i j).depth 0+1) p.st.depth+1<=_;omega,by simp[Lp.st,St.ders];try omega⟩
 ·exact⟨.choice k i j .skip p,by simp[e0,e1,e2,ec,et,hw,Lp.pv],⟨hB,True.intro,ho⟩,by show max (sg k i j).depth (max 0 p.st.depth)+1<=_;omega,by simp[Lp.st,St.ders]⟩
theorem gx(n:Nat)(s0 s1:Sl):∀(zs:List Int) (p:Lp) (s3:Sl),p.ok->∃q:Lp,fin ((bW (gSet 3) (iN (gF (n+2))) (zs.map PV.int) [s0,s1,.v p.pv,s3]).next (aq (aa 2)))= .ok q.pv/\q.ok/\q.st.depth<=max 3 p.st.depth+zs.length/\q.st.ders.length<=p.st.ders.length+zs.length
 |[],p,s3,ho=>⟨p,rfl,ho,by simp;omega,by simp⟩
 |z::zs,p,s3,ho=>by
  obtain⟨q,eq,oq,dq,lq⟩:=lI n p z ho
  obtain⟨r,er,or',dr,lr⟩:=gx n s0 s1 zs q (.v (.int z)) oq
  refine⟨r,?_,or',by simp;omega,by simp;omega⟩
  have eg:gSet 3 (PV.int z) [s0,s1,.v p.pv,s3]= .ok [s0,s1,.v p.pv,.v (.int z)]:=rfl
  have body:iN (gF (n+2)) [s0,s1,.v p.pv,.v (.int z)]= .nx [s0,s1,.v q.pv,.v (.int z)]:=by
   unfold iN
   simp[eq]
  rw[List.map_cons,bW,eg,dn,body]
  exact er
theorem og(n:Nat)(z:Int)(zs:List Int):∃q:Lp,gF (n+3) 14 [.int z,.lst (zs.map PV.int)]= .ok q.pv/\q.ok/\q.st.depth<=3+zs.length/\q.st.ders.length<=1+zs.length:=by
 rw[g_ze,au rfl]
 show ∃q:Lp,fin (kf (gF (n+2)) [.v (.int z),.v (.lst (zs.map PV.int)),.no,.no])= .ok q.pv/\_
 obtain⟨c,ec,hc⟩:=iP (j:=z / 4 % 5) (by omega) (by omega)
 have ix:∀x0 x1 x2 x3:PV,fIx (.lst [x0,x1,x2,x3]) (.int 0)= .ok x0/\fIx (.lst [x0,x1,x2,x3]) (.int 1)= .ok x1/\fIx (.lst [x0,x1,x2,x3]) (.int 2)= .ok x2/\fIx (.lst [x0,x1,x2,x3]) (.int 3)= .ok x3:=fun _ _ _ _=>⟨rfl,rfl,rfl,rfl⟩
 have go:∀p:Lp,p.ok->p.st.depth=0->p.st.ders.length<=1->.(Ad) [.v (.int z),.v (.lst (zs.map PV.int)),.no,.no]= .ok p.pv ->
   ∃q:Lp,fin (kf (gF (n+2)) [.v (.int z),.v (.lst (zs.map PV.int)),.no,.no])= .ok q.pv/\q.ok/\q.st.depth<=3+zs.length/\q.st.ders.length<=1+zs.length:=fun p ho hd hl e=>by
  obtain⟨q,eq,oq,dq,lq⟩:=gx n (.v (.int z)) (.v (.lst (zs.map PV.int))) zs p .no ho
  refine⟨q,?_,oq,by omega,by omega⟩
  unfold kf
  rw[ba,cy,e,dn]
  exact eq
 have hz:z % 4=0\/z % 4=1\/z % 4=2\/z % 4=3:=by omega
 rcases hz with hz|hz|hz|hz
 ·exact go (.deed c) hc rfl (by simp[Lp.st,St.ders]) (by simp[ec,hz,ix, -e_ixL,Lp.pv])
 ·exact go .skip True.intro rfl (by simp[Lp.st,St.ders]) (by simp[ec,hz,ix, -e_ixL,Lp.pv])
 ·exact go .stop True.intro rfl (by simp[Lp.st,St.ders]) (by simp[ec,hz,ix, -e_ixL,Lp.pv])
 ·exact go (.deed "P") (.inl rfl) rfl (by simp[Lp.st,St.ders]) (by simp[ec,hz,ix, -e_ixL,Lp.pv])
inductive Ln where
 |skip|stop|deed (c:Str) (m:Int)|row (a b:Ln)|choice (k i j:Int) (a b:Ln)|loop (k i j:Int) (a:Ln)
def Ln.pv:Ln->PV
 |.skip=> .tup [.str "skip"] | .stop=> .tup [.str "stop"] | .deed c m=> .tup [.str "deed",.str c,.int m] | .row a b=> .tup [.str "row",a.pv,b.pv]
 |.choice k i j a b=> .tup [.str "choice",.tup [.int k,.int i,.int j],a.pv,b.pv] | .loop k i j a=> .tup [.str "loop",.tup [.int k,.int i,.int j],a.pv]
def Ln.st:Ln->St
 |.skip=> .skip | .stop=> .stop | .deed c _=> .deed c | .row a b=> .row a.st b.st | .choice k i j a b=> .choice (sg k i j) a.st b.st | .loop k i j a=> .loop (sg k i j) a.st
def Ln.ok:Ln->Prop
 |.skip=>True | .stop=>True | .deed c _=>kS c | .row a b=>a.ok/\b.ok | .choice k i j a b=>ot k i j/\a.ok/\b.ok | .loop k i j a=>ot k i j/\a.ok
def Ln.cnt(q:Ln):Int:=(q.st.ders.length:Int)
def aQ:Lp->Int->Ln
 |.skip,_=> .skip
 |.stop,_=> .stop
 |.deed c,a=> .deed c (a+1)
 |.row h t,a=> .row (aQ h a) (aQ t (a+(h.st.ders.length:Int)))
 |.choice k i j y n,a=> .choice k i j (aQ y a) (aQ n (a+(y.st.ders.length:Int)))
 |.loop k i j b,a=> .loop k i j (aQ b a)
theorem cE:∀(p:Lp) (a:Int),(aQ p a).st=p.st
 |.skip,_=>rfl
 |.stop,_=>rfl
 |.deed _,_=>rfl
 |.row h t,a=>by rw[aQ,Ln.st,cE h,cE t,Lp.st]
 |.choice k i j y n,a=>by rw[aQ,Ln.st,cE y,cE n,Lp.st]
 |.loop k i j b,a=>by rw[aQ,Ln.st,cE b,Lp.st]
theorem eF:∀(p:Lp) (a:Int),p.ok->(aQ p a).ok
 |.skip,_,_=>trivial
 |.stop,_,_=>trivial
 |.deed _,_,h=>h
 |.row h t,a,o=>⟨eF h a o.1,eF t _ o.2⟩
 |.choice k i j y n,a,o=>⟨o.1,eF y a o.2.1,eF n _ o.2.2⟩
 |.loop k i j b,a,o=>⟨o.1,eF b a o.2⟩
def Ln.fst:Ln->Int->Str×Int
 |.skip,_=>("done",0)
 |.stop,_=>("stopped",0)
 |.deed c m,_=>(c,m)
 |.row h t,s=>bY h.fst t.fst s
 |.choice k i j y n,s=>if (sg k i j).at s=true then y.fst s else n.fst s
 |.loop k i j b,s=>ldoor ((sg k i j).at s) (b.fst s)
def Ln.left:Ln->Int->Ln
 |.row h t,k=>if h.cnt<k then t.left (k-h.cnt) else .row (h.left k) t
 |.choice _ _ _ y n,k=>if y.cnt<k then n.left (k-y.cnt) else y.left k
 |.loop k i j b,m=> .row (b.left m) (.loop k i j b)
 |.skip,_=> .skip
 |.stop,_=> .skip
 |.deed _ _,_=> .skip
theorem dN:∀(q:Ln) (k:Int),q.ok->(q.left k).ok
 |.skip,_,_=>trivial
 |.stop,_,_=>trivial
 |.deed _ _,_,_=>trivial
 |.row h t,k,o=>by
  unfold Ln.left
  split
  ·exact dN t _ o.2
  ·exact⟨dN h k o.1,o.2⟩
 |.choice _ _ _ y n,k,o=>by
  unfold Ln.left
  split
  ·exact dN n _ o.2.2
  ·exact dN y k o.2.1
 |.loop k i j b,m,o=>⟨dN b m o.2,o⟩
theorem bP:∀(q:Ln) (k:Int),(q.left k).st.depth<=q.st.depth+1
 |.skip,_=>by simp[Ln.left,Ln.st,St.depth]
 |.stop,_=>by simp[Ln.left,Ln.st,St.depth]
 |.deed _ _,_=>by simp[Ln.left,Ln.st,St.depth]
 |.row h t,k=>by
  have i1:=bP h k
  have i2:=bP t (k-h.cnt)
  unfold Ln.left
  split
  ·show _<=max h.st.depth t.st.depth+1+1;omega
  ·show max (h.left k).st.depth t.st.depth+1<=max h.st.depth t.st.depth+1+1;omega
 |.choice a b c y n,k=>by
  have i1:=bP y k
  have i2:=bP n (k-y.cnt)
  unfold Ln.left
  split
  ·show _<=max (sg a b c).depth (max y.st.depth n.st.depth)+1+1;omega
  ·show _<=max (sg a b c).depth (max y.st.depth n.st.depth)+1+1;omega
 |.loop a b c d,m=>by
  have i1:=bP d m
  show max (d.left m).st.depth (max (sg a b c).depth d.st.depth+1)+1<=max (sg a b c).depth d.st.depth+1+1
  omega
theorem dG:∀(p:Lp) (a:Int),(Dr p.st a).1=(aQ p a).fst
 |.skip,_=>rfl
 |.stop,_=>rfl
 |.deed _,_=>rfl
 |.row h t,a=>by
  funext s
  show bY (Dr h.st a).1 (Dr t.st _).1 s=bY (aQ h a).fst (aQ t _).fst s
  rw[dG h,dG t]
 |.choice k i j y n,a=>by
  funext s
  show(if (sg k i j).at s=true then(Dr y.st a).1 s else(Dr n.st _).1 s)=if (sg k i j).at s=true then(aQ y a).fst s else(aQ n _).fst s
  rw[dG y,dG n]
 |.loop k i j b,a=>by
  funext s
  show ldoor ((sg k i j).at s) ((Dr b.st a).1 s)=ldoor ((sg k i j).at s) ((aQ b a).fst s)
  rw[dG b]
theorem dO:∀(p:Lp) (a:Int) (m:Nat),m<p.st.ders.length->(Dr p.st a).2[m]? =some ((aQ p a).left ((m:Int)+1)).fst/\p.st.ders[m]? =some ((aQ p a).left ((m:Int)+1)).st
 |.skip,_,m,h=>by simp[Lp.st,St.ders]at h
 |.stop,_,m,h=>by simp[Lp.st,St.ders]at h
 |.deed _,_,m,h=>by
  have h:m<1:=h
  obtain rfl:m=0:=by omega
  exact⟨rfl,rfl⟩
 |.row h t,a,m,hm=>by
  have hl:(Lp.row h t).st.ders.length=h.st.ders.length+t.st.ders.length:=by simp[Lp.st,St.ders]
  have hc:(aQ h a).cnt=(h.st.ders.length:Int):=by unfold Ln.cnt;rw[cE]
  rw[hl]at hm
  show((Dr h.st a).2.map (fun f=>bY f (Dr t.st (a+(h.st.ders.length:Int))).1)++(Dr t.st (a+(h.st.ders.length:Int))).2)[m]? =_/\(h.st.ders.map (fun l=>St.row l t.st)++t.st.ders)[m]? =_
  rw[aQ,Ln.left,hc]
  by_cases q:m<h.st.ders.length
  ·obtain⟨i1,i2⟩:=dO h a m q
   rw[if_neg (by omega),List.getElem?_append_left (by rw[List.length_map,bp];exact q),List.getElem?_append_left (by rw[List.length_map];exact q),List.getElem?_map,List.getElem?_map,i1,i2]
   refine⟨?_,?_⟩
   ·simp only[Option.map_some]
    congr 1
    funext s
    show bY _ _ s=bY ((aQ h a).left ((m:Int)+1)).fst (aQ t _).fst s
    rw[dG t]
   ·simp only[Option.map_some]
    rw[Ln.st,cE]
  ·obtain⟨i1,i2⟩:=dO t (a+(h.st.ders.length:Int)) (m-h.st.ders.length) (by omega)
   have e:((m:Int)+1-(h.st.ders.length:Int))=(((m-h.st.ders.length:Nat):Int)+1):=by omega
   rw[if_pos (by omega),e,List.getElem?_append_right (by rw[List.length_map,bp];omega),List.getElem?_append_right (by rw[List.length_map];omega),List.length_map,List.length_map,bp,i1,i2]
   exact⟨rfl,rfl⟩
 |.choice k i j y n,a,m,hm=>by
  have hl:(Lp.choice k i j y n).st.ders.length=y.st.ders.length+n.st.ders.length:=by simp[Lp.st,St.ders]
  have hc:(aQ y a).cnt=(y.st.ders.length:Int):=by unfold Ln.cnt;rw[cE]
  rw[hl]at hm
  show((Dr y.st a).2++(Dr n.st (a+(y.st.ders.length:Int))).2)[m]? =_/\(y.st.ders++n.st.ders)[m]? =_
  rw[aQ,Ln.left,hc]
  by_cases q:m<y.st.ders.length
  ·obtain⟨i1,i2⟩:=dO y a m q
   rw[if_neg (by omega),List.getElem?_append_left (by rw[bp];exact q),List.getElem?_append_left q,i1,i2]
   exact⟨rfl,rfl⟩
  ·obtain⟨i1,i2⟩:=dO n (a+(y.st.ders.length:Int)) (m-y.st.ders.length) (by omega)
   have e:((m:Int)+1-(y.st.ders.length:Int))=(((m-y.st.ders.length:Nat):Int)+1):=by omega
   rw[if_pos (by omega),e,List.getElem?_append_right (by rw[bp];omega),List.getElem?_append_right (by omega),bp,i1,i2]
   exact⟨rfl,rfl⟩
 |.loop k i j b,a,m,hm=>by
  have hl:(Lp.loop k i j b).st.ders.length=b.st.ders.length:=by simp[Lp.st,St.ders]
  rw[hl]at hm
  obtain⟨i1,i2⟩:=dO b a m hm
  show((Dr b.st a).2.map fun f=>bY f fun s=>ldoor ((sg k i j).at s) ((Dr b.st a).1 s))[m]? =_/\(b.st.ders.map fun l=>St.row l (.loop (sg k i j) b.st))[m]? =_
  rw[aQ,Ln.left,List.getElem?_map,List.getElem?_map,i1,i2]
  refine⟨?_,?_⟩
  ·simp only[Option.map_some]
   congr 1
   funext s
   show bY _ _ s=bY ((aQ b a).left ((m:Int)+1)).fst (Ln.loop k i j (aQ b a)).fst s
   rw[dG b]
   rfl
  ·simp only[Option.map_some]
   rw[Ln.st,Ln.st,cE]
theorem dj:∀(q:Lp) (n:Nat),q.st.depth<n->gF n 15 [q.pv]= .ok (.int (q.st.ders.length:Int))
 |.skip,n+1,_=>rfl
 |.stop,n+1,_=>rfl
 |.deed c,n+1,_=>rfl
 |.row a b,n+1,hd=>by
  have hd:max a.st.depth b.st.depth+1<n+1:=hd
  have i1:=dj a n (by omega)
  have i2:=dj b n (by omega)
  rw[g_zf,au rfl]
  show fin (dU (gF n) [.v .(K)])=_
  have j0:fIx .(K) (.int 0)= .ok (.str "row"):=rfl
  have j1:fIx .(K) (.int 1)= .ok a.pv:=rfl
  have j2:fIx .(K) (.int 2)= .ok b.pv:=rfl
  unfold dU
  simp[j0,j1,j2, -bi,i1,i2,Lp.st,St.ders]
 |.choice k i j a b,n+1,hd=>by
  have hd:max (sg k i j).depth (max a.st.depth b.st.depth)+1<n+1:=hd
  have i1:=dj a n (by omega)
  have i2:=dj b n (by omega)
  rw[g_zf,au rfl]
  show fin (dU (gF n) [.v .(B)])=_
  have j0:fIx .(B) (.int 0)= .ok .(AF):=rfl
  have j2:fIx .(B) (.int 2)= .ok a.pv:=rfl
  have j3:fIx .(B) (.int 3)= .ok b.pv:=rfl
  have b1:(("choice":Str) == "row")=false:=by decide +kernel
  unfold dU
  simp[j0,j2,j3, -bi,b1,i1,i2,Lp.st,St.ders]
 |.loop k i j a,n+1,hd=>by
  have hd:max (sg k i j).depth a.st.depth+1<n+1:=hd
  have i1:=dj a n (by omega)
  rw[g_zf,au rfl]
  show fin (dU (gF n) [.v (.tup [.str "loop",.tup .(C),a.pv])])=_
  have j0:fIx (.tup [.str "loop",.tup .(C),a.pv]) (.int 0)= .ok (.str "loop"):=rfl
  have j2:fIx (.tup [.str "loop",.tup .(C),a.pv]) (.int 2)= .ok a.pv:=rfl
  have b1:(("loop":Str) == "row")=false:=by decide +kernel
  have b2:(("loop":Str) == "choice")=false:=by decide +kernel
  unfold dU
  simp[j0,j2, -bi,b1,b2,i1,Lp.st,St.ders]
theorem dH:∀(q:Ln) (n:Nat),q.st.depth<n->gF n 15 [q.pv]= .ok (.int q.cnt)
 |.skip,n+1,_=>rfl
 |.stop,n+1,_=>rfl
 |.deed c m,n+1,_=>rfl
 |.row a b,n+1,hd=>by
  have hd:max a.st.depth b.st.depth+1<n+1:=hd
  have i1:=dH a n (by omega)
  have i2:=dH b n (by omega)
  rw[g_zf,au rfl]
  show fin (dU (gF n) [.v .(K)])=_
  have j0:fIx .(K) (.int 0)= .ok (.str "row"):=rfl
  have j1:fIx .(K) (.int 1)= .ok a.pv:=rfl
  have j2:fIx .(K) (.int 2)= .ok b.pv:=rfl
  unfold dU
  simp[j0,j1,j2, -bi,i1,i2,Ln.cnt,Ln.st,St.ders]
 |.choice k i j a b,n+1,hd=>by
  have hd:max (sg k i j).depth (max a.st.depth b.st.depth)+1<n+1:=hd
  have i1:=dH a n (by omega)
  have i2:=dH b n (by omega)
  rw[g_zf,au rfl]
  show fin (dU (gF n) [.v .(B)])=_
  have j0:fIx .(B) (.int 0)= .ok .(AF):=rfl
  have j2:fIx .(B) (.int 2)= .ok a.pv:=rfl
  have j3:fIx .(B) (.int 3)= .ok b.pv:=rfl
  have b1:(("choice":Str) == "row")=false:=by decide +kernel
  unfold dU
  simp[j0,j2,j3, -bi,b1,i1,i2,Ln.cnt,Ln.st,St.ders]
 |.loop k i j a,n+1,hd=>by
  have hd:max (sg k i j).depth a.st.depth+1<n+1:=hd
  have i1:=dH a n (by omega)
  rw[g_zf,au rfl]
  show fin (dU (gF n) [.v (.tup [.str "loop",.tup .(C),a.pv])])=_
  have j0:fIx (.tup [.str "loop",.tup .(C),a.pv]) (.int 0)= .ok (.str "loop"):=rfl
  have j2:fIx (.tup [.str "loop",.tup .(C),a.pv]) (.int 2)= .ok a.pv:=rfl
  have b1:(("loop":Str) == "row")=false:=by decide +kernel
  have b2:(("loop":Str) == "choice")=false:=by decide +kernel
  unfold dU
  simp[j0,j2, -bi,b1,b2,i1,Ln.cnt,Ln.st,St.ders]
theorem fB:∀(q:Lp) (n:Nat) (a:Int),q.st.depth<n->gF n 16 [q.pv,.int a]= .ok (aQ q a).pv
 |.skip,n+1,a,_=>rfl
 |.stop,n+1,a,_=>rfl
 |.deed c,n+1,a,_=>rfl
 |.row h t,n+1,a,hd=>by
  have hd:max h.st.depth t.st.depth+1<n+1:=hd
  have i1:=fB h n a (by omega)
  have i2:=fB t n (a+(h.st.ders.length:Int)) (by omega)
  have c1:=dj h n (by omega)
  rw[g_zg,au rfl]
  show fin (gL (gF n) [.v (.tup [.str "row",h.pv,t.pv]),.v (.int a),.no])=_
  have j0:fIx (.tup [.str "row",h.pv,t.pv]) (.int 0)= .ok (.str "row"):=rfl
  have j1:fIx (.tup [.str "row",h.pv,t.pv]) (.int 1)= .ok h.pv:=rfl
  have j2:fIx (.tup [.str "row",h.pv,t.pv]) (.int 2)= .ok t.pv:=rfl
  have b1:(("row":Str) == "deed")=false:=by decide +kernel
  unfold gL
  simp[j0,j1,j2, -bi,b1,i1,i2,c1,aQ,Ln.pv]
 |.choice k i j y m,n+1,a,hd=>by
  have hd:max (sg k i j).depth (max y.st.depth m.st.depth)+1<n+1:=hd
  have i1:=fB y n a (by omega)
  have i2:=fB m n (a+(y.st.ders.length:Int)) (by omega)
  have c1:=dj y n (by omega)
  rw[g_zg,au rfl]
  show fin (gL (gF n) [.v (.tup [.str "choice",.tup .(C),y.pv,m.pv]),.v (.int a),.no])=_
  have j0:fIx (.tup [.str "choice",.tup .(C),y.pv,m.pv]) (.int 0)= .ok .(AF):=rfl
  have j1:fIx (.tup [.str "choice",.tup .(C),y.pv,m.pv]) (.int 1)= .ok (.tup .(C)):=rfl
  have j2:fIx (.tup [.str "choice",.tup .(C),y.pv,m.pv]) (.int 2)= .ok y.pv:=rfl
  have j3:fIx (.tup [.str "choice",.tup .(C),y.pv,m.pv]) (.int 3)= .ok m.pv:=rfl
  have b1:(("choice":Str) == "deed")=false:=by decide +kernel
  have b2:(("choice":Str) == "row")=false:=by decide +kernel
  unfold gL
  simp[j0,j1,j2,j3, -bi,b1,b2,i1,i2,c1,aQ,Ln.pv]
 |.loop k i j b,n+1,a,hd=>by
  have hd:max (sg k i j).depth b.st.depth+1<n+1:=hd
  have i1:=fB b n a (by omega)
  rw[g_zg,au rfl]
  show fin (gL (gF n) [.v (.tup [.str "loop",.tup .(C),b.pv]),.v (.int a),.no])=_
  have j0:fIx (.tup [.str "loop",.tup .(C),b.pv]) (.int 0)= .ok (.str "loop"):=rfl
  have j1:fIx (.tup [.str "loop",.tup .(C),b.pv]) (.int 1)= .ok (.tup .(C)):=rfl
  have j2:fIx (.tup [.str "loop",.tup .(C),b.pv]) (.int 2)= .ok b.pv:=rfl
  have b1:(("loop":Str) == "deed")=false:=by decide +kernel
  have b2:(("loop":Str) == "row")=false:=by decide +kernel
  have b3:(("loop":Str) == "choice")=false:=by decide +kernel
  unfold gL
  simp[j0,j1,j2, -bi,b1,b2,b3,i1,aQ,Ln.pv]
theorem dP:∀(q:Ln) (n:Nat) (s:Int),q.ok->q.st.depth<n->∃w:PV,gF n 18 [q.pv,.int s]= .ok (.tup [.str (q.fst s).1,.int (q.fst s).2,w])
 |.skip,n+1,s,_,_=>⟨_,rfl⟩
 |.stop,n+1,s,_,_=>⟨_,rfl⟩
 |.deed c m,n+1,s,_,_=>⟨_,rfl⟩
 |.row a b,n+1,s,ho,hd=>by
  have hd:max a.st.depth b.st.depth+1<n+1:=hd
  obtain⟨w1,i1⟩:=dP a n s ho.1 (by omega)
  obtain⟨w2,i2⟩:=dP b n s ho.2 (by omega)
  rw[g_zi,au rfl]
  show ∃w,fin (gN (gF n) [.v .(K),.v (.int s),.no,.no,.no])=_
  have j0:fIx .(K) (.int 0)= .ok (.str "row"):=rfl
  have j1:fIx .(K) (.int 1)= .ok a.pv:=rfl
  have j2:fIx .(K) (.int 2)= .ok b.pv:=rfl
  have b1:(("row":Str) == "deed")=false:=by decide +kernel
  have b2:(("row":Str) == "choice")=false:=by decide +kernel
  unfold gN Ln.fst bY
  by_cases hdn:(a.fst s).1="done"
  ·have hb:((a.fst s).1 == "done")=true:=by simpa using hdn
   refine⟨w2,?_⟩
   simp[j0,j1,j2, -bi,b1,b2,i1,i2,hb,hdn]
  ·have hb:((a.fst s).1 == "done")=false:=by simpa using hdn
   refine⟨.tup [.str "row",w1,b.pv],?_⟩
   simp[j0,j1,j2, -bi,b1,b2,i1,hb,hdn]
 |.choice k i j a b,n+1,s,ho,hd=>by
  have hd:max (sg k i j).depth (max a.st.depth b.st.depth)+1<n+1:=hd
  obtain⟨w1,i1⟩:=dP a n s ho.2.1 (by omega)
  obtain⟨w2,i2⟩:=dP b n s ho.2.2 (by omega)
  obtain⟨m,rfl⟩:∃m,n=m+1:=⟨n-1,by omega⟩
  have i0:=fA m ho.1 s
  rw[g_zi,au rfl]
  show ∃w,fin (gN (gF (m+1)) [.v .(B),.v (.int s),.no,.no,.no])=_
  have j0:fIx .(B) (.int 0)= .ok .(AF):=rfl
  have j1:fIx .(B) (.int 1)= .ok (.tup .(C)):=rfl
  have j2:fIx .(B) (.int 2)= .ok a.pv:=rfl
  have j3:fIx .(B) (.int 3)= .ok b.pv:=rfl
  have b1:(("choice":Str) == "deed")=false:=by decide +kernel
  unfold gN Ln.fst
  cases hg:(sg k i j).at s
  ·rw[hg]at i0
   have c1:mo [.bl true]= .ok (.int 1):=rfl
   refine⟨w2,?_⟩
   simp[j0,j1,j2,j3, -bi,b1,i0,i2,c1]
  ·rw[hg]at i0
   have c1:mo [.bl false]= .ok (.int 0):=rfl
   refine⟨w1,?_⟩
   simp[j0,j1,j2,j3, -bi,b1,i0,i1,c1]
 |.loop k i j a,n+1,s,ho,hd=>by
  have hd:max (sg k i j).depth a.st.depth+1<n+1:=hd
  obtain⟨w1,i1⟩:=dP a n s ho.2 (by omega)
  obtain⟨m,rfl⟩:∃m,n=m+1:=⟨n-1,by omega⟩
  have i0:=fA m ho.1 s
  rw[g_zi,au rfl]
  show ∃w,fin (gN (gF (m+1)) [.v (.tup [.str "loop",.tup .(C),a.pv]),.v (.int s),.no,.no,.no])=_
  have j0:fIx (.tup [.str "loop",.tup .(C),a.pv]) (.int 0)= .ok (.str "loop"):=rfl
  have j1:fIx (.tup [.str "loop",.tup .(C),a.pv]) (.int 1)= .ok (.tup .(C)):=rfl
  have j2:fIx (.tup [.str "loop",.tup .(C),a.pv]) (.int 2)= .ok a.pv:=rfl
  have b1:(("loop":Str) == "deed")=false:=by decide +kernel
  have b2:(("loop":Str) == "choice")=false:=by decide +kernel
  have b3:(("loop":Str) == "row")=false:=by decide +kernel
  have b4:(("loop":Str) == "stop")=false:=by decide +kernel
  unfold gN Ln.fst ldoor
  cases hg:(sg k i j).at s
  ·rw[hg]at i0
   refine⟨.non,?_⟩
   simp[j0,j1,j2, -bi,b1,b2,b3,b4,i0]
  ·rw[hg]at i0
   by_cases hdn:(a.fst s).1="done"
   ·have hb:((a.fst s).1 == "done")=true:=by simpa using hdn
    refine⟨.non,?_⟩
    simp[j0,j1,j2, -bi,b1,b2,b3,i0,i1,hb,hdn]
   ·have hb:((a.fst s).1 == "done")=false:=by simpa using hdn
    refine⟨.tup [.str "row",w1,.tup [.str "loop",.tup .(C),a.pv]],?_⟩
    simp[j0,j1,j2, -bi,b1,b2,b3,i0,i1,hb,hdn]
theorem cU:∀(q:Ln) (n:Nat) (m:Int),q.st.depth<n->gF n 19 [q.pv,.int m]= .ok (q.left m).pv
 |.skip,n+1,m,_=>rfl
 |.stop,n+1,m,_=>rfl
 |.deed c x,n+1,m,_=>rfl
 |.row a b,n+1,m,hd=>by
  have hd:max a.st.depth b.st.depth+1<n+1:=hd
  have i1:=cU a n m (by omega)
  have i2:=cU b n (m-a.cnt) (by omega)
  have c1:=dH a n (by omega)
  rw[g_zj,au rfl]
  show fin (gO (gF n) [.v .(K),.v (.int m),.no])=_
  have j0:fIx .(K) (.int 0)= .ok (.str "row"):=rfl
  have j1:fIx .(K) (.int 1)= .ok a.pv:=rfl
  have j2:fIx .(K) (.int 2)= .ok b.pv:=rfl
  unfold gO Ln.left
  by_cases h:a.cnt<m
  ·simp[j0,j1,j2, -bi,c1,h,i2]
  ·simp[j0,j1,j2, -bi,c1,h,i1,Ln.pv]
 |.choice k i j a b,n+1,m,hd=>by
  have hd:max (sg k i j).depth (max a.st.depth b.st.depth)+1<n+1:=hd
  have i1:=cU a n m (by omega)
  have i2:=cU b n (m-a.cnt) (by omega)
  have c1:=dH a n (by omega)
  rw[g_zj,au rfl]
  show fin (gO (gF n) [.v .(B),.v (.int m),.no])=_
  have j0:fIx .(B) (.int 0)= .ok .(AF):=rfl
  have j2:fIx .(B) (.int 2)= .ok a.pv:=rfl
  have j3:fIx .(B) (.int 3)= .ok b.pv:=rfl
  have b1:(("choice":Str) == "row")=false:=by decide +kernel
  unfold gO Ln.left
  by_cases h:a.cnt<m
  ·simp[j0,j2,j3, -bi,b1,c1,h,i2]
  ·simp[j0,j2,j3, -bi,b1,c1,h,i1]
 |.loop k i j a,n+1,m,hd=>by
  have hd:max (sg k i j).depth a.st.depth+1<n+1:=hd
  have i1:=cU a n m (by omega)
  rw[g_zj,au rfl]
  show fin (gO (gF n) [.v (.tup [.str "loop",.tup .(C),a.pv]),.v (.int m),.no])=_
  have j0:fIx (.tup [.str "loop",.tup .(C),a.pv]) (.int 0)= .ok (.str "loop"):=rfl
  have j2:fIx (.tup [.str "loop",.tup .(C),a.pv]) (.int 2)= .ok a.pv:=rfl
  have b1:(("loop":Str) == "row")=false:=by decide +kernel
  have b2:(("loop":Str) == "choice")=false:=by decide +kernel
  unfold gO Ln.left
  simp[j0,j2, -bi,b1,b2,i1,Ln.pv]
theorem jr:∀l:List Bool,ef (l.map PV.bl)=true
 |[]=>rfl
 |b::l=>by rw[List.map_cons,ef,jr l];rfl
theorem kW:∀l:List Bool,aA (l.map PV.bl)=0
 |[]=>by rw[List.map_nil,aA]
 |b::l=>by rw[List.map_cons,aA,kW l];rfl
theorem kX{x:PV}(h:x.data=true)(hd:x.depth<100):fEq x x= .ok (.bl true):=by
 unfold fEq
 rw[if_pos hd,gp x h]
theorem pQ{x:PV}(h:x.data=true)(hd:x.depth<100):iG x x= .ok (.bl false):=by
 unfold iG
 rw[if_pos hd,gp x h]
 rfl
theorem eZ(n:Nat){k i j:Int}(h:ot k i j)(hn:4<=n):gF (n+1) 20 [(sg k i j).pv,.tup .(C)]= .ok (.bl true):=by
 obtain⟨n,rfl⟩:∃m,n=m+1:=⟨n-1,by omega⟩
 obtain⟨ok,dp⟩:=jp h
 have e:gF (n+1+1) 20 [(sg k i j).pv,.tup .(C)]=fin (o3 (gF (n+1)) [.v (sg k i j).pv,.v (.tup .(C))]):=rfl
 rw[e]
 unfold o3
 have c1:dComp ["_law_s"] [("_law_sign_here",0)] (dRng1 (dCons (dC (.int 16)) dNil)) (gSet 0) ci (bn aL (gF (n+1)) (aa 1) .(Ay)) [.v (sg k i j).pv,.v (.tup .(C))]= .ok ((.(AE).map fun(s:Nat)=>(sg k i j).at (0+(s:Int))).map .bl):=by
  unfold dComp
  rw[ig,aM,if_pos jm,List.map_map]
  refine bJ (fun(s:Nat)=>PV.int (0+(s:Int))) _ .(AE) _ fun s _=> ?_
  have:=bX (sg k i j) (n+1) (0+(s:Int)) ok (by omega)
  show callM aL (gF (n+1)) (sg k i j).pv [.int (0+(s:Int))]=_
  rw[this]
  rfl
 have c2:dComp ["_law_s"] [("_law_test_here",1)] (dRng1 (dCons (dC (.int 16)) dNil)) (gSet 0) ci (ad (gF (n+1) 11) (dCons (aa 1) .(Ay))) [.v (sg k i j).pv,.v (.tup .(C))]= .ok ((.(AE).map fun(s:Nat)=>(sg k i j).at (0+(s:Int))).map .bl):=by
  unfold dComp
  rw[ig,aM,if_pos jm,List.map_map]
  refine bJ (fun(s:Nat)=>PV.int (0+(s:Int))) _ .(AE) _ fun s _=> ?_
  have:=fA n h (0+(s:Int))
  show gF (n+1) 11 [.tup .(C),.int (0+(s:Int))]=_
  rw[this]
  rfl
 rw[gm,lw,i7,i7,c1,c2]
 show fin ((fEq (.lst ((.(AE).map fun(s:Nat)=>(sg k i j).at (0+(s:Int))).map .bl)) (.lst ((.(AE).map fun(s:Nat)=>(sg k i j).at (0+(s:Int))).map .bl))).st fun w=> .ret w)=_
 rw[kX (by rw[PV.data];exact jr _) (by rw[PV.depth,kW];decide)]
 rfl
theorem cF:∀(q:Ln) (n:Nat),q.ok->q.st.depth+6<n->gF n 21 [q.st.pv,q.pv]= .ok (.bl true)
 |.skip,n+1,_,_=>rfl
 |.stop,n+1,_,_=>rfl
 |.deed c m,n+1,_,_=>by
  have e:gF (n+1) 21 [(Ln.deed c m).st.pv,(Ln.deed c m).pv]= .ok (.bl (c == c)):=rfl
  rw[e]
  simp
 |.row a b,n+1,ho,hd=>by
  have hd:max a.st.depth b.st.depth+1+6<n+1:=hd
  have i1:=cF a n ho.1 (by omega)
  have i2:=cF b n ho.2 (by omega)
  rw[g_zl,au rfl]
  show fin (gP (gF n) [.v (.obj 4 [a.st.pv,b.st.pv]),.v .(K)])=_
  have j0:fIx .(K) (.int 0)= .ok (.str "row"):=rfl
  have j1:fIx .(K) (.int 1)= .ok a.pv:=rfl
  have j2:fIx .(K) (.int 2)= .ok b.pv:=rfl
  have f1:aZ cB (.obj 4 [a.st.pv,b.st.pv])= .ok a.st.pv:=rfl
  have f2:aZ cC (.obj 4 [a.st.pv,b.st.pv])= .ok b.st.pv:=rfl
  have x1:cS i_zG (.obj 4 [a.st.pv,b.st.pv])= .ok (.bl true):=rfl
  have b1:(("row":Str) == "deed")=false:=by decide +kernel
  unfold gP
  simp[j0,j1,j2, -bi,b1,i1,i2,f1,f2,x1]
 |.choice k i j a b,n+1,ho,hd=>by
  have hd:max (sg k i j).depth (max a.st.depth b.st.depth)+1+6<n+1:=hd
  have i1:=cF a n ho.2.1 (by omega)
  have i2:=cF b n ho.2.2 (by omega)
  obtain⟨m,rfl⟩:∃m,n=m+1:=⟨n-1,by omega⟩
  have i0:=eZ m ho.1 (by omega)
  rw[g_zl,au rfl]
  show fin (gP (gF (m+1)) [.v (.obj 5 [(sg k i j).pv,a.st.pv,b.st.pv]),.v .(B)])=_
  have j0:fIx .(B) (.int 0)= .ok .(AF):=rfl
  have j1:fIx .(B) (.int 1)= .ok (.tup .(C)):=rfl
  have j2:fIx .(B) (.int 2)= .ok a.pv:=rfl
  have j3:fIx .(B) (.int 3)= .ok b.pv:=rfl
  have f0:aZ bL (.obj 5 [(sg k i j).pv,a.st.pv,b.st.pv])= .ok (sg k i j).pv:=rfl
  have f1:aZ eW (.obj 5 [(sg k i j).pv,a.st.pv,b.st.pv])= .ok a.st.pv:=rfl
  have f2:aZ iM (.obj 5 [(sg k i j).pv,a.st.pv,b.st.pv])= .ok b.st.pv:=rfl
  have x1:cS i_zH (.obj 5 [(sg k i j).pv,a.st.pv,b.st.pv])= .ok (.bl true):=rfl
  have b1:(("choice":Str) == "deed")=false:=by decide +kernel
  have b2:(("choice":Str) == "row")=false:=by decide +kernel
  unfold gP
  simp[j0,j1,j2,j3, -bi,b1,b2,i0,i1,i2,f0,f1,f2,x1]
 |.loop k i j a,n+1,ho,hd=>by
  have hd:max (sg k i j).depth a.st.depth+1+6<n+1:=hd
  have i1:=cF a n ho.2 (by omega)
  obtain⟨m,rfl⟩:∃m,n=m+1:=⟨n-1,by omega⟩
  have i0:=eZ m ho.1 (by omega)
  rw[g_zl,au rfl]
  show fin (gP (gF (m+1)) [.v (.obj 6 [(sg k i j).pv,a.st.pv]),.v (.tup [.str "loop",.tup .(C),a.pv])])=_
  have j0:fIx (.tup [.str "loop",.tup .(C),a.pv]) (.int 0)= .ok (.str "loop"):=rfl
  have j1:fIx (.tup [.str "loop",.tup .(C),a.pv]) (.int 1)= .ok (.tup .(C)):=rfl
  have j2:fIx (.tup [.str "loop",.tup .(C),a.pv]) (.int 2)= .ok a.pv:=rfl
  have f0:aZ bL (.obj 6 [(sg k i j).pv,a.st.pv])= .ok (sg k i j).pv:=rfl
  have f1:aZ cz (.obj 6 [(sg k i j).pv,a.st.pv])= .ok a.st.pv:=rfl
  have x1:cS i_zI (.obj 6 [(sg k i j).pv,a.st.pv])= .ok (.bl true):=rfl
  have b1:(("loop":Str) == "deed")=false:=by decide +kernel
  have b2:(("loop":Str) == "row")=false:=by decide +kernel
  have b3:(("loop":Str) == "choice")=false:=by decide +kernel
  unfold gP
  simp[j0,j1,j2, -bi,b1,b2,b3,i0,i1,f0,f1,x1]
theorem oh(n:Nat)(q:Ln)(hq:q.ok)(hd:q.st.depth<n):gF (n+1) 22 [rpv q.fst,q.pv]= .ok (.bl true):=by
 have e:gF (n+1) 22 [rpv q.fst,q.pv]=fin (o5 (gF n) [.v (rpv q.fst),.v q.pv,.no,.no]):=rfl
 rw[e]
 unfold o5
 have s1:sIf (dw (aY (dTr (bT i_list (dSee 0)))) (dTr (d2 iG (ad dS (dCons (dSee 0) dNil)) (dC (.int 16))))) (aq (dC (.bl false))) al [.v (rpv q.fst),.v q.pv,.no,.no]= .nx [.v (rpv q.fst),.v q.pv,.no,.no]:=rfl
 rw[ba,s1,aB,ba,mP,ig,dn]
 have turn:∀(s:Nat) (s2 s3:Sl),s<16->cM (gF n) [.v (rpv q.fst),.v q.pv,.v .(AH),s3]= .nx .(T):=fun s s2 s3 hs=>by
  obtain⟨w,i1⟩:=dP q n (0+(s:Int)) hq hd
  have hr:=tE q.fst (s:=0+(s:Int)) (by omega) (by omega)
  unfold cM
  have a1:aO 3 (d2 fIx (dSee 0) (dSee 2)) [.v (rpv q.fst),.v q.pv,.v .(AH),s3]= .nx .(T):=by
   have:(d2 fIx (dSee 0) (dSee 2)) [.v (rpv q.fst),.v q.pv,.v .(AH),s3]=fIx (rpv q.fst) .(AH):=rfl
   rw[cy,this,hr]
   rfl
  have a2:sIf (dw (aY (dTr (bT i_tuple (dSee 3)))) (dw (dTr (d2 iG (ad dS (dCons (dSee 3) dNil)) (dC (.int 2)))) (dTr (bT i_bool (d2 fIx (dSee 3) (dC (.int 1))))))) (aq (dC (.bl false))) al .(T)= .nx .(T):=rfl
  have a3:(dTr (d2 iG (dSee 3) (i8 (ad (gF n 18) (dCons (aa 1) .(I))) gB (f7 (dC (.int 2)))))) .(T)= .ok false:=by
   have t1:(ad (gF n 18) (dCons (aa 1) .(I))) .(T)= .ok (.tup [.str (q.fst (0+(s:Int))).1,.int (q.fst (0+(s:Int))).2,w]):=i1
   have t2:(i8 (ad (gF n 18) (dCons (aa 1) .(I))) gB (f7 (dC (.int 2)))) .(T)= .ok .(AA):=by
    unfold i8
    rw[t1]
    rfl
   rw[iH,lw,t2]
   show(iG .(AA) .(AA)).bind _=_
   rw[pQ rfl (by show max 0 (max 0 0)+1<100;decide)]
   rfl
  rw[ba,a1,aB,ba,a2,aB,jX,a3]
  rfl
 have loop:∀(l:List Nat) (s2 s3:Sl),(∀s∈l,s<16)->∃t2 t3,bW (gSet 2) (cM (gF n)) (l.map fun(s:Nat)=>PV.int (0+(s:Int))) [.v (rpv q.fst),.v q.pv,s2,s3]= .nx [.v (rpv q.fst),.v q.pv,t2,t3]:=by
  intro l
  induction l with
  |nil=>intro s2 s3 _;exact⟨s2,s3,rfl⟩
  |cons s l ih =>
   intro s2 s3 h
   have t:=turn s s2 s3 (h s List.mem_cons_self)
   obtain⟨t2,t3,e⟩:=ih (.v .(AH)) (.v .(AA)) fun u hu=>h u (List.mem_cons_of_mem _ hu)
   refine⟨t2,t3,?_⟩
   rw[List.map_cons]
   show((gSet 2 .(AH) [.v (rpv q.fst),.v q.pv,s2,s3]).st fun ps1=>match cM (gF n) ps1 with | .nx ps2=>bW (gSet 2) (cM (gF n)) (l.map fun(s:Nat)=>PV.int (0+(s:Int))) ps2 | .cnt ps2=>bW (gSet 2) (cM (gF n)) (l.map fun(s:Nat)=>PV.int (0+(s:Int))) ps2 | .brk ps2=> .nx ps2|r=>r)=_
   rw[jY,dn]
   show(match cM (gF n) [.v (rpv q.fst),.v q.pv,.v .(AH),s3]with | .nx ps2=>bW (gSet 2) (cM (gF n)) (l.map fun(s:Nat)=>PV.int (0+(s:Int))) ps2 | .cnt ps2=>bW (gSet 2) (cM (gF n)) (l.map fun(s:Nat)=>PV.int (0+(s:Int))) ps2 | .brk ps2=> .nx ps2|r=>r)=_
   rw[t]
   exact e
 obtain⟨t2,t3,e⟩:=loop .(AE) .no .no (fun s hs=>List.mem_range.mp hs)
 rw[e,aB]
 rfl
theorem cV:∀(t:St) (n:Nat),t.ok->t.depth<n->t.ders.length<=1000->gF n 0 [t.pv]= .ok (.lst (t.ders.map St.pv))
 |.skip,n+1,_,_,_=>rfl
 |.stop,n+1,_,_,_=>rfl
 |.deed c,n+1,_,_,_=>rfl
 |.row h t,n+1,ho,hd,hl=>by
  have hd:max h.depth t.depth+1<n+1:=hd
  have hl:(h.ders.map (fun l=>St.row l t)++t.ders).length<=1000:=hl
  rw[List.length_append,List.length_map]at hl
  have i1:=cV h n ho.1 (by omega) (by omega)
  have i2:=cV t n ho.2 (by omega) (by omega)
  rw[g_z0,au rfl]
  show fin (gJ (gF n) [.v .(AG),.no])=_
  have f1:aZ cB .(AG)= .ok h.pv:=rfl
  have f2:aZ cC .(AG)= .ok t.pv:=rfl
  have x0:cS i_zF .(AG)= .ok (.bl false):=rfl
  have x1:cS i_zG .(AG)= .ok (.bl true):=rfl
  have hc:dComp ["left"] [("step",0)] (bh (ad (gF n 0) (dCons (ax cB (aa 0)) dNil))) (gSet 0) ci (cu 4 (dCons (aa 0) (dCons (ax cC (aa 1)) dNil))) [.v .(AG),.no]= .ok ((h.ders.map fun l=>St.row l t).map St.pv):=by
   have ei:bh (ad (gF n 0) (dCons (ax cB (aa 0)) dNil)) [.v .(AG),.no]= .ok (h.ders.map St.pv):=by
    show(gF n 0 [h.pv]).bind _=_
    rw[i1]
    rfl
   unfold dComp
   rw[ei,aM,if_pos (by rw[List.length_map];show h.ders.length<=16777216;omega),List.map_map]
   exact bJ (ps0:=[.v .(AG)]) St.pv _ h.ders .no fun l _=>rfl
  have hs:h.ders.length+t.ders.length<=sizeLine:=by show _<=16777216;omega
  unfold gJ
  simp[x0,x1,f2,hc,i2,hs,St.ders]
 |.choice g y m,n+1,ho,hd,hl=>by
  have hd:max g.depth (max y.depth m.depth)+1<n+1:=hd
  have hl:(y.ders++m.ders).length<=1000:=hl
  rw[List.length_append]at hl
  have i1:=cV y n ho.2.1 (by omega) (by omega)
  have i2:=cV m n ho.2.2 (by omega) (by omega)
  rw[g_z0,au rfl]
  show fin (gJ (gF n) [.v (.obj 5 [g.pv,y.pv,m.pv]),.no])=_
  have f1:aZ eW (.obj 5 [g.pv,y.pv,m.pv])= .ok y.pv:=rfl
  have f2:aZ iM (.obj 5 [g.pv,y.pv,m.pv])= .ok m.pv:=rfl
  have x0:cS i_zF (.obj 5 [g.pv,y.pv,m.pv])= .ok (.bl false):=rfl
  have x1:cS i_zG (.obj 5 [g.pv,y.pv,m.pv])= .ok (.bl false):=rfl
  have x2:cS i_zH (.obj 5 [g.pv,y.pv,m.pv])= .ok (.bl true):=rfl
  have hs:y.ders.length+m.ders.length<=sizeLine:=by show _<=16777216;omega
  unfold gJ
  simp[x0,x1,x2,f1,f2,i1,i2,hs,St.ders]
 |.loop g b,n+1,ho,hd,hl=>by
  have hd:max g.depth b.depth+1<n+1:=hd
  have hl:(b.ders.map fun l=>St.row l (.loop g b)).length<=1000:=hl
  rw[List.length_map]at hl
  have i1:=cV b n ho.2 (by omega) (by omega)
  rw[g_z0,au rfl]
  show fin (gJ (gF n) [.v .(Ag),.no])=_
  have f1:aZ cz .(Ag)= .ok b.pv:=rfl
  have x0:cS i_zF .(Ag)= .ok (.bl false):=rfl
  have x1:cS i_zG .(Ag)= .ok (.bl false):=rfl
  have x2:cS i_zH .(Ag)= .ok (.bl false):=rfl
  have x3:cS i_zI .(Ag)= .ok (.bl true):=rfl
  have hc:dComp ["left"] [("step",0)] (bh (ad (gF n 0) (dCons (ax cz (aa 0)) dNil))) (gSet 0) ci (cu 4 (dCons (aa 0) .(R))) [.v .(Ag),.no]= .ok ((b.ders.map fun l=>St.row l (.loop g b)).map St.pv):=by
   have ei:bh (ad (gF n 0) (dCons (ax cz (aa 0)) dNil)) [.v .(Ag),.no]= .ok (b.ders.map St.pv):=by
    show(gF n 0 [b.pv]).bind _=_
    rw[i1]
    rfl
   unfold dComp
   rw[ei,aM,if_pos (by rw[List.length_map];show b.ders.length<=16777216;omega),List.map_map]
   exact bJ (ps0:=[.v .(Ag)]) St.pv _ b.ders .no fun l _=>rfl
  unfold gJ
  simp[x0,x1,x2,x3,hc,St.ders]
def rmP(t:St):PV:= .obj 13 [t.pv,rows (Dr t 0)]
theorem oi(t:St)(n:Nat)(ho:t.ok)(hd:2*t.depth+2<=n)(hl:t.ders.length<=1000):gF (n+1) 37 [t.pv]= .ok (rmP t):=by
 have d:=cT t n 0 ho hd hl
 have s1:jh 13 0 (aa 1) [.ini 13 [],.v t.pv]= .nx [.ini 13 [t.pv],.v t.pv]:=rfl
 have q:(ad (gF n 1) (dCons (aa 1) .(Ak))) [.ini 13 [t.pv],.v t.pv]= .ok (rows (Dr t 0)):=d
 have s2:jh 13 1 (ad (gF n 1) (dCons (aa 1) .(Ak))) [.ini 13 [t.pv],.v t.pv]= .nx [.ini 13 [t.pv,rows (Dr t 0)],.v t.pv]:=by
  unfold jh
  rw[q]
  rfl
 have e:kg (gF n) [.ini 13 [],.v t.pv]= .nx [.ini 13 [t.pv,rows (Dr t 0)],.v t.pv]:=by
  unfold kg
  rw[ba,s1,aB,s2]
 rw[g_zB]
 unfold jZ
 rw[if_pos (show[t.pv].length=[false].length from rfl)]
 show(match kg (gF n) [.ini 13 [],.v t.pv]with|Rs.nx ps=>(match ps[0]? with|some (Sl.ini k' fs)=>if k'=13/\fs.length=2 then Rx.ok (PV.obj 13 fs) else Rx.bad|_=>Rx.bad)|Rs.exc c=>Rx.exc c|_=>Rx.bad)=_
 rw[e]
 rfl
theorem kY(t:St)(n:Nat)(ho:t.ok)(hd:t.depth<n)(hl:t.ders.length<=1000)(m:Nat){l:St}(h:(m=0/\l=t)\/ ∃j,m=j+1/\t.ders[j]? =some l):callM q_rest_of (gF (n+1)) (rmP t) [.int (m:Int)]= .ok l.pv:=by
 have e:callM q_rest_of (gF (n+1)) (rmP t) [.int (m:Int)]=fin (o9 (gF n) [.v (rmP t),.v (.int (m:Int))]):=rfl
 have f1:aZ bK (rmP t)= .ok t.pv:=rfl
 have r:=cV t n ho hd hl
 rw[e]
 unfold o9
 rcases h with⟨rfl,rfl⟩|⟨j,rfl,hj⟩
 ·simp[f1]
 ·have h0:(((j+1:Nat):Int) == 0)=false:=by
   have:¬(((j+1:Nat):Int)=0):=by omega
   simpa using this
  have ea:((j+1:Nat):Int)-1=(j:Int):=by omega
  have hx:fIx (.lst (t.ders.map St.pv)) (.int (j:Int))= .ok l.pv:=by
   rw[e_ixL,cX (v:=l.pv) (by rw[List.getElem?_map,hj];rfl)]
  have t1:(dTr (d2 fEq (dSee 1) (dC (.int 0)))) [.v (rmP t),.v (.int ((j+1:Nat):Int))]= .ok (((j+1:Nat):Int) == 0):=rfl
  have t2:(d2 fIx (ad (gF n 0) (dCons (ax bK (aa 0)) dNil)) (d2 jQ (dSee 1) (dC (.int 1)))) [.v (rmP t),.v (.int ((j+1:Nat):Int))]= .ok l.pv:=by
   have t3:(ad (gF n 0) (dCons (ax bK (aa 0)) dNil)) [.v (rmP t),.v (.int ((j+1:Nat):Int))]= .ok (.lst (t.ders.map St.pv)):=r
   rw[lw,t3]
   show fIx (.lst (t.ders.map St.pv)) (.int (((j+1:Nat):Int)-1))=_
   rw[ea,hx]
  rw[ba,jX,t1,h0]
  show fin ((Rs.nx [.v (rmP t),.v (.int ((j+1:Nat):Int))]).next _)=_
  rw[aB,gm,t2]
  rfl
theorem oj(t:St)(m:Nat){f:Rw}(h:(m=0/\f=(Dr t 0).1)\/ ∃j,m=j+1/\(Dr t 0).2[j]? =some f):fIx (rows (Dr t 0)) (.int (m:Int))= .ok (rpv f):=by
 unfold rows
 rw[e_ixL]
 rcases h with⟨rfl,rfl⟩|⟨j,rfl,hj⟩
 ·rw[cX (v:=rpv (Dr t 0).1) rfl]
 ·rw[cX (v:=rpv f) (by rw[List.getElem?_cons_succ,List.getElem?_map,hj];rfl)]
theorem pR(p:Lp)(n:Nat)(ho:p.ok)(hd:p.st.depth+12<=n)(hl:p.st.ders.length<=1000):gF (n+1) 23 [rmP p.st,(aQ p 0).pv]= .ok (.bl true):=by
 obtain⟨n,rfl⟩:∃m,n=m+1:=⟨n-1,by omega⟩
 have nst:=cE p 0
 have nok:=eF p 0 ho
 have hc:=dH (aQ p 0) (n+1) (by rw[nst];omega)
 have ec:(aQ p 0).cnt=.(H):=by unfold Ln.cnt;rw[nst]
 rw[ec]at hc
 have e:gF (n+1+1) 23 [rmP p.st,(aQ p 0).pv]=fin (o6 (gF (n+1)) [.v (rmP p.st),.v (aQ p 0).pv,.no,.no,.no]):=rfl
 rw[e]
 unfold o6
 have s1:aO 2 (ad (gF (n+1) 15) .(R)) [.v (rmP p.st),.v (aQ p 0).pv,.no,.no,.no]= .nx [.v (rmP p.st),.v (aQ p 0).pv,.v .(G),.no,.no]:=by
  have q:(ad (gF (n+1) 15) .(R)) [.v (rmP p.st),.v (aQ p 0).pv,.no,.no,.no]= .ok .(G):=hc
  rw[cy,q]
  rfl
 rw[ba,s1,aB,ba]
 have rl:=gw (Dr p.st 0) (by rw[bp];omega)
 rw[bp]at rl
 have s2:sIf (dw (aY (dTr (bT i_list (ax aC (aa 0))))) .(Ax)) (aq (dC (.bl false))) al [.v (rmP p.st),.v (aQ p 0).pv,.v .(G),.no,.no]= .nx [.v (rmP p.st),.v (aQ p 0).pv,.v .(G),.no,.no]:=by
  have q1:(aY (dTr (bT i_list (ax aC (aa 0))))) [.v (rmP p.st),.v (aQ p 0).pv,.v .(G),.no,.no]= .ok false:=rfl
  have q2:.(Ax) [.v (rmP p.st),.v (aQ p 0).pv,.v .(G),.no,.no]= .ok false:=by
   have t1:(ad dS (dCons (ax aC (aa 0)) dNil)) [.v (rmP p.st),.v (aQ p 0).pv,.v .(G),.no,.no]= .ok (.int (.(H)+1)):=rl
   rw[iH,lw,t1]
   show Rx.ok (!((.(H)+1) == (.(H)+1)))=_
   simp
  rw[jX,mN,q1]
  show sX (.(Ax) [.v (rmP p.st),.v (aQ p 0).pv,.v .(G),.no,.no]) _ _ _=_
  rw[q2]
  rfl
 rw[s2,aB,ba,mP]
 have hr:dRng1 (dCons (d2 bZ (dSee 2) (dC (.int 1))) dNil) [.v (rmP p.st),.v (aQ p 0).pv,.v .(G),.no,.no]= .ok ((List.range (p.st.ders.length+1)).map fun(i:Nat)=>PV.int ((0:Int)+(i:Int))):=by
  unfold dRng1
  have q0:(dCons (d2 bZ (dSee 2) (dC (.int 1))) dNil) [.v (rmP p.st),.v (aQ p 0).pv,.v .(G),.no,.no]= .ok [.int (.(H)+1)]:=rfl
  rw[q0,aM]
  dsimp only
  rw[if_pos ⟨by omega,by omega⟩,show(.(H)+1).toNat=p.st.ders.length+1 by omega]
  rfl
 rw[hr,dn]
 have turn:∀(m:Nat) (s4:Sl),m<p.st.ders.length+1->∃t4,cN (gF (n+1)) [.v (rmP p.st),.v (aQ p 0).pv,.v .(G),.v (.int (0+(m:Int))),s4]= .nx [.v (rmP p.st),.v (aQ p 0).pv,.v .(G),.v (.int (0+(m:Int))),t4]:=fun m s4 hm=>by
  rw[Int.zero_add]
  obtain⟨q,hq,eq0,hrow,hrest⟩:∃q:Ln,q.ok/\(q.st.depth<=p.st.depth+1)/\fIx (rows (Dr p.st 0)) (.int (m:Int))= .ok (rpv q.fst)/\callM q_rest_of (gF (n+1)) (rmP p.st) [.int (m:Int)]= .ok q.st.pv/\(if (0:Int)<(m:Int) then q=(aQ p 0).left (m:Int) else q=aQ p 0):=by
   cases m with
   |zero =>
    refine⟨aQ p 0,nok,by rw[nst];omega,oj _ 0 (.inl ⟨rfl,(dG p 0).symm⟩),?_,by rw[if_neg (by omega)]⟩
    rw[nst]
    exact kY p.st n (p.stok ho) (by omega) hl 0 (.inl ⟨rfl,rfl⟩)
   |succ j =>
    obtain⟨d1,d2'⟩:=dO p 0 j (by omega)
    have ej:((j+1:Nat):Int)=(j:Int)+1:=by omega
    have ld:=bP (aQ p 0) ((j:Int)+1)
    rw[nst]at ld
    refine⟨(aQ p 0).left ((j:Int)+1),dN _ _ nok,ld,oj _ (j+1) (.inr ⟨j,rfl,d1⟩),kY p.st n (p.stok ho) (by omega) hl (j+1) (.inr ⟨j,rfl,d2'⟩),by rw[if_pos (by omega),ej]⟩
  obtain⟨hrest,hsel⟩:=hrest
  have rg:=oh n q hq (by omega)
  have sm:=cF q (n+1) hq (by omega)
  have lf:=cU (aQ p 0) (n+1) (m:Int) (by rw[nst];omega)
  refine⟨.v q.pv,?_⟩
  unfold cN
  have a1:aO 4 (aa 1) [.v (rmP p.st),.v (aQ p 0).pv,.v .(G),.v (.int (m:Int)),s4]= .nx [.v (rmP p.st),.v (aQ p 0).pv,.v .(G),.v (.int (m:Int)),.v (aQ p 0).pv]:=rfl
  have a2:sIf (dTr (d2 sU (dSee 3) (dC (.int 0)))) (aO 4 (ad (gF (n+1) 19) (dCons (aa 1) .(P)))) al [.v (rmP p.st),.v (aQ p 0).pv,.v .(G),.v (.int (m:Int)),.v (aQ p 0).pv]= .nx [.v (rmP p.st),.v (aQ p 0).pv,.v .(G),.v (.int (m:Int)),.v q.pv]:=by
   have t1:(dTr (d2 sU (dSee 3) (dC (.int 0)))) [.v (rmP p.st),.v (aQ p 0).pv,.v .(G),.v (.int (m:Int)),.v (aQ p 0).pv]= .ok (decide ((0:Int)<(m:Int))):=rfl
   rw[jX,t1]
   by_cases h:(0:Int)<(m:Int)
   ·rw[if_pos h]at hsel
    rw[decide_eq_true h,hsel]
    show aO 4 (ad (gF (n+1) 19) (dCons (aa 1) .(P))) [.v (rmP p.st),.v (aQ p 0).pv,.v .(G),.v (.int (m:Int)),.v (aQ p 0).pv]=_
    have q3:(ad (gF (n+1) 19) (dCons (aa 1) .(P))) [.v (rmP p.st),.v (aQ p 0).pv,.v .(G),.v (.int (m:Int)),.v (aQ p 0).pv]= .ok ((aQ p 0).left (m:Int)).pv:=lf
    rw[cy,q3]
    rfl
   ·rw[if_neg h]at hsel
    rw[decide_eq_false h,hsel]
    rfl
  have q4:(aY (dTr (ad (gF (n+1) 22) (dCons (d2 fIx (ax aC (aa 0)) (dSee 3)) (dCons (aa 4) dNil))))) [.v (rmP p.st),.v (aQ p 0).pv,.v .(G),.v (.int (m:Int)),.v q.pv]= .ok false:=by
   have t2:(d2 fIx (ax aC (aa 0)) (dSee 3)) [.v (rmP p.st),.v (aQ p 0).pv,.v .(G),.v (.int (m:Int)),.v q.pv]= .ok (rpv q.fst):=hrow
   have t3:(aa 4) [.v (rmP p.st),.v (aQ p 0).pv,.v .(G),.v (.int (m:Int)),.v q.pv]= .ok q.pv:=rfl
   rw[iI,iH,fq,bB,t2,bB,t3]
   show((gF (n+1) 22 [rpv q.fst,q.pv]).bind _).bind _=_
   rw[rg]
   rfl
  have q5:(aY (dTr (ad (gF (n+1) 21) (dCons (bn q_rest_of (gF (n+1)) (aa 0) .(P)) (dCons (aa 4) dNil))))) [.v (rmP p.st),.v (aQ p 0).pv,.v .(G),.v (.int (m:Int)),.v q.pv]= .ok false:=by
   have t2:(bn q_rest_of (gF (n+1)) (aa 0) .(P)) [.v (rmP p.st),.v (aQ p 0).pv,.v .(G),.v (.int (m:Int)),.v q.pv]= .ok q.st.pv:=hrest
   have t3:(aa 4) [.v (rmP p.st),.v (aQ p 0).pv,.v .(G),.v (.int (m:Int)),.v q.pv]= .ok q.pv:=rfl
   rw[iI,iH,fq,bB,t2,bB,t3]
   show((gF (n+1) 21 [q.st.pv,q.pv]).bind _).bind _=_
   rw[sm]
   rfl
  rw[ba,a1,aB,ba,a2,aB,jX,mN,q4]
  show sX ((aY (dTr (ad (gF (n+1) 21) (dCons (bn q_rest_of (gF (n+1)) (aa 0) .(P)) (dCons (aa 4) dNil))))) [.v (rmP p.st),.v (aQ p 0).pv,.v .(G),.v (.int (m:Int)),.v q.pv]) _ _ _=_
  rw[q5]
  rfl
 have loop:∀(l:List Nat) (s3 s4:Sl),(∀m∈l,m<p.st.ders.length+1)->∃t3 t4,bW (gSet 3) (cN (gF (n+1))) (l.map fun(i:Nat)=>PV.int ((0:Int)+(i:Int))) [.v (rmP p.st),.v (aQ p 0).pv,.v .(G),s3,s4]= .nx [.v (rmP p.st),.v (aQ p 0).pv,.v .(G),t3,t4]:=by
  intro l
  induction l with
  |nil=>intro s3 s4 _;exact⟨s3,s4,rfl⟩
  |cons m l ih =>
   intro s3 s4 h
   obtain⟨t4,t⟩:=turn m s4 (h m List.mem_cons_self)
   obtain⟨u3,u4,e⟩:=ih (.v (.int (0+(m:Int)))) t4 fun u hu=>h u (List.mem_cons_of_mem _ hu)
   refine⟨u3,u4,?_⟩
   rw[List.map_cons]
   show((gSet 3 (.int (0+(m:Int))) [.v (rmP p.st),.v (aQ p 0).pv,.v .(G),s3,s4]).st fun ps1=>match cN (gF (n+1)) ps1 with | .nx ps2=>bW (gSet 3) (cN (gF (n+1))) (l.map fun(i:Nat)=>PV.int ((0:Int)+(i:Int))) ps2 | .cnt ps2=>bW (gSet 3) (cN (gF (n+1))) (l.map fun(i:Nat)=>PV.int ((0:Int)+(i:Int))) ps2 | .brk ps2=> .nx ps2|r=>r)=_
   rw[jY,dn]
   show(match cN (gF (n+1)) [.v (rmP p.st),.v (aQ p 0).pv,.v .(G),.v (.int (0+(m:Int))),s4]with | .nx ps2=>bW (gSet 3) (cN (gF (n+1))) (l.map fun(i:Nat)=>PV.int ((0:Int)+(i:Int))) ps2 | .cnt ps2=>bW (gSet 3) (cN (gF (n+1))) (l.map fun(i:Nat)=>PV.int ((0:Int)+(i:Int))) ps2 | .brk ps2=> .nx ps2|r=>r)=_
   rw[t]
   exact e
 obtain⟨t3,t4,el⟩:=loop (List.range (p.st.ders.length+1)) .no .no (fun m hm=>List.mem_range.mp hm)
 rw[el,aB]
 rfl
theorem eG:∀t:Tr,nol t.pv=true
 |.yes=>by simp[Tr.pv,nol,dF]
 |.named c=>by simp[Tr.pv,nol,dF]
 |.neg t=>by simp[Tr.pv,nol,dF,eG t]
 |.both l r=>by simp[Tr.pv,nol,dF,eG l,eG r]
 |.either l r=>by simp[Tr.pv,nol,dF,eG l,eG r]
theorem fC:∀t:St,nol t.pv=true
 |.skip=>by simp[St.pv,nol,dF]
 |.stop=>by simp[St.pv,nol,dF]
 |.deed c=>by simp[St.pv,nol,dF]
 |.row h t=>by simp[St.pv,nol,dF,fC h,fC t]
 |.choice g y n=>by simp[St.pv,nol,dF,eG g,fC y,fC n]
 |.loop g b=>by simp[St.pv,nol,dF,eG g,fC b]
theorem fD{α :Type}(g: α ->PV)(h:∀x,(g x).data=true):∀l:List α,ef (l.map g)=true
 |[]=>rfl
 |x::l=>by rw[List.map_cons,ef,h x,fD g h l];rfl
theorem gy{α :Type}(g: α ->PV){d:Nat}(h:∀x,(g x).depth<=d):∀l:List α,aA (l.map g)<=d
 |[]=>by rw[List.map_nil,aA];omega
 |x::l=>by
  have h1:=h x
  have h2:=gy g h l
  rw[List.map_cons,aA]
  omega
theorem jt(f:Rw):(rpv f).data=true:=by
 unfold rpv
 rw[PV.data]
 exact fD _ (fun _=>rfl) _
theorem kZ(f:Rw):(rpv f).depth<=2:=by
 unfold rpv
 rw[PV.depth]
 have:=gy (fun(i:Nat)=>eX (f (i:Int))) (d:=1) (fun i=>by
  unfold eX
  rw[PV.depth,aA,aA,aA]
  show max 0 (max 0 0)+1<=1
  decide) .(AE)
 omega
theorem pS(d:Rw×List Rw):fEq (rows d) (rows d)= .ok (.bl true):=by
 unfold rows
 refine kX ?_ ?_
 ·rw[PV.data,ef,jt,fD _ jt];rfl
 ·have h1:=kZ d.1
  have h2:=gy rpv kZ d.2
  rw[PV.depth,aA]
  omega
theorem gz(n:Nat)(hn:100<=n)(L:PV)(z:Int)(p:Lp)(ho:p.ok)(hd:p.st.depth<=26)(hl:p.st.ders.length<=200)(s6 s7:Sl)(m6:isMany s6=false)(m7:isMany s7=false) :
  fin ((ao (aO 2 (ad (gF n 16) (dCons (aa 2) .(Ak))))
 (ao (lA 4 (ad (gF n 37) .(P)))
 (ao (aO 5 (ad (gF n 37) .(P)))
 (ao (sIf (ka 4 (dw (aY (dTr (ad (gF n 21) (dCons (ax bK (aa 4)) .(I))))) (aY (dTr (ad (gF n 23) (dCons (aa 4) .(I)))))))
 (aq (dC (.bl false)))
 al)
 (eU aC 4
 (aq (cH (ad (gF n 23) (dCons (aa 5) .(I))) (d2 fEq (ax aC (ad (gF n 37) .(P))) (ax aC (aa 5)))))))))) [.v L,.v (.int z),.v p.pv,.v p.st.pv,.no,.no,s6,s7])= .ok (.bl true):=by
 obtain⟨n,rfl⟩:∃m,n=m+1:=⟨n-1,by omega⟩
 have nst:=cE p 0
 have nok:=eF p 0 ho
 have nm:=fB p (n+1) 0 (by omega)
 have rm:=oi p.st n (p.stok ho) (by omega) (by omega)
 have sm:=cF (aQ p 0) (n+1) nok (by rw[nst];omega)
 rw[nst]at sm
 have td:=pR p n ho (by omega) (by omega)
 have s1:aO 2 (ad (gF (n+1) 16) (dCons (aa 2) .(Ak))) [.v L,.v (.int z),.v p.pv,.v p.st.pv,.no,.no,s6,s7]= .nx [.v L,.v (.int z),.v (aQ p 0).pv,.v p.st.pv,.no,.no,s6,s7]:=by
  have q:(ad (gF (n+1) 16) (dCons (aa 2) .(Ak))) [.v L,.v (.int z),.v p.pv,.v p.st.pv,.no,.no,s6,s7]= .ok (aQ p 0).pv:=nm
  rw[cy,q]
  rfl
 have kp:eT (.v p.st.pv)= .v p.st.pv:=if_pos (fC p.st)
 have s2:lA 4 (ad (gF (n+1) 37) .(P)) [.v L,.v (.int z),.v (aQ p 0).pv,.v p.st.pv,.no,.no,s6,s7]= .nx [.v L,.v (.int z),.v (aQ p 0).pv,.v p.st.pv,.rgn (rmP p.st),.no,s6,s7]:=by
  have few:([Sl.v L,.v (.int z),.v (aQ p 0).pv,.v p.st.pv,.no,.no,s6,s7].set 4 .no).any isMany=false:=by
   show(false || (false || (false || (false || (false || (false || (isMany s6 || (isMany s7 || false))))))))=false
   rw[m6,m7]
   rfl
  have q:(ad (gF (n+1) 37) .(P)) ([Sl.v L,.v (.int z),.v (aQ p 0).pv,.v p.st.pv,.no,.no,s6,s7].map eT)= .ok (rmP p.st):=by
   simp only[List.map_cons,kp]
   exact rm
  unfold lA
  rw[few,if_neg Bool.false_ne_true,q]
  rfl
 have s3:aO 5 (ad (gF (n+1) 37) .(P)) [.v L,.v (.int z),.v (aQ p 0).pv,.v p.st.pv,.rgn (rmP p.st),.no,s6,s7]= .nx .(Aw):=by
  have q:(ad (gF (n+1) 37) .(P)) [.v L,.v (.int z),.v (aQ p 0).pv,.v p.st.pv,.rgn (rmP p.st),.no,s6,s7]= .ok (rmP p.st):=rm
  rw[cy,q]
  rfl
 have few2:([Sl.v L,.v (.int z),.v (aQ p 0).pv,.v p.st.pv,.rgn (rmP p.st),.v (rmP p.st),s6,s7].set 4 .no).any isMany=false:=by
  show(false || (false || (false || (false || (false || (false || (isMany s6 || (isMany s7 || false))))))))=false
  rw[m6,m7]
  rfl
 have q1:(aY (dTr (ad (gF (n+1) 21) (dCons (ax bK (aa 4)) .(I))))) .(Ai)= .ok false:=by
  have t:(ad (gF (n+1) 21) (dCons (ax bK (aa 4)) .(I))) .(Ai)= .ok (.bl true):=sm
  rw[iI,iH,t]
  rfl
 have q2:(aY (dTr (ad (gF (n+1) 23) (dCons (aa 4) .(I))))) .(Ai)= .ok false:=by
  have t:(ad (gF (n+1) 23) (dCons (aa 4) .(I))) .(Ai)= .ok (.bl true):=td
  rw[iI,iH,t]
  rfl
 have s4:sIf (ka 4 (dw (aY (dTr (ad (gF (n+1) 21) (dCons (ax bK (aa 4)) .(I))))) (aY (dTr (ad (gF (n+1) 23) (dCons (aa 4) .(I))))))) (aq (dC (.bl false))) al .(Aw)= .nx .(Aw):=by
  have t:(ka 4 (dw (aY (dTr (ad (gF (n+1) 21) (dCons (ax bK (aa 4)) .(I))))) (aY (dTr (ad (gF (n+1) 23) (dCons (aa 4) .(I))))))) .(Aw)= .ok false:=by
   unfold ka
   show(if ([Sl.v L,.v (.int z),.v (aQ p 0).pv,.v p.st.pv,.rgn (rmP p.st),.v (rmP p.st),s6,s7].set 4 .no).any isMany=true then Rx.bad else(dw (aY (dTr (ad (gF (n+1) 21) (dCons (ax bK (aa 4)) .(I))))) (aY (dTr (ad (gF (n+1) 23) (dCons (aa 4) .(I)))))) .(Ai))=_
   rw[few2,if_neg Bool.false_ne_true,mN,q1]
   exact q2
  rw[jX,t]
  rfl
 rw[ba,s1,aB,ba,s2,aB,ba,s3,aB,ba,s4,aB]
 unfold eU
 show fin (if ([Sl.v L,.v (.int z),.v (aQ p 0).pv,.v p.st.pv,.rgn (rmP p.st),.v (rmP p.st),s6,s7].set 4 .no).any isMany=true then Rs.bad else if aC.lookup 13=some 1 then(aq (cH (ad (gF (n+1) 23) (dCons (aa 5) .(I))) (d2 fEq (ax aC (ad (gF (n+1) 37) .(P))) (ax aC (aa 5))))) .(Ae) else .bad)=_
 rw[few2,if_neg Bool.false_ne_true,if_pos (by decide),gm,rM]
 have t1:(ad (gF (n+1) 23) (dCons (aa 5) .(I))) .(Ae)= .ok (.bl true):=td
 have t2:(d2 fEq (ax aC (ad (gF (n+1) 37) .(P))) (ax aC (aa 5))) .(Ae)= .ok (.bl true):=by
  have t3:(ad (gF (n+1) 37) .(P)) .(Ae)= .ok (rmP p.st):=rm
  have t4:(ax aC (ad (gF (n+1) 37) .(P))) .(Ae)= .ok (rows (Dr p.st 0)):=by
   unfold ax
   rw[t3]
   rfl
  rw[lw,t4]
  exact pS _
 rw[t1]
 show fin (((d2 fEq (ax aC (ad (gF (n+1) 37) .(P))) (ax aC (aa 5))) .(Ae)).st _)=_
 rw[t2]
 rfl
theorem pT(n:Nat)(ns:List Int)(k:Nat):gF (n+1) 8 [.lst (ns.map PV.int),.int (k:Int)]= .ok (.int (ns.getD k 0)):=by
 rw[g_z8,au rfl]
 show fin (lH (gF n) [.v (.lst (ns.map PV.int)),.v (.int (k:Int))])= .ok (.int (ns.getD k 0))
 unfold lH
 by_cases h:k<ns.length
 ·have hi:gA (ns.map PV.int) (k:Int)=some (PV.int ns[k]):=by
   rw[cX (by rw[List.getElem?_map,List.getElem?_eq_getElem h];rfl)]
  have hg:ns.getD k 0=ns[k]:=by simp[List.getD,h]
  rw[hg]
  simp[h,hi]
 ·have hg:ns.getD k 0=0:=by simp[List.getD,h]
  rw[hg]
  simp[h]
theorem ii{t:DT}{a b:DS}{ps:aH}{c:Bool}(h:t ps= .ok c):sIf t a b ps=if c=true then a ps else b ps:=by
 rw[jX,h];cases c <;> rfl
theorem ol(n:Nat)(hn:60<=n)(L:PV)(z:Int)(k:Nat)(hk:k<12)(p:Lp)(ho:p.ok)(hd:p.st.depth<=30):∃p':Lp,b_zo_1 (gF n) .(L)= .nx [.v L,.v (.int z),.v p'.pv,.no,.no,.no,.v (.int .(An)),.no]/\p'.ok/\p'.st.depth<=p.st.depth+1/\p'.st.ders.length<=p.st.ders.length+1:=by
 obtain⟨n,rfl⟩:∃m,n=m+1:=⟨n-1,by omega⟩
 have hc:=dj p (n+1) (by omega)
 obtain⟨y,hy,hy0⟩:=fX n z .(An) (by omega) (by omega)
 obtain⟨c,ec,dc⟩:=iP (j:=y % 5) (by omega) (by omega)
 unfold b_zo_1
 by_cases h:.(H)<11+z / 160 % 2
 ·have t:(dTr (d2 oo (ad (gF (n+1) 15) .(I)) (d2 bZ (dC (.int 11)) (d2 fMod (d2 fDiv (dSee 1) (dC (.int 160))) (dC (.int 2)))))) .(L)= .ok true:=by
   have q:(ad (gF (n+1) 15) .(I)) .(L)= .ok .(G):=hc
   rw[iH,lw,q]
   show Rx.ok (decide (.(H)<11+z / 160 % 2))=_
   rw[decide_eq_true h]
  refine⟨.row p (.deed c),?_,⟨ho,dc⟩,?_,?_⟩
  ·rw[ii t,if_pos rfl]
   have q:(ad (gF (n+1) 9) (dCons (aa 1) (dCons (aa 6) dNil))) .(L)= .ok (.int y):=hy
   have q2:(d2 fIx (dC (.str "PQRST")) (d2 fMod (ad (gF (n+1) 9) (dCons (aa 1) (dCons (aa 6) dNil))) (dC (.int 5)))) .(L)= .ok (.str c):=by
    rw[lw,lw,q]
    exact ec
   have q3:(aS (dCons .(Av) (dCons (aa 2) (dCons (aS (dCons (dC (.str "deed")) (dCons (d2 fIx (dC (.str "PQRST")) (d2 fMod (ad (gF (n+1) 9) (dCons (aa 1) (dCons (aa 6) dNil))) (dC (.int 5)))) dNil))) dNil)))) .(L)= .ok (.tup [.str "row",p.pv,.tup [.str "deed",.str c]]):=by
    rw[qh,bB,bB,bB,qh,bB,bB,q2]
    rfl
   rw[cy,q3]
   rfl
  ·show max p.st.depth 0+1<=_
   omega
  ·show(p.st.ders.map _++[St.skip]).length<=_
   simp
 ·have t:(dTr (d2 oo (ad (gF (n+1) 15) .(I)) (d2 bZ (dC (.int 11)) (d2 fMod (d2 fDiv (dSee 1) (dC (.int 160))) (dC (.int 2)))))) .(L)= .ok false:=by
   have q:(ad (gF (n+1) 15) .(I)) .(L)= .ok .(G):=hc
   rw[iH,lw,q]
   show Rx.ok (decide (.(H)<11+z / 160 % 2))=_
   rw[decide_eq_false h]
  refine⟨p,?_,ho,by omega,by omega⟩
  rw[ii t]
  rfl
theorem ju(n:Nat)(hn:60<=n)(L:PV)(z:Int):∀(l:List Nat) (p:Lp) (s6:Sl),(∀k∈l,k<12)->p.ok->p.st.depth+l.length<=30->isMany s6=false->∃(p':Lp) (t6:Sl),bW (gSet 6) (b_zo_1 (gF n)) (l.map fun(k:Nat)=>PV.int .(An)) [.v L,.v (.int z),.v p.pv,.no,.no,.no,s6,.no]= .nx [.v L,.v (.int z),.v p'.pv,.no,.no,.no,t6,.no]/\isMany t6=false/\p'.ok/\p'.st.depth<=p.st.depth+l.length/\p'.st.ders.length<=p.st.ders.length+l.length
 |[],p,s6,_,ho,_,h6=>⟨p,s6,rfl,h6,ho,by simp,by simp⟩
 |k::l,p,s6,hk,ho,hd,h6=>by
  simp only[List.length_cons]at hd ⊢
  obtain⟨p1,e1,o1,d1,l1⟩:=ol n hn L z k (hk k List.mem_cons_self) p ho (by omega)
  obtain⟨p2,t6,e2,m2,o2,d2',l2⟩:=ju n hn L z l p1 (.v (.int .(An))) (fun u hu=>hk u (List.mem_cons_of_mem _ hu)) o1 (by omega) rfl
  refine⟨p2,t6,?_,m2,o2,by omega,by omega⟩
  rw[List.map_cons]
  show((gSet 6 (.int .(An)) [.v L,.v (.int z),.v p.pv,.no,.no,.no,s6,.no]).st fun ps1=>match b_zo_1 (gF n) ps1 with | .nx ps2=>bW (gSet 6) (b_zo_1 (gF n)) (l.map fun(k:Nat)=>PV.int .(An)) ps2 | .cnt ps2=>bW (gSet 6) (b_zo_1 (gF n)) (l.map fun(k:Nat)=>PV.int .(An)) ps2 | .brk ps2=> .nx ps2|r=>r)=_
  rw[jY,dn]
  show(match b_zo_1 (gF n) .(L) with | .nx ps2=>bW (gSet 6) (b_zo_1 (gF n)) (l.map fun(k:Nat)=>PV.int .(An)) ps2 | .cnt ps2=>bW (gSet 6) (b_zo_1 (gF n)) (l.map fun(k:Nat)=>PV.int .(An)) ps2 | .brk ps2=> .nx ps2|r=>r)=_
  rw[e1]
  exact e2
theorem sP(n:Nat)(hn:104<=n)(ns:List Int):gF (n+1) 24 [.lst (ns.map PV.int)]= .ok (.bl true):=by
 have e:gF (n+1) 24 [.lst (ns.map PV.int)]=fin (o7 (gF n) [.v (.lst (ns.map PV.int)),.no,.no,.no,.no,.no,.no,.no]):=rfl
 rw[e]
 obtain⟨n,rfl⟩:∃k,n=k+3:=⟨n-3,by omega⟩
 unfold o7
 have c0:=pT (n+2) ns 0
 generalize ns.getD 0 0=z at c0
 generalize hL:PV.lst (ns.map PV.int)=L at c0
 have s1:aO 1 (ad (gF (n+3) 8) (dCons (aa 0) .(Ak))) [.v L,.no,.no,.no,.no,.no,.no,.no]= .nx [.v L,.v (.int z),.no,.no,.no,.no,.no,.no]:=by
  have q:(ad (gF (n+3) 8) (dCons (aa 0) .(Ak))) [.v L,.no,.no,.no,.no,.no,.no,.no]= .ok (.int z):=c0
  rw[cy,q]
  rfl
 obtain⟨ms,em,hms⟩:=pI ns (some 1) (some 8)
 have hm7:ms.length<=7:=by
  rw[hms,show(some (1:Int))=some ((1:Nat):Int) from rfl,show(some (8:Int))=some ((8:Nat):Int) from rfl,HT.sIx_nat,HT.sIx_nat]
  omega
 obtain⟨p0,hp0,ho0,hd0,hl0⟩:=og n z ms
 have s2:aO 2 (ad (gF (n+3) 14) (dCons (aa 1) (dCons (aK (cr (dSee 0) .(Ar) (f7 (dC (.int 8))))) dNil))) [.v L,.v (.int z),.no,.no,.no,.no,.no,.no]= .nx [.v L,.v (.int z),.v p0.pv,.no,.no,.no,.no,.no]:=by
  have q0:(aK (cr (dSee 0) .(Ar) (f7 (dC (.int 8))))) [.v L,.v (.int z),.no,.no,.no,.no,.no,.no]= .ok (.lst (ms.map PV.int)):=by
   rw[<-em,<-hL]
   rfl
  have q1:(aa 1) [.v L,.v (.int z),.no,.no,.no,.no,.no,.no]= .ok (.int z):=rfl
  rw[cy,fq,bB,q1,bB,q0]
  show(gF (n+3) 14 [.int z,.lst (ms.map PV.int)]).st _=_
  rw[hp0]
  rfl
 rw[ba,s1,aB,ba,s2,aB,ba]
 obtain⟨p1,t6,e3,m6,ho1,hd1,hl1⟩:∃(p1:Lp) (t6:Sl),(sIf (dTr (d2 fEq (d2 fMod (d2 fDiv (dSee 1) (dC (.int 20))) (dC (.int 8))) (dC (.int 1)))) (sFor (dRng1 (dCons (dC (.int 12)) dNil)) (gSet 6) (b_zo_1 (gF (n+3)))) al) [.v L,.v (.int z),.v p0.pv,.no,.no,.no,.no,.no]= .nx [.v L,.v (.int z),.v p1.pv,.no,.no,.no,t6,.no]/\isMany t6=false/\p1.ok/\p1.st.depth<=22/\p1.st.ders.length<=20:=by
  have t:(dTr (d2 fEq (d2 fMod (d2 fDiv (dSee 1) (dC (.int 20))) (dC (.int 8))) (dC (.int 1)))) [.v L,.v (.int z),.v p0.pv,.no,.no,.no,.no,.no]= .ok (z / 20 % 8 == 1):=rfl
  rw[ii t]
  by_cases h:z / 20 % 8=1
  ·have hb:(z / 20 % 8 == 1)=true:=by simpa using h
   obtain⟨p1,t6,e1,m6,o1,d1,l1⟩:=ju (n+3) (by omega) L z (List.range 12) p0 .no (fun k hk=>List.mem_range.mp hk) ho0 (by rw[List.length_range];omega) rfl
   rw[List.length_range]at d1 l1
   refine⟨p1,t6,?_,m6,o1,by omega,by omega⟩
   rw[hb,if_pos rfl,mP]
   have:dRng1 (dCons (dC (.int 12)) dNil) [.v L,.v (.int z),.v p0.pv,.no,.no,.no,.no,.no]= .ok ((List.range 12).map fun(k:Nat)=>PV.int .(An)):=rfl
   rw[this,dn]
   exact e1
  ·have hb:(z / 20 % 8 == 1)=false:=by simpa using h
   refine⟨p0,.no,?_,rfl,ho0,by omega,by omega⟩
   rw[hb,if_neg Bool.false_ne_true]
   rfl
 rw[e3,aB,ba]
 have bt:=cn p1 (n+3) ho1 (by omega)
 have s4:aO 3 (ad (gF (n+3) 17) .(I)) [.v L,.v (.int z),.v p1.pv,.no,.no,.no,t6,.no]= .nx .(S):=by
  have q:(ad (gF (n+3) 17) .(I)) [.v L,.v (.int z),.v p1.pv,.no,.no,.no,t6,.no]= .ok p1.st.pv:=bt
  rw[cy,q]
  rfl
 rw[s4,aB,ba]
 have hc:=dj p1 (n+3) (by omega)
 have tst:∀j:Int,(fK (dTr (d2 fEq .(Am) (dC (.int j)))) (dTr (d2 oo (ad (gF (n+3) 15) .(I)) (dC (.int 7))))) .(S)= .ok ((z / 320 % 3 == j) && decide ((p1.st.ders.length:Int)<7)):=fun j=>by
  have q1:(dTr (d2 fEq .(Am) (dC (.int j)))) .(S)= .ok (z / 320 % 3 == j):=rfl
  have q2:(dTr (d2 oo (ad (gF (n+3) 15) .(I)) (dC (.int 7)))) .(S)= .ok (decide ((p1.st.ders.length:Int)<7)):=by
   have q:(ad (gF (n+3) 15) .(I)) .(S)= .ok (.int (p1.st.ders.length:Int)):=hc
   rw[iH,lw,q]
   rfl
  rw[mM,q1]
  cases (z / 320 % 3 == j)
  ·rfl
  ·exact q2
 rw[ii (tst 1)]
 by_cases h1:((z / 320 % 3 == 1) && decide ((p1.st.ders.length:Int)<7))=true
 ·rw[if_pos h1]
  have u:(ao (aO 3 (cu 4 (dCons (aa 3) .(P)))) (aO 2 (aS (dCons .(Av) (dCons (aa 2) .(I)))))) .(S)= .nx .(Az):=rfl
  rw[u,aB,ba]
  have hz:(z / 320 % 3 == 2)=false:=by
   rw[Bool.and_eq_true]at h1
   have:z / 320 % 3=1:=by simpa using h1.1
   rw[this]
   decide
  have t2:(fK (dTr (d2 fEq .(Am) (dC (.int 2)))) (dTr (d2 oo (ad (gF (n+3) 15) .(I)) (dC (.int 7))))) .(Az)= .ok false:=by
   have q1:(dTr (d2 fEq .(Am) (dC (.int 2)))) .(Az)= .ok (z / 320 % 3 == 2):=rfl
   rw[mM,q1,hz]
   rfl
  rw[ii t2,if_neg Bool.false_ne_true]
  show fin ((Rs.nx .(Az)).next _)=_
  rw[aB]
  refine gz (n+3) (by omega) L z (.row p1 p1) ⟨ho1,ho1⟩ ?_ ?_ t6 .no m6 rfl
  ·show max p1.st.depth p1.st.depth+1<=26
   omega
  ·show(p1.st.ders.map _++p1.st.ders).length<=200
   rw[List.length_append,List.length_map]
   omega
 ·rw[if_neg h1]
  show fin ((Rs.nx .(S)).next _)=_
  rw[aB,ba,ii (tst 2)]
  by_cases h2:((z / 320 % 3 == 2) && decide ((p1.st.ders.length:Int)<7))=true
  ·rw[if_pos h2]
   have lt:=jq (n+2) (z / 960)
   have bd:ot (z / 960 % 6) (z / 960 / 6 % 4) (z / 960 / 24 % 4):=⟨⟨by omega,by omega⟩,⟨by omega,by omega⟩,⟨by omega,by omega⟩⟩
   have sn:=iO (n+2) bd
   have sgd:=jp bd
   generalize z / 960 % 6=k1 at lt bd sn sgd
   generalize z / 960 / 6 % 4=k2 at lt bd sn sgd
   generalize z / 960 / 24 % 4=k3 at lt bd sn sgd
   have u1:aO 7 (ad (gF (n+3) 12) (dCons (d2 fDiv (dSee 1) (dC (.int 960))) dNil)) .(S)= .nx [.v L,.v (.int z),.v p1.pv,.v p1.st.pv,.no,.no,t6,.v (.tup [.int k1,.int k2,.int k3])]:=by
    have q:(ad (gF (n+3) 12) (dCons (d2 fDiv (dSee 1) (dC (.int 960))) dNil)) .(S)= .ok (.tup [.int k1,.int k2,.int k3]):=lt
    rw[cy,q]
    rfl
   have u2:aO 3 (cu 5 (dCons (ad (gF (n+3) 10) (dCons (aa 7) dNil)) (dCons (aa 3) .(P)))) [.v L,.v (.int z),.v p1.pv,.v p1.st.pv,.no,.no,t6,.v (.tup [.int k1,.int k2,.int k3])]= .nx [.v L,.v (.int z),.v p1.pv,.v (Lp.choice k1 k2 k3 p1 p1).st.pv,.no,.no,t6,.v (.tup [.int k1,.int k2,.int k3])]:=by
    have q:(ad (gF (n+3) 10) (dCons (aa 7) dNil)) [.v L,.v (.int z),.v p1.pv,.v p1.st.pv,.no,.no,t6,.v (.tup [.int k1,.int k2,.int k3])]= .ok (sg k1 k2 k3).pv:=sn
    unfold cu
    rw[cy,bB,q]
    rfl
   have u3:aO 2 (aS (dCons (dC .(AF)) (dCons (aa 7) (dCons (aa 2) .(I))))) [.v L,.v (.int z),.v p1.pv,.v (Lp.choice k1 k2 k3 p1 p1).st.pv,.no,.no,t6,.v (.tup [.int k1,.int k2,.int k3])]= .nx [.v L,.v (.int z),.v (Lp.choice k1 k2 k3 p1 p1).pv,.v (Lp.choice k1 k2 k3 p1 p1).st.pv,.no,.no,t6,.v (.tup [.int k1,.int k2,.int k3])]:=rfl
   rw[ba,u1,aB,ba,u2,aB,u3,aB]
   refine gz (n+3) (by omega) L z (.choice k1 k2 k3 p1 p1) ⟨bd,ho1,ho1⟩ ?_ ?_ t6 _ m6 rfl
   ·show max (sg k1 k2 k3).depth (max p1.st.depth p1.st.depth)+1<=26
    omega
   ·show(p1.st.ders++p1.st.ders).length<=200
    rw[List.length_append]
    omega
  ·rw[if_neg h2]
   show fin ((Rs.nx .(S)).next _)=_
   rw[aB]
   exact gz (n+3) (by omega) L z p1 ho1 (by omega) (by omega) t6 .no m6 rfl
theorem main:∀ns:List Int,ns.length<=63->gF 110 24 [.lst (ns.map PV.int)]= .ok (.bl true):=fun ns _=>sP 109 (by decide) ns
def wY(C0 C1 C2 C3 C4 C5 C6 C7 C8 C9 C10 C11 C12 C13:Addr):Nat->Addr
 |0=>C0
 |1=>C1
 |2=>C2
 |3=>C3
 |4=>C4
 |5=>C5
 |6=>C6
 |7=>C7
 |8=>C8
 |9=>C9
 |10=>C10
 |11=>C11
 |12=>C12
 |13=>C13
 |_=>0
abbrev vY:Stmt:=aR (top 8) 0
abbrev vZ:Stmt:=aR (top 9) 0
abbrev w5:Stmt:=aR (top 10) 0
abbrev w6:Stmt:=aR (top 11) 0
abbrev w8:Stmt:=aR (top 17) 0
abbrev w9:Stmt:=aR (top 18) 0
abbrev wa:Stmt:=aR (top 19) 0
abbrev wb:Stmt:=aR (top 20) 0
theorem zO{l:PySem.W.OpenLaw}{w:World}{K:Fg}{mg:Str->Option Value}{fa:Addr}{h:Heap}{ts:List Addr}{nLETTERS:Nat}{slLETTERS:Array (Option Value)}{C0 C1 C2 C3 C4 C5 C6 C7 C8 C9 C10 C11 C12 C13 i3 i4 i5 i6 i9 i10 i11 i12 i13 d0 d1 d2 d3 d4 d5 d6 d7 d8 d9 d10 d11 d12 d13 d14 d15 d16 d17 d18 d19 d20 d21 d22 d23 d24 d25 d26 d27 d28 d29 d30 d31 d32 d33 d34 d35 d36 tLETTERS:Addr}{kDONE kHUNG kLETTERS0 kLETTERS1 kLETTERS2 kLETTERS3 kSETTINGS kSTOPPED:Tok}(X:K.In h)(G:h.Ns mainGlobals mg)(hfa:mg "law"=some (.ref fa))
  (a0:.(ns C0 "Step"))
  (a1:.(ns C1 "Skip"))
  (a2:.(ns C2 "Stop"))
  (a3:.(ns C3 "Deed"))
  (a4:.(ns C4 "Row"))
  (a5:.(ns C5 "Choice"))
  (a6:.(ns C6 "Loop"))
  (a7:.(ns C7 "Test"))
  (a8:.(ns C8 "Yes"))
  (a9:.(ns C9 "Named"))
  (a10:.(ns C10 "Not"))
  (a11:.(ns C11 "Both"))
  (a12:.(ns C12 "Either"))
  (a13:.(ns C13 "Rooms"))
  (c0:bx K C0)
  (c1:bx K C1)
  (c2:bx K C2)
  (c3:bx K C3)
  (c4:bx K C4)
  (c5:bx K C5)
  (c6:bx K C6)
  (c7:bx K C7)
  (c8:bx K C8)
  (c9:bx K C9)
  (c10:bx K C10)
  (c11:bx K C11)
  (c12:bx K C12)
  (c13:bx K C13)
  (o1:PySem.W.findIn K (.ref C1) "__init__"=some (some (.builtin "object.__init__")))
  (o2:PySem.W.findIn K (.ref C2) "__init__"=some (some (.builtin "object.__init__")))
  (e3:.(fi C3 "__init__" i3))
  (f3:.(fx i3))
  (I3:cq K i3 "__init__" "Deed.__init__" vY)
  (n3_0:.(fo C3 "name"))
  (e4:.(fi C4 "__init__" i4))
  (f4:.(fx i4))
  (I4:cq K i4 "__init__" "Row.__init__" vZ)
  (n4_0:.(fo C4 "head"))
  (n4_1:.(fo C4 "tail"))
  (e5:.(fi C5 "__init__" i5))
  (f5:.(fx i5))
  (I5:cq K i5 "__init__" "Choice.__init__" w5)
  (n5_0:.(fo C5 "test"))
  (n5_1:.(fo C5 "yes"))
  (n5_2:.(fo C5 "no"))
  (e6:.(fi C6 "__init__" i6))
  (f6:.(fx i6))
  (I6:cq K i6 "__init__" "Loop.__init__" w6)
  (n6_0:.(fo C6 "test"))
  (n6_1:.(fo C6 "body"))
  (o8:PySem.W.findIn K (.ref C8) "__init__"=some (some (.builtin "object.__init__")))
  (e9:.(fi C9 "__init__" i9))
  (f9:.(fx i9))
  (I9:cq K i9 "__init__" "Named.__init__" w8)
  (n9_0:.(fo C9 "name"))
  (e10:.(fi C10 "__init__" i10))
  (f10:.(fx i10))
  (I10:cq K i10 "__init__" "Not.__init__" w9)
  (n10_0:.(fo C10 "inner"))
  (e11:.(fi C11 "__init__" i11))
  (f11:.(fx i11))
  (I11:cq K i11 "__init__" "Both.__init__" wa)
  (n11_0:.(fo C11 "left"))
  (n11_1:.(fo C11 "right"))
  (e12:.(fi C12 "__init__" i12))
  (f12:.(fx i12))
  (I12:cq K i12 "__init__" "Either.__init__" wb)
  (n12_0:.(fo C12 "left"))
  (n12_1:.(fo C12 "right"))
  (e13:.(fi C13 "__init__" i13))
  (f13:.(fx i13))
  (I13:cq K i13 "__init__" "Rooms.__init__" nS)
  (n13_0:.(fo C13 "step"))
  (n13_1:.(fo C13 "doors"))
  (b0:.(ns d0 "rests_behind"))
  (D0:cq K d0 "rests_behind" "rests_behind" mX)
  (b1:.(ns d1 "doors_of"))
  (D1:cq K d1 "doors_of" "doors_of" mY)
  (b2:.(ns d2 "ended"))
  (D2:cq K d2 "ended" "ended" mZ)
  (b3:.(ns d3 "row_doors"))
  (D3:cq K d3 "row_doors" "row_doors" n3)
  (b4:.(ns d4 "choice_doors"))
  (D4:cq K d4 "choice_doors" "choice_doors" n4)
  (b5:.(ns d5 "loop_doors"))
  (D5:cq K d5 "loop_doors" "loop_doors" n5)
  (b6:.(ns d6 "loop_door"))
  (D6:cq K d6 "loop_door" "loop_door" n6)
  (b7:.(ns d7 "gone_on"))
  (D7:cq K d7 "gone_on" "gone_on" ng)
  (b8:.(ns d8 "_law_cell_at"))
  (D8:cq K d8 "_law_cell_at" "_law_cell_at" nh)
  (b9:.(ns d9 "_law_draw"))
  (D9:cq K d9 "_law_draw" "_law_draw" ni)
  (b10:.(ns d10 "_law_sign"))
  (D10:cq K d10 "_law_sign" "_law_sign" nj)
  (b11:.(ns d11 "_law_holds"))
  (D11:cq K d11 "_law_holds" "_law_holds" nk)
  (b12:.(ns d12 "_law_test"))
  (D12:cq K d12 "_law_test" "_law_test" nl)
  (b13:.(ns d13 "_law_grown"))
  (D13:cq K d13 "_law_grown" "_law_grown" nq)
  (b14:.(ns d14 "_law_prog"))
  (D14:cq K d14 "_law_prog" "_law_prog" nr)
  (b15:.(ns d15 "_law_count"))
  (D15:cq K d15 "_law_count" "_law_count" nt)
  (b16:.(ns d16 "_law_numbered"))
  (D16:cq K d16 "_law_numbered" "_law_numbered" nu)
  (b17:.(ns d17 "_law_built"))
  (D17:cq K d17 "_law_built" "_law_built" nv)
  (b18:.(ns d18 "_law_first"))
  (D18:cq K d18 "_law_first" "_law_first" nw)
  (b19:.(ns d19 "_law_left"))
  (D19:cq K d19 "_law_left" "_law_left" ny)
  (b20:.(ns d20 "_law_same_test"))
  (D20:cq K d20 "_law_same_test" "_law_same_test" nz)
  (b21:.(ns d21 "_law_same"))
  (D21:cq K d21 "_law_same" "_law_same" nA)
  (b22:.(ns d22 "_law_right"))
  (D22:cq K d22 "_law_right" "_law_right" nB)
  (b23:.(ns d23 "_law_told"))
  (D23:cq K d23 "_law_told" "_law_told" nD)
  (b24:.(ns d24 "law"))
  (D24:cq K d24 "law" "law" jk)
  (m25_1:.(fi C1 "letters" d25))
  (g25:.(fx d25))
  (D25:cq K d25 "letters" "Skip.letters" nE)
  (m26_2:.(fi C2 "letters" d26))
  (g26:.(fx d26))
  (D26:cq K d26 "letters" "Stop.letters" nG)
  (m27_3:.(fi C3 "letters" d27))
  (g27:.(fx d27))
  (D27:cq K d27 "letters" "Deed.letters" nH)
  (m28_4:.(fi C4 "letters" d28))
  (g28:.(fx d28))
  (D28:cq K d28 "letters" "Row.letters" nI)
  (m29_5:.(fi C5 "letters" d29))
  (g29:.(fx d29))
  (D29:cq K d29 "letters" "Choice.letters" nJ)
  (m30_6:.(fi C6 "letters" d30))
  (g30:.(fx d30))
  (D30:cq K d30 "letters" "Loop.letters" nL)
  (m31_8:.(fi C8 "holds" d31))
  (g31:.(fx d31))
  (D31:cq K d31 "holds" "Yes.holds" nM)
  (m32_9:.(fi C9 "holds" d32))
  (g32:.(fx d32))
  (D32:cq K d32 "holds" "Named.holds" nN)
  (m33_10:.(fi C10 "holds" d33))
  (g33:.(fx d33))
  (D33:cq K d33 "holds" "Not.holds" nO)
  (m34_11:.(fi C11 "holds" d34))
  (g34:.(fx d34))
  (D34:cq K d34 "holds" "Both.holds" nP)
  (m35_12:.(fi C12 "holds" d35))
  (g35:.(fx d35))
  (D35:cq K d35 "holds" "Either.holds" nQ)
  (m36_13:.(fi C13 "rest_of" d36))
  (g36:.(fx d36))
  (D36:cq K d36 "rest_of" "Rooms.rest_of" nR)
  (wChoice:gr K (.ref C5) .(AR) i_zH)
  (wDeed:gr K (.ref C3) .(AR) i_zF)
  (wLoop:gr K (.ref C6) .(AR) i_zI)
  (wRow:gr K (.ref C4) .(AR) i_zG)
  (wSkip:gr K (.ref C1) .(AR) i_zD)
  (wStop:gr K (.ref C2) .(AR) i_zE)
  (wbool:gr K (.type "bool") .(AR) i_bool)
  (wlist:gr K (.type "list") .(AR) i_list)
  (wtuple:gr K (.type "tuple") .(AR) i_tuple)
  (bxDONE:PySem.W.nsIn K mainGlobals "DONE"=some (some (.str "done" kDONE)))
  (bxHUNG:PySem.W.nsIn K mainGlobals "HUNG"=some (some (.str "hung" kHUNG)))
  (bxLETTERS:.(ns tLETTERS "LETTERS"))
  (lxLETTERS:K.lookup tLETTERS=some ⟨.type "tuple",none,.seq #[.str "a" kLETTERS0,.str "b" kLETTERS1,.str "c" kLETTERS2,.str "d" kLETTERS3] nLETTERS,slLETTERS⟩)
  (bxSETTINGS:PySem.W.nsIn K mainGlobals "SETTINGS"=some (some (.int (16) kSETTINGS)))
  (bxSTOPPED:PySem.W.nsIn K mainGlobals "STOPPED"=some (some (.str "stopped" kSTOPPED)))
  (zbool:.(no "bool"))
  (zint:.(no "int"))
  (zisinstance:.(no "isinstance"))
  (zlen:.(no "len"))
  (zlist:.(no "list"))
  (zrange:.(no "range"))
  (ztuple:.(no "tuple")) :
  ∃(cA:Nat->Addr) (fd:FuncData),(∀(s:Shared) (v:Value),BindsTo s fd ⟨[v],[]⟩ [("_law_script",v)])/\ ∀base:Bs,K.In base->base.Ns mainGlobals mg->base.tabs=ts->bM l.prog w K mg base fS (220+3) fa fd ["_law_script"] (mv K (pg cA) [false] (gF 110 24)):=by
 have e:=hfa.symm.trans (.(mg b24))
 cases e
 exact .(obq fD0 D0)
 exact .(obq fD1 D1)
 exact .(obq fD2 D2)
 exact .(obq fD3 D3)
 exact .(obq fD4 D4)
 exact .(obq fD5 D5)
 exact .(obq fD6 D6)
 exact .(obq fD7 D7)
 exact .(obq fD8 D8)
 exact .(obq fD9 D9)
 exact .(obq fD10 D10)
 exact .(obq fD11 D11)
 exact .(obq fD12 D12)
 exact .(obq fD13 D13)
 exact .(obq fD14 D14)
 exact .(obq fD15 D15)
 exact .(obq fD16 D16)
 exact .(obq fD17 D17)
 exact .(obq fD18 D18)
 exact .(obq fD19 D19)
 exact .(obq fD20 D20)
 exact .(obq fD21 D21)
 exact .(obq fD22 D22)
 exact .(obq fD23 D23)
 exact .(obq fD24 D24)
 exact .(obq fD25 D25)
 exact .(obq fD26 D26)
 exact .(obq fD27 D27)
 exact .(obq fD28 D28)
 exact .(obq fD29 D29)
 exact .(obq fD30 D30)
 exact .(obq fD31 D31)
 exact .(obq fD32 D32)
 exact .(obq fD33 D33)
 exact .(obq fD34 D34)
 exact .(obq fD35 D35)
 exact .(obq fD36 D36)
 exact .(obq fI3 I3)
 exact .(obq fI4 I4)
 exact .(obq fI5 I5)
 exact .(obq fI6 I6)
 exact .(obq fI9 I9)
 exact .(obq fI10 I10)
 exact .(obq fI11 I11)
 exact .(obq fI12 I12)
 exact .(obq fI13 I13)
 have F:Fs K mg (wY C0 C1 C2 C3 C4 C5 C6 C7 C8 C9 C10 C11 C12 C13) ts:={
  F_z0:=.(fr fD0 D0 .(AJ) b0)
  F_z1:=.(fr fD1 D1 .(AK) b1)
  F_z2:=.(fr fD2 D2 .(AJ) b2)
  F_z3:=.(fr fD3 D3 .(AK) b3)
  F_z4:=.(fr fD4 D4 .(AK) b4)
  F_z5:=.(fr fD5 D5 .(AK) b5)
  F_z6:=.(fr fD6 D6 .(AK) b6)
  F_z7:=.(fr fD7 D7 .(AK) b7)
  F_z8:=.(fr fD8 D8 .(AK) b8)
  F_z9:=.(fr fD9 D9 .(AK) b9)
  F_za:=.(fr fD10 D10 .(AJ) b10)
  F_zb:=.(fr fD11 D11 .(AK) b11)
  F_zc:=.(fr fD12 D12 .(AJ) b12)
  F_zd:=.(fr fD13 D13 .(AK) b13)
  F_ze:=.(fr fD14 D14 .(AK) b14)
  F_zf:=.(fr fD15 D15 .(AJ) b15)
  F_zg:=.(fr fD16 D16 .(AK) b16)
  F_zh:=.(fr fD17 D17 .(AJ) b17)
  F_zi:=.(fr fD18 D18 .(AK) b18)
  F_zj:=.(fr fD19 D19 .(AK) b19)
  F_zk:=.(fr fD20 D20 .(AK) b20)
  F_zl:=.(fr fD21 D21 .(AK) b21)
  F_zm:=.(fr fD22 D22 .(AK) b22)
  F_zn:=.(fr fD23 D23 .(AK) b23)
  F_zo:=.(fr fD24 D24 .(AJ) b24)
  F_zp:=⟨_,fD25,D25,D25.binds .(AJ),.(mt D25 g25 m25_1)⟩
  F_zq:=⟨_,fD26,D26,D26.binds .(AJ),.(mt D26 g26 m26_2)⟩
  F_zr:=⟨_,fD27,D27,D27.binds .(AJ),.(mt D27 g27 m27_3)⟩
  F_zs:=⟨_,fD28,D28,D28.binds .(AJ),.(mt D28 g28 m28_4)⟩
  F_zt:=⟨_,fD29,D29,D29.binds .(AJ),.(mt D29 g29 m29_5)⟩
  F_zu:=⟨_,fD30,D30,D30.binds .(AJ),.(mt D30 g30 m30_6)⟩
  F_zv:=⟨_,fD31,D31,D31.binds .(AK),.(mt D31 g31 m31_8)⟩
  F_zw:=⟨_,fD32,D32,D32.binds .(AK),.(mt D32 g32 m32_9)⟩
  F_zx:=⟨_,fD33,D33,D33.binds .(AK),.(mt D33 g33 m33_10)⟩
  F_zy:=⟨_,fD34,D34,D34.binds .(AK),.(mt D34 g34 m34_11)⟩
  F_zz:=⟨_,fD35,D35,D35.binds .(AK),.(mt D35 g35 m35_12)⟩
  F_zA:=⟨_,fD36,D36,D36.binds .(AK),.(mt D36 g36 m36_13)⟩
  F_zB:=⟨_,fI13,I13,I13.binds .(AK),.(cf c13 e13 f13)⟩
 }
 obtain⟨⟨oc,od,kV,dc,pm,an,cd,ct,osl,rfl,ll,cc⟩,kk⟩:=id D24
 refine⟨(wY C0 C1 C2 C3 C4 C5 C6 C7 C8 C9 C10 C11 C12 C13),PySem.W.fnOf "law" "law" (dJ jk) (bw jk) (ag jk) .none kV dc pm an cd ct,fun s v=> .of_eq rfl,fun base _ _ htb=> ?_⟩
 have hC:∀c,c<14->jb K ((pg (wY C0 C1 C2 C3 C4 C5 C6 C7 C8 C9 C10 C11 C12 C13)).cA c):=fun c h=>match c,h with|0,_=>cJ c0|1,_=>cJ c1|2,_=>cJ c2|3,_=>cJ c3|4,_=>cJ c4|5,_=>cJ c5|6,_=>cJ c6|7,_=>cJ c7|8,_=>cJ c8|9,_=>cJ c9|10,_=>cJ c10|11,_=>cJ c11|12,_=>cJ c12|13,_=>cJ c13|n+14,h=>absurd h (Nat.not_lt.2 (Nat.le_add_left 14 n))
 have C:Ct l.prog w K mg base (wY C0 C1 C2 C3 C4 C5 C6 C7 C8 C9 C10 C11 C12 C13) ts:={
  tb:=htb
  c_zC:=.(mg a0)
  l_zC:=c0
  c_zD:=.(mg a1)
  l_zD:=c1
  c_zE:=.(mg a2)
  l_zE:=c2
  c_zF:=.(mg a3)
  l_zF:=c3
  c_zG:=.(mg a4)
  l_zG:=c4
  c_zH:=.(mg a5)
  l_zH:=c5
  c_zI:=.(mg a6)
  l_zI:=c6
  c_zJ:=.(mg a7)
  l_zJ:=c7
  c_zK:=.(mg a8)
  l_zK:=c8
  c_zL:=.(mg a9)
  l_zL:=c9
  c_zM:=.(mg a10)
  l_zM:=c10
  c_zN:=.(mg a11)
  l_zN:=c11
  c_zO:=.(mg a12)
  l_zO:=c12
  c_zP:=.(mg a13)
  l_zP:=c13
  n_zN:=⟨.(mg a11),c11.cls,i11,fI11,_,.(cf c11 e11 f11),eP I11 rfl .q c11.cls n11_0 n11_1 (by decide) (by decide) (by decide) (by decide) (by decide +kernel),I11.binds .(AL)⟩
  n_zH:=⟨.(mg a5),c5.cls,i5,fI5,_,.(cf c5 e5 f5),mf I5 rfl .q c5.cls n5_0 n5_1 n5_2 (by decide) (by decide) (by decide) (by decide) (by decide) (by decide) (by decide +kernel) (by decide +kernel) (by decide +kernel),I5.binds .(AM)⟩
  n_zF:=⟨.(mg a3),c3.cls,i3,fI3,_,.(cf c3 e3 f3),g9 I3 rfl .q c3.cls n3_0 (by decide) (by decide) ,I3.binds .(AK)⟩
  n_zO:=⟨.(mg a12),c12.cls,i12,fI12,_,.(cf c12 e12 f12),eP I12 rfl .q c12.cls n12_0 n12_1 (by decide) (by decide) (by decide) (by decide) (by decide +kernel),I12.binds .(AL)⟩
  n_zI:=⟨.(mg a6),c6.cls,i6,fI6,_,.(cf c6 e6 f6),eP I6 rfl .q c6.cls n6_0 n6_1 (by decide) (by decide) (by decide) (by decide) (by decide +kernel),I6.binds .(AL)⟩
  n_zL:=⟨.(mg a9),c9.cls,i9,fI9,_,.(cf c9 e9 f9),g9 I9 rfl .q c9.cls n9_0 (by decide) (by decide) ,I9.binds .(AK)⟩
  n_zM:=⟨.(mg a10),c10.cls,i10,fI10,_,.(cf c10 e10 f10),g9 I10 rfl .q c10.cls n10_0 (by decide) (by decide) ,I10.binds .(AK)⟩
  n_zG:=⟨.(mg a4),c4.cls,i4,fI4,_,.(cf c4 e4 f4),eP I4 rfl .q c4.cls n4_0 n4_1 (by decide) (by decide) (by decide) (by decide) (by decide +kernel),I4.binds .(AL)⟩
  k_zD:=⟨c1.mks,o1,c1.kp⟩
  k_zE:=⟨c2.mks,o2,c2.kp⟩
  k_zK:=⟨c8.mks,o8,c8.kp⟩
  x_Rooms_step:=n13_0
  x_Rooms_doors:=n13_1
  f_body:=(.(fl c6 n6_1 6 cb))
  f_doors:=(.(fl c13 n13_1 13 cb))
  f_head:=(.(fl c4 n4_0 4 cb))
  f_inner:=(.(fl c10 n10_0 10 cb))
  f_left:=(.(fl c11 n11_0 11 (.(fl c12 n12_0 12 cb))))
  f_name:=(.(fl c3 n3_0 3 (.(fl c9 n9_0 9 cb))))
  f_no:=(.(fl c5 n5_2 5 cb))
  f_right:=(.(fl c11 n11_1 11 (.(fl c12 n12_1 12 cb))))
  f_step:=(.(fl c13 n13_0 13 cb))
  f_tail:=(.(fl c4 n4_1 4 cb))
  f_test:=(.(fl c5 n5_0 5 (.(fl c6 n6_0 6 cb))))
  f_yes:=(.(fl c5 n5_1 5 cb))
  i_zH:=bR hC wChoice rfl (by decide)
  i_zF:=bR hC wDeed rfl (by decide)
  i_zI:=bR hC wLoop rfl (by decide)
  i_zG:=bR hC wRow rfl (by decide)
  i_zD:=bR hC wSkip rfl (by decide)
  i_zE:=bR hC wStop rfl (by decide)
  i_bool:=bR hC wbool rfl (by decide)
  i_list:=bR hC wlist rfl (by decide)
  i_tuple:=bR hC wtuple rfl (by decide)
  e_DONE:=⟨kDONE,.(mg bxDONE)⟩
  e_HUNG:=⟨kHUNG,.(mg bxHUNG)⟩
  e_LETTERS:=⟨tLETTERS,.(mg bxLETTERS),pd lxLETTERS (by show 4<=sizeLine;decide) (.cons ⟨_,rfl⟩ (.cons ⟨_,rfl⟩ (.cons ⟨_,rfl⟩ (.cons ⟨_,rfl⟩ (.nil)))))⟩
  e_SETTINGS:=⟨kSETTINGS,.(mg bxSETTINGS)⟩
  e_STOPPED:=⟨kSTOPPED,.(mg bxSTOPPED)⟩
  z_bool:=.(mz zbool)
  z_int:=.(mz zint)
  z_isinstance:=.(mz zisinstance)
  z_len:=.(mz zlen)
  z_list:=.(mz zlist)
  z_range:=.(mz zrange)
  z_tuple:=.(mz ztuple)
 }
 obtain⟨f',fd',ps',e1,e2,e3,e4⟩:=(kh C F 110).h_zo.ex
 exact mC D24 cD rfl fun _ _ _ _ _ _ hr=>vX C (kh C F 109) hr
end M31
#synth .(tw [17758600903531024621,6249692810953460125,4692088782530407971,8431052144392828993,12586344389794558625,8654983177814889261,9294818165005993777,7764359222331474644,7103019082791580739,7482285450783592347,10275180231311614609,5874454661378539151,17467923429910377064,10695394006149562024,17633984151398064959,6922759217694986110,17811451122021355443,9027370686010458675,1717168275128597310,7289842713544100575,6759615307442828766,11782052793980377831,15059935582018226195,10270364768101556378,8698253909144370957,4143344299779835482,1322740376641753232,14611854722992965720,7781539090830363650,16655384057599908175,9378736062537209972,5660909612364671938,1293387285006067428,4182839703901650464,5385375189045747967,16013343837595984135,9097608355254917877,4807745790486734189,3169516510284718930,13289751818998588795,9649536438517533240,12911082303204872750,7105131567130410139,9767231996729563208,1985490135074175650,2463569705952479663,11253225407451684559,13608093786667391079,11291878054798131049,13106011964970974956,9158155669095327149,1234808041040248866,13671550096816597134,2814326717631478223,16625992014536943238,820914543922613593,3605000483846878331,18353431043417071346,6396884714256435773,18153330333703038059,16686597024417430101,3353212916417502730,54771739074171180,13656758628299697697,17602814309828493541,16911371504692439059,14916206756382619616,1179850288699406430,6755019235042578865,13847018964073598394,10170110174533405892,12745034959200829928,3014509796767174331,13455880025617562606,3944731813979540435,17302852969174271483,8433951835064792993,9005221995181999636,14559908900592821015,10871415478106699076,11361866018450115079,13988929014166925750,11272907553302701590,5310495095942702055,13434101662443147733,3541570266779592654,14801804106931908829,12883522459564458136,16959201014587189812,5764246406737305429,7225454957890016537,5429188115509146712,13175168297792385727,15418343865278246506,14935963557657537403,9384647463940647274,6990839106506862877,4570920712738746114,14648222290655912431,8852469581125841516,10856482191647901503,11892531496418056729,18263081694364838544,6662206373245118912,9414554573911750254,544167931057137792,15476200603409383953,10812203412996250559,3075418675178847256,8886275929332413670,17500550362137077370,15656366128670892656,1698220748607335456,1535332285404201741,16540781688563322973,5646556859948112782,18047861178366634008,17698655392020760910,17906518306697990791,3058462045208928344,14518882710336811246,12940936851166541720,16917510019766448978,3891580576180610385,6990918488450319419,16098220068041078689,116593448726357375,10769109350596081690,2612285227720928264,3433014353117620970,1048610760130103638,2878288367527289684,12559268537872838815,1987897168797010081,12508866622112600101,6819631235577198732,13174923725805714721,1483489648120011935,12548005120345500884,13976603991661162155,5518443682109528667,17557421502875635188,3766521853496661350,5056314032459535002,1307599580198349721,5801191691656616657,18337007830902349557,158366546320933619,14420884589861181357,14259029852918939544,11526550005771005973,1060652551509914698,1797300264420764126,17055590136037977872,16198736388383842096,9425501350616379270,1331617200176960583,6662139864860590829,2606185393159501770,10181736110831316413,14010201482734915466,6759720337434154803,17199922782520057414,838058433430794390,15602551437028198457,12082751193139710539,5057541940864922221,819556404386428995,326397618760946109,2932993547337089677,11797791742970544197,1723293320970635503,8978489384654079366,7875480357062315242,17567993625761112343,150333874520302748,525460335383358749,11091361110211106962,12200493969605609042,17894675185837055477,13714395595644626281,6334816648864433708,15457160161328053911,11193381077635388147,68652717149761841,8954631991340302006,3419187439965708356,1912650709566037952,15753220783218326024,15532812211045184813,12560876229864818653,11645913027419403721,5582037580875906948,2049294841568796934,8703096031176486562,838375376186626828,16611059490506257793,14664442848253030943,669109371918769613,4977709855735068107,10547104334832789525,10625260407027410844,8252206675131563084,13568537986515017346,16678057120603137579,5582773738219106734,4819242657790395666,17549336251482023123,15799336040399621135,1551388291236995320,264869201803395084,9652060715598033742,6188884381574136665,10581568798834690539,7342588283093602074,6355546745903519300,16901030185215772058,14447707169997148623,1439562249137640827,12076968486719210555,11625610228889228339,11362347008938240913,9048231937343447608,4606622749251174264,3510388793189693703,8255511603474063795,18339277566304401579,7765090612651704734,755696654306392348,15698688205292690895,8974659588635426746,7365433976382790496,9983670568514479396,4033968016865559951,2521822377211802196,16787983017441853751,7674185536725761749,10371017749747707094,9934351742717615756,14782835468207965852,10639108738294869140,5719878256443433640,17750768847697307619,10622109424415305971,10472926666714456744,4044744165519501947,14037478633459014037,11831884543496652524,1054137506225827124,15006809278127832501,17268768606621384821,18244791663515958143,10428782838977221339,4948870444925691921,3814143167939710349,9067555749469831942,8731884538747138123,8011657341833844385,7981867771055360152,7017710114410380063,6626264226942142838,14355311658054604212,11664535360708988743,16648444929878305033,15688374228976166383,15260585140562904909,10298212748017450140,1143414329667106418,8443608069094594464,7558464231830444046,7470490573010296598,7299744872983274474,6217392420673738950,5810974258818538346,5544598359634880579,3349990920516637447,333518215414066291,3322327954590283865,3224464469395898809,308545326209424829,17154860384054544889,165650578416429597,14978339863276849505,14930897118409486380,14876473098917225004,14618232182597998917,14615507775116173248,14424254645021110678,13919229832672242328,13803111686589057912,13713043121414219219,13693592857022775133,12925389039655406527,12524599022592612797,178545504558622782,9547621822939484938,14427069285475593541,6772148914311220723,9394496914439056809,15072480298160955865,2977176375728775083,2810540712736764816,16399196812061127338,8318668030894305456,16019068480561637301,13229605799744840781,12780985551861389641,11726382916568499658,647884057828946904,1507119088939493098,6652306231388243376,5520565923286915836,11806360381187538985,16945296908943134790,14672996134657418243,10085764254848041214,8774888763625439547,8056900992184547519,7396136995931829873,6632868104601401174,3467195327653775197,18321586368811584785,16815864012867840753,15580860570633434420,13353882399629913972,12834837922421483210,11664722965301608350,4850192623118372549,776544480765714243,6208854626229202602,5083344770528178739,4884562892786425341,2994892200065171742,17694316343676349360,10637269689326271655,9210229863447308111,7627741986616002292,7590274969547039442,5096577847652654305,296867784761088211,2338894446681072327,16214162020088964360,16202075542621664672,15922304494166697451,15524912335946979524,15111971204736747028,14943472858169558039,12909855310328198659,11633022989543721388,10314249084182801031,10056220588522409847,9062581630588322411,8717394758170075297,7928711950839339462,5384629056202395822,4253296116112224589,14494736508866502654,14074983835288360400,12815726894980984153,11928988219889163831,2933515902730600311,4278203812761053598,17477869216046707482,5742288901303300921,4746204529334260847,4545190798573335666,4143451067430988025,13387093892944764176,17174970939713077859,9016967807128300652,7781707701693952865,6143931403398037084,4454908344749210950,4376369276063037089,3802142918133597121,2998284262432917883,17115485541424766444,16207618697062148349,16147614544095074289,14972828852054095172,14863209369186099783,14159870216436510770,13164210333978726817,11535527861692421053,1097758387675332128,10794055964284239440,10707442742587675736,10469940147066886207,10001110635077289684,16905013174765302143,1510174780246250601,8482358139258469107,7108809767244076443,3749840545254141387,423093513366214419,4560011474448844910,1166012472990442345,14793990502354516984,13987798165535790037,8475077703399906937])
end
open PySem PySem.W PyProof.Rows
set_option maxRecDepth 100000 in
set_option maxHeartbeats 0 in
theorem PySem.Challenge.cw_anymeaning_k31_doors_holds : PySem.Challenge.rw_anymeaning_k31_doors.Holds := by
 w_on;o_law;k_head;(case hw=>w_witness2)
 k_fill
 refine L2.uh (l:=PySem.Challenge.rw_anymeaning_k31_doors) (n:=63) (k:=220+3) (x:="_law_script") (CX:=L2.fS) (sp:=fun K=>DN.AS K M31.fN M31.nF (M31.gF 110 24)) rfl (by decide) rfl ⟨rfl,by decide,by decide⟩ (fun w h Y=>PySem.W.kIn_of Y) (ts:=[]) (fun w h Y P hP=>by cases hP) ?F (fun K H a ns hl hO hS cA=>DN.xS hO hS (M31.main ns hl)) (fun _ _ _ _ z=>z)
 case F =>
  intro w mg fa h KX G hmg
  refine DN.xT ?_
  refine' M31.zO KX G hmg ?a0 ?a1 ?a2 ?a3 ?a4 ?a5 ?a6 ?a7 ?a8 ?a9 ?a10 ?a11 ?a12 ?a13 ?c0 ?c1 ?c2 ?c3 ?c4 ?c5 ?c6 ?c7 ?c8 ?c9 ?c10 ?c11 ?c12 ?c13 ?o1 ?o2 ?e3 ?f3 ?I3 ?n3_0 ?e4 ?f4 ?I4 ?n4_0 ?n4_1 ?e5 ?f5 ?I5 ?n5_0 ?n5_1 ?n5_2 ?e6 ?f6 ?I6 ?n6_0 ?n6_1 ?o8 ?e9 ?f9 ?I9 ?n9_0 ?e10 ?f10 ?I10 ?n10_0 ?e11 ?f11 ?I11 ?n11_0 ?n11_1 ?e12 ?f12 ?I12 ?n12_0 ?n12_1 ?e13 ?f13 ?I13 ?n13_0 ?n13_1 ?b0 ?D0 ?b1 ?D1 ?b2 ?D2 ?b3 ?D3 ?b4 ?D4 ?b5 ?D5 ?b6 ?D6 ?b7 ?D7 ?b8 ?D8 ?b9 ?D9 ?b10 ?D10 ?b11 ?D11 ?b12 ?D12 ?b13 ?D13 ?b14 ?D14 ?b15 ?D15 ?b16 ?D16 ?b17 ?D17 ?b18 ?D18 ?b19 ?D19 ?b20 ?D20 ?b21 ?D21 ?b22 ?D22 ?b23 ?D23 ?b24 ?D24 ?m25_1 ?g25 ?D25 ?m26_2 ?g26 ?D26 ?m27_3 ?g27 ?D27 ?m28_4 ?g28 ?D28 ?m29_5 ?g29 ?D29 ?m30_6 ?g30 ?D30 ?m31_8 ?g31 ?D31 ?m32_9 ?g32 ?D32 ?m33_10 ?g33 ?D33 ?m34_11 ?g34 ?D34 ?m35_12 ?g35 ?D35 ?m36_13 ?g36 ?D36 ?wChoice ?wDeed ?wLoop ?wRow ?wSkip ?wStop ?wbool ?wlist ?wtuple ?bxDONE ?bxHUNG ?bxLETTERS ?lxLETTERS ?bxSETTINGS ?bxSTOPPED ?zbool ?zint ?zisinstance ?zlen ?zlist ?zrange ?ztuple
  (case a0|a1|a2|a3|a4|a5|a6|a7|a8|a9|a10|a11|a12|a13|o1|o2|e3|f3|n3_0|e4|f4|n4_0|n4_1|e5|f5|n5_0|n5_1|n5_2|e6|f6|n6_0|n6_1|o8|e9|f9|n9_0|e10|f10|n10_0|e11|f11|n11_0|n11_1|e12|f12|n12_0|n12_1|e13|f13|n13_0|n13_1|b0|b1|b2|b3|b4|b5|b6|b7|b8|b9|b10|b11|b12|b13|b14|b15|b16|b17|b18|b19|b20|b21|b22|b23|b24|m25_1|g25|m26_2|g26|m27_3|g27|m28_4|g28|m29_5|g29|m30_6|g30|m31_8|g31|m32_9|g32|m33_10|g33|m34_11|g34|m35_12|g35|m36_13|g36|bxDONE|bxHUNG|bxLETTERS|lxLETTERS|bxSETTINGS|bxSTOPPED|zbool|zint|zisinstance|zlen|zlist|zrange|ztuple=>k_is)
  (case c0|c1|c2|c3|c4|c5|c6|c7|c8|c9|c10|c11|c12|c13=>exact⟨by k_is,by k_is,by k_is,by k_is,by k_is,by k_is,by k_is,by k_is,by k_is,by k_is⟩)
  (case I3|I4|I5|I6|I9|I10|I11|I12|I13|D0|D1|D2|D3|D4|D5|D6|D7|D8|D9|D10|D11|D12|D13|D14|D15|D16|D17|D18|D19|D20|D21|D22|D23|D24|D25|D26|D27|D28|D29|D30|D31|D32|D33|D34|D35|D36=>(refine' L2.xA ?l ?c ?k;(case l=>k_is);(case c=>k_is);(case k=>k_is)))
  (case wChoice|wDeed|wLoop|wRow|wSkip|wStop|wbool|wlist|wtuple=>(repeat refine⟨by kit_is,?_⟩);exact trivial)
#print axioms PySem.Challenge.cw_anymeaning_k31_doors_holds
end
