import PyProof.Rows.All
import Wide.All
import OpenK.AllK
import Wide.FinOn
import Lean
import PyProof.EqAt
import PyProof.EqKinds
import PyProof.TupleCall
import PyProof.CompFree
import PyProof.NeKinds
import PyProof.Rows.SumAny
import KE.KNest
import KE.KLam
import KE.KNestM
import KE.LcSums
import PyProof.EnumFor
import PyProof.EnumMake
import PyProof.EnumStmt
import PyProof.CompUse
import PyProof.RulesTry
import PyProof.StrCalls2
import PyProof.StrCalls5
import PyProof.StrLawsTight
import PyProof.Rows.StrNews2
import PyProof.Rows.StrItems
import KE.KRevIter
import PyProof.PureStr
import PyProof.SliceStr2
import PyProof.StrLawsIdx
import PyProof.WalkInts
import PyProof.SeqI3
import PyProof.IsRules
import PyProof.StationsW
import PyProof.ExcClass2
import PyProof.ExcArgs
import PyProof.ExcArgsOwn
import PyProof.PassesOwn
import PyProof.Rows.Catch
import PyProof.Rows.CatchOwn
import OpenK.KOwn
import PyProof.Draws
import PyProof.AttrMiss
import PyProof.DictItems
import PyProof.FactsAll.enumerate
import KE.KDictOf
import KE.KItemsList
import KE.KPairComp
import KE.KEqDict
import PyProof.MeetsDictList
import PyProof.RulesAs
import PyProof.NsDelKeeps
import KE.KTryMore
import PyProof.StrBlock2
import PySem.Challenge.RW_anymeaning_k46_what_is_no_saying
set_option Elab.async false
set_option linter.all false
set_option maxRecDepth 100000
set_option maxHeartbeats 4000000
set_option hygiene false
local macro_rules|`(.(ns $a $s))=>`(PySem.W.nsIn K mainGlobals $s = some (some (.ref $a)))
local macro_rules|`(.(no $s))=>`(PySem.W.nsIn K mainGlobals $s = some none)
local macro_rules|`(.(fi $c $s $a))=>`(PySem.W.findIn K (.ref $c) $s = some (some (.ref $a)))
local macro_rules|`(.(fo $c $s))=>`(PySem.W.findIn K (.ref $c) $s = some none)
local macro_rules|`(.(fx $a))=>`(PySem.W.isFn K (.ref $a) = true)
local macro_rules|`(.(mg $b))=>`(PySem.W.mg_of X G $b)
local macro_rules|`(.(mz $b))=>`(PySem.W.mg_none_of X G $b)
local macro_rules|`(.(fr $f $d $n $b))=>`(⟨_,$f,$d,($d).binds $n,PySem.W.mg_of X G $b⟩)
local macro_rules|`(.(cf $k $e $f))=>`(⟨($k).mks,$e,$f,($k).kp⟩)
local macro_rules|`(.(mt $d $g $m))=>`(⟨$m,$g,($d).kp⟩)
local macro_rules|`(.(fl $k $n $c $r))=>`(fl_cons ($k).cls $n (show (fN $c).Nodup by decide+kernel) rfl $r)
local macro_rules|`(.(A))=>`(fun _ _ _ _ _ _ us hl=>by rcases us with _ | ⟨_,_ | ⟨_,_⟩⟩ <;> first | (cases hl; done) | rfl)
local macro_rules|`(.(B))=>`(fun _ _ _ _ _ _ us hl=>by rcases us with _ | ⟨_,_ | ⟨_,_ | ⟨_,_⟩⟩⟩ <;> first | (cases hl; done) | rfl)
local macro_rules|`(.(C))=>`(fun _ _ _ _ _ _ us hl=>by rcases us with _ | ⟨_,_ | ⟨_,_ | ⟨_,_ | ⟨_,_⟩⟩⟩⟩ <;> first | (cases hl; done) | rfl)
local macro_rules|`(.(D))=>`(fun _ _ _ _ _ _ us hl=>by rcases us with _ | ⟨_,_ | ⟨_,_ | ⟨_,_ | ⟨_,_ | ⟨_,_⟩⟩⟩⟩⟩ <;> first | (cases hl; done) | rfl)
local macro_rules|`(.(E))=>`(fun _ _ _ _ _ _ us hl=>by rcases us with _ | ⟨_,_ | ⟨_,_ | ⟨_,_ | ⟨_,_ | ⟨_,_ | ⟨_,_⟩⟩⟩⟩⟩⟩ <;> first | (cases hl; done) | rfl)
local macro_rules|`(.(G))=>`(fun _ _ _ _ _ _ us hl=>by rcases us with _ | ⟨_,_ | ⟨_,_ | ⟨_,_ | ⟨_,_ | ⟨_,_ | ⟨_,_ | ⟨_,_⟩⟩⟩⟩⟩⟩⟩ <;> first | (cases hl; done) | rfl)
local macro_rules|`(.(H))=>`(fun _ _ _ _ _ _ us hl=>by rcases us with _ | ⟨_,_ | ⟨_,_ | ⟨_,_ | ⟨_,_ | ⟨_,_ | ⟨_,_ | ⟨_,_ | ⟨_,_⟩⟩⟩⟩⟩⟩⟩⟩ <;> first | (cases hl; done) | rfl)
local macro_rules|`(.(I))=>`(fun _ _ _ _ _ _ us hl=>by rcases us with _ | ⟨_,_ | ⟨_,_ | ⟨_,_ | ⟨_,_ | ⟨_,_ | ⟨_,_ | ⟨_,_ | ⟨_,_ | ⟨_,_⟩⟩⟩⟩⟩⟩⟩⟩⟩ <;> first | (cases hl; done) | rfl)
local macro_rules|`(.(J))=>`(([(.type "NoneType"),(.type "bool"),(.type "int"),(.type "str"),(.type "tuple"),(.type "list"),(.type "dict"),(.ref C0),(.ref C1),(.ref C2),(.ref C3),(.ref C4),(.ref C5),(.ref C6),(.ref C7),(.ref C8),(.ref C9),(.ref C10),(.ref C11),(.ref C12)] : List Value))
local macro_rules|`(tactic|exact .(obq $f:ident $d:ident))=>`(tactic| obtain ⟨$f:ident,$d:ident⟩:=$d)
set_option hygiene true
noncomputable section
abbrev Fg:=PySem.W.Frag
section
namespace L2
open PySem PySem.Spec PyProof.Rows
abbrev Key:=Sum Int Str
def keyIs:Key->Value->Bool
 | .inl k,v=>Value.isInt k v
 | .inr x,v=>Value.isStrOf x v
def keyH (w:World):Key->Int
 | .inl k=>hashInt k
 | .inr x=>hashStr w x
theorem keyIs_shape: ∀ {k:Key} {v:Value},keyIs k v=true->(∃ i t,k=Sum.inl i/\v=Value.int i t)\/(∃ x t,k=Sum.inr x/\v=Value.str x t)
 | .inl i,v,h=>by
  obtain ⟨t,e⟩:=Value.isInt_shape (k:=i) (v:=v) h
  exact .inl ⟨i,t,rfl,e⟩
 | .inr x,v,h=>by
  obtain ⟨t,e⟩:=Value.isStrOf_shape (x:=x) (v:=v) h
  exact .inr ⟨x,t,rfl,e⟩
theorem key_ll (a b:Int):decide ((Sum.inl a:Key)=Sum.inl b)=(a == b):=by
 by_cases e:a=b
 ·subst e; simp
 ·have h: ¬ (Sum.inl a:Key)=Sum.inl b:=fun q=>e (Sum.inl.inj q)
  rw [decide_eq_false h]
  exact (beq_eq_false_iff_ne.mpr e).symm
theorem key_rr (a b:Str):decide ((Sum.inr a:Key)=Sum.inr b)=decide (a=b):=by
 by_cases e:a=b
 ·subst e; simp
 ·have h: ¬ (Sum.inr a:Key)=Sum.inr b:=fun q=>e (Sum.inr.inj q)
  rw [decide_eq_false h,decide_eq_false e]
theorem key_lr (a:Int) (b:Str):decide ((Sum.inl a:Key)=Sum.inr b)=false:=decide_eq_false (fun q=>nomatch q)
theorem key_rl (a:Str) (b:Int):decide ((Sum.inr a:Key)=Sum.inl b)=false:=decide_eq_false (fun q=>nomatch q)
def mixKind (prog:Program) (w:World):PySem.KeyKind prog w Key where
 is:=keyIs
 hash:=keyH w
 inj:=fun v a b ha hb=>by
  rcases keyIs_shape ha with ⟨i,t,rfl,rfl⟩ | ⟨x,t,rfl,rfl⟩
  ·rcases keyIs_shape hb with ⟨j,u,rfl,e⟩ | ⟨y,u,rfl,e⟩
   ·injection e with e1 _; rw [e1]
   ·exact nomatch e
  ·rcases keyIs_shape hb with ⟨j,u,rfl,e⟩ | ⟨y,u,rfl,e⟩
   ·exact nomatch e
   ·injection e with e1 _; rw [e1]
 byValue:=fun k v h=>by
  rcases keyIs_shape h with ⟨i,t,rfl,rfl⟩ | ⟨x,t,rfl,rfl⟩ <;> rfl
 pyHash:=fun hv h=>by
  rcases keyIs_shape hv with ⟨i,t,rfl,rfl⟩ | ⟨x,t,rfl,rfl⟩
  ·exact wpAny_pyHash_int h
  ·exact wpAny_pyHash_str h
 eqBool:=fun hu hv h=>by
  rcases keyIs_shape hu with ⟨i,t,rfl,rfl⟩ | ⟨x,t,rfl,rfl⟩
  ·rcases keyIs_shape hv with ⟨j,u,rfl,rfl⟩ | ⟨y,u,rfl,rfl⟩
   ·rw [key_ll] at h; exact wpAny_eqBool_int h
   ·rw [key_lr] at h; exact SeqAt.EqAt.int_str i t y u _ _ _ _ h
  ·rcases keyIs_shape hv with ⟨j,u,rfl,rfl⟩ | ⟨y,u,rfl,rfl⟩
   ·rw [key_rl] at h; exact SeqAt.EqAt.str_int x t j u _ _ _ _ h
   ·rw [key_rr] at h; exact wpAny_eqBool_str h
 «strs» :=fun k x t v h=>by
  rcases keyIs_shape h with ⟨i,u,rfl,e⟩ | ⟨y,u,rfl,e⟩
  ·exact nomatch e
  ·injection e with e1 _
   subst e1
   cases v <;> rfl
inductive V where
 | non | bl (b:Bool) | int (i:Int) | str (x:Str) | byt (b:Array UInt8) | flt (b:UInt64) | ref (a:Addr) | ty (n:String)
 deriving DecidableEq
def RelV:V->Value->Prop
 | .non,u=>u=Value.none
 | .bl b,u=>u=Value.bool b
 | .int i,u=> ∃ t,u=Value.int i t
 | .str x,u=> ∃ t,u=Value.str x t
 | .byt b,u=> ∃ t,u=Value.bytes b t
 | .flt b,u=> ∃ t,u=Value.float b t
 | .ref a,u=>u=Value.ref a
 | .ty n,u=>u=Value.type n
abbrev Vals:List V->List Value->Prop:=Paired RelV
theorem Vals.length {xs:List V} {us:List Value} (r:Vals xs us):xs.length=us.length:=Paired.length r
theorem Vals.get: ∀ {xs:List V} {us:List Value} {i:Nat} {x:V},Vals xs us->xs[i]? =some x-> ∃ u,us[i]? =some u/\RelV x u
 | _,_,_,_,.nil,e=>by simp at e
 | _,_,0,_,.cons r _,e=>by simp at e; subst e; exact ⟨_,rfl,r⟩
 | _,_,i + 1,x,.cons _ t,e=>by
  obtain ⟨u,h1,h2⟩:=Vals.get (i:=i) (x:=x) t (by simpa using e)
  exact ⟨u,by simpa using h1,h2⟩
theorem Vals.set {x:V} {u:Value} (r:RelV x u): ∀ {xs:List V} {us:List Value} (i:Nat),Vals xs us->Vals (xs.set i x) (us.set i u)
 | _,_,_,.nil=> .nil
 | _,_,0,.cons _ t=> .cons r t
 | _,_,i + 1,.cons q t=> .cons q (Vals.set r i t)
theorem Vals.append: ∀ {xs ys:List V} {us ws:List Value},Vals xs us->Vals ys ws->Vals (xs ++ ys) (us ++ ws)
 | _,_,_,_,.nil,s=>s
 | _,_,_,_,.cons r t,s=> .cons r (Vals.append t s)
theorem Vals.take: ∀ {xs:List V} {us:List Value} (n:Nat),Vals xs us->Vals (xs.take n) (us.take n)
 | _,_,0,_=> .nil
 | _,_,_ + 1,.nil=> .nil
 | _,_,n + 1,.cons r t=> .cons r (Vals.take n t)
theorem Vals.drop: ∀ {xs:List V} {us:List Value} (n:Nat),Vals xs us->Vals (xs.drop n) (us.drop n)
 | _,_,0,r=>r
 | _,_,_ + 1,.nil=> .nil
 | _,_,n + 1,.cons _ t=>Vals.drop n t
theorem Vals.none_of: ∀ {xs:List V} {us:List Value} {i:Nat},Vals xs us->xs[i]? =none->us[i]? =none:=fun {xs us i} r e=>by
 have h1:=r.length
 have h2:xs.length<=i:=List.getElem?_eq_none_iff.mp e
 exact List.getElem?_eq_none_iff.mpr (by omega)
def RelO:Option V->Option Value->Prop
 | some v,some u=>RelV v u
 | none,none=>True
 | _,_=>False
def KV {κ :Type}:List (κ × V)->List (κ × Value)->Prop:=Paired fun (p: κ × V) (q: κ × Value)=>p.1=q.1/\RelV p.2 q.2
def kV:Key->V
 | .inl i=> .int i
 | .inr x=> .str x
inductive HO where
  | lst (xs:List V)
  | tup (xs:List V)
  | dK (kvs:List (Key × V)) (ep:Nat) | dT (kvs:List (List Key × V)) (ep:Nat)
  | set (S:Int->Bool) (n:Nat)
  | ins (C dx:Addr) (fs:List (Str × V))
  | own (x:Addr)
  | xd (fs:List (Str × V))
  | met (f x:Addr)
  | rng (lo hi:Int)
  | frz (o:Obj) (u:HO)
  | tbl (q:Nat)
  | ext (φ :Heap->Prop)
abbrev Hp:=Addr->Option HO
def upd (H:Hp) (a:Addr) (o:HO):Hp:=fun b=>if b=a then some o else H b
theorem upd_same {H:Hp} {a:Addr} {o:HO}:upd H a o a=some o:=by unfold upd; rw [if_pos rfl]
theorem upd_ne {H:Hp} {a b:Addr} {o:HO} (h:b ≠ a):upd H a o b=H b:=by unfold upd; rw [if_neg h]
theorem upd_upd {H:Hp} {a:Addr} {o u:HO}:upd (upd H a o) a u=upd H a u:=by
 funext b; unfold upd; split <;> rfl
theorem ne_of_none {H:Hp} {a b:Addr} {o:HO} (h:H a=some o) (h':H b=none):a ≠ b:=by
 intro e; subst e; rw [h] at h'; cases h'
def CodeO (o:Obj):Prop:= ∃ (vs:Array Value) (q:Str) (t:Tok),o.data= .fields vs/\vs[1]? =some (.str q t)
section
variable (P:Program) (w:World)
def ObjOk (H:Hp) (h:Heap) (a:Addr):HO->Prop
 | .lst xs=>xs.length<=sizeLine/\ ∃ (its:List Value) (n:Nat),Vals xs its/\h.get? a=some { cls:= .type "list",data:= .seq its.toArray n }
 | .tup xs=>xs.length<=sizeLine/\ ∃ its:List Value,Vals xs its/\IsTup h a its.toArray
 | .dK kvs ep=>kvs.length<=sizeLine/\(a == sysModules)=false/\ ∃ vs,KV kvs vs/\h.DictAt (mixKind P w) a vs ep
 | .dT kvs ep=>kvs.length<=sizeLine/\(a == sysModules)=false/\ ∃ xs:List (List Key × Addr × Value),
   Paired (fun (p:List Key × V) (q:List Key × Addr × Value)=>p.1=q.1/\H q.2.1=some (.tup (p.1.map kV))/\RelV p.2 q.2.2) kvs xs /\
   ∃ o es,h.get? a=some o/\o.ExactDict/\o.data= .dict es ep/\es.toList=xs.map (entryOfKey (tupleKind (mixKind P w)))/\(xs.map (·.1)).Nodup
 | .set S n=>h.SetOf (intKind P w) a S n
 | .ins C dx fs=>H dx=some (.own a)/\fs.length<=1000/\dx ≠ a/\h.get? a=some (PySem.W.instObj C dx) /\
   ∃ mA,h.Ns1 dx mA/\(∀ f,RelO (fs.lookup f) (mA f))/\PySem.Within mA (fs.map (·.1))
 | .own _=> ∃ o,h.get? a=some o
 | .xd fs=> ∃ mA,h.Ns1 a mA/\ ∀ f,RelO (fs.lookup f) (mA f)
 | .rng lo hi=> ∃ t u v,h.get? a=some { cls:= .type "range",data:= .fields #[.int lo t,.int hi u,.int 1 v] }
 | .frz o u=>h.get? a=some o/\ObjOk H h a u
 | .tbl _=> ∃ ps:Array Value,h.get? a=some (PySem.W.tabObj ps)/\TriplesOk ps.toList/\ ∀ pos cv,codeAmong pos ps.toList=some cv-> ∃ c oc u,cv= .ref c/\H c=some (.frz oc u)/\CodeO oc
 | .met f x=>h.get? a=some (PySem.W.methodObj (.ref f) (.ref x))
 | .ext φ => φ h/\(∃ o,h.get? a=some o)/\ ∀ h1 h2:Heap, φ h1->(∀ o,h1.get? a=some o->h2.get? a=some o)-> φ h2
def HOk (H:Hp) (h:Heap):Prop:= ∀ a o,H a=some o->ObjOk P w H h a o
end
section
variable {P:Program} {w:World} {H H':Hp} {h h':Heap} {a:Addr} {o:HO}
theorem ObjOk.lt (x:ObjOk P w H h a o):a < h.objs.size:=by
 cases o with
 | lst xs=>obtain ⟨_,_,_,_,e⟩:=x; exact Heap.lt_size e
 | tup xs=>obtain ⟨_,_,_,p⟩:=x; exact p.lt
 | dK kvs ep=>obtain ⟨_,_,_,_,o,_,e,_⟩:=x; exact Heap.lt_size e
 | dT kvs ep=>obtain ⟨_,_,_,_,o,_,e,_⟩:=x; exact Heap.lt_size e
 | set S n=>obtain ⟨o,_,_,_,e,_⟩:=x; exact Heap.lt_size e
 | ins C dx fs=>obtain ⟨_,_,_,e,_⟩:=x; exact Heap.lt_size e
 | own y=>obtain ⟨_,e⟩:=x; exact Heap.lt_size e
 | xd fs=>obtain ⟨_,⟨_,_,_,e,_⟩,_⟩:=x; exact Heap.lt_size e
 | rng lo hi=>obtain ⟨_,_,_,e⟩:=x; exact Heap.lt_size e
 | frz ob u=>obtain ⟨e,_⟩:=x; exact Heap.lt_size e
 | tbl q=>obtain ⟨_,e,_⟩:=x; exact Heap.lt_size e
 | met f y=>exact Heap.lt_size (show h.get? a=some _ from x)
 | ext φ =>obtain ⟨_,⟨_,e⟩,_⟩:=x; exact Heap.lt_size e
theorem Paired.mapP {α β :Type} {F G: α -> β ->Prop}: ∀ {l₁:List α} {l₂:List β},Paired F l₁ l₂->(∀ a b,F a b->G a b)->Paired G l₁ l₂
 | _,_,.nil,_=> .nil
 | _,_,.cons r t,f=> .cons (f _ _ r) (Paired.mapP t f)
theorem ObjOk.stay (x:ObjOk P w H h a o) (k: ∀ b u,(b=a\/H b=some (.own a))->h.get? b=some u->h'.get? b=some u)
  (ho: ∀ b,H b=some (.own a)->H' b=some (.own a)) (ht: ∀ b xs,H b=some (.tup xs)->H' b=some (.tup xs)) (hz: ∀ b o u,H b=some (.frz o u)->H' b=some (.frz o u)):ObjOk P w H' h' a o:=by
 induction o with
 | lst xs=>obtain ⟨z,its,n,r,e⟩:=x; exact ⟨z,its,n,r,k _ _ (.inl rfl) e⟩
 | tup xs=>obtain ⟨z,its,r,ob,e,c⟩:=x; exact ⟨z,its,r,ob,k _ _ (.inl rfl) e,c⟩
 | dK kvs ep=>obtain ⟨z,y,vs,r,ob,es,e,c⟩:=x; exact ⟨z,y,vs,r,ob,es,k _ _ (.inl rfl) e,c⟩
 | dT kvs ep =>
  obtain ⟨z,y,xs,r,ob,es,e,c⟩:=x
  exact ⟨z,y,xs,Paired.mapP r fun p q z=>⟨z.1,ht _ _ z.2.1,z.2.2⟩,ob,es,k _ _ (.inl rfl) e,c⟩
 | set S n=>obtain ⟨ob,es,ep,t,e,c⟩:=x; exact ⟨ob,es,ep,t,k _ _ (.inl rfl) e,c⟩
 | ins C dx fs =>
  obtain ⟨d,z,ne,e,mA,⟨od,es,ep,e2,c⟩,r⟩:=x
  exact ⟨ho _ d,z,ne,k _ _ (.inl rfl) e,mA,⟨od,es,ep,k _ _ (.inr d) e2,c⟩,r⟩
 | own y=>obtain ⟨ob,e⟩:=x; exact ⟨ob,k _ _ (.inl rfl) e⟩
 | xd fs=>obtain ⟨mA,⟨od,es,ep,e,c⟩,r⟩:=x; exact ⟨mA,⟨od,es,ep,k _ _ (.inl rfl) e,c⟩,r⟩
 | rng lo hi=>obtain ⟨t,u,v,e⟩:=x; exact ⟨t,u,v,k _ _ (.inl rfl) e⟩
 | frz ob u ih=>obtain ⟨e,q⟩:=x; exact ⟨k _ _ (.inl rfl) e,ih q⟩
 | tbl q =>
  obtain ⟨ps,e,t,r⟩:=x
  exact ⟨ps,k a _ (.inl rfl) e,t,fun pos cv z=>let ⟨c,oc,u,e1,e2,e3⟩:=r pos cv z; ⟨c,oc,u,e1,hz _ _ _ e2,e3⟩⟩
 | met f y =>
  have e:h.get? a=some (PySem.W.methodObj (.ref f) (.ref y)):=x
  show h'.get? a=some (PySem.W.methodObj (.ref f) (.ref y))
  exact k a _ (.inl rfl) e
 | ext φ =>obtain ⟨p,⟨o,e⟩,st⟩:=x; exact ⟨st _ _ p fun o q=>k _ _ (.inl rfl) q,⟨o,k _ _ (.inl rfl) e⟩,st⟩
theorem HOk.lt (x:HOk P w H h) (e:H a=some o):a < h.objs.size:=(x a o e).lt
theorem HOk.fresh (x:HOk P w H h) (e:h.objs.size<=a):H a=none:=by
 cases q:H a with
 | none=>rfl
 | some u=>exact absurd (Nat.lt_of_lt_of_le (x.lt q) e) (Nat.lt_irrefl _)
theorem HOk.kept (x:HOk P w H h) (k: ∀ b u,h.get? b=some u->h'.get? b=some u):HOk P w H h':=fun a o e =>
 (x a o e).stay (fun b u _ q=>k b u q) (fun _ q=>q) (fun _ _ q=>q) fun _ _ _ q=>q
theorem HOk.laid (x:HOk P w H h) (k: ∀ b u,h.get? b=some u->h'.get? b=some u) (hp:h.objs.size<=a) (new:ObjOk P w (upd H a o) h' a o):HOk P w (upd H a o) h':=fun b u e=>by
 have hn:=x.fresh hp
 by_cases hb:b=a
 ·subst hb; rw [upd_same] at e; cases e; exact new
 ·rw [upd_ne hb] at e
  exact (x b u e).stay (fun c v _ q=>k c v q) (fun c q=>by rw [upd_ne (ne_of_none q hn)]; exact q) (fun c xs q=>by rw [upd_ne (ne_of_none q hn)]; exact q) fun c o u q=>by rw [upd_ne (ne_of_none q hn)]; exact q
end
def Rd (H:Hp) (a:Addr) (u:HO):Prop:=H a=some u\/ ∃ o,H a=some (.frz o u)
theorem Rd.of {H:Hp} {a:Addr} {u:HO} (h:H a=some u):Rd H a u:= .inl h
theorem Rd.ok {P:Program} {w:World} {H:Hp} {h:Heap} {a:Addr} {u:HO} (r:Rd H a u) (x:HOk P w H h):ObjOk P w H h a u:=by
 rcases r with r | ⟨o,r⟩
 ·exact x a u r
 ·obtain ⟨_,q⟩:=x a _ r
  exact q
def Mut:Option HO->Prop
 | some (.lst _)=>True
 | some (.dK _ _)=>True
 | some (.dT _ _)=>True
 | some (.set _ _)=>True
 | some (.ins _ _ _)=>True
 | some (.ext _)=>True
 | _=>False
section
variable {P:Program} {w:World} {H:Hp} {h h':Heap} {x e:Addr} {o':HO}
theorem HOk.write (ok:HOk P w H h) (mu:Mut (H x)) (he:e=x\/H e=some (.own x)) (k: ∀ b u,b ≠ e->h.get? b=some u->h'.get? b=some u) (heo: ∃ u,h'.get? e=some u)
  (new:ObjOk P w (upd H x o') h' x o'):HOk P w (upd H x o') h':=fun b u q=>by
 have nown: ∀ c y,H c=some (.own y)->c ≠ x:=fun c y r z=>by subst z; rw [r] at mu; exact mu
 have nfrz: ∀ c o u,H c=some (.frz o u)->c ≠ x:=fun c o u r z=>by subst z; rw [r] at mu; exact mu
 have ntup: ∀ c xs,H c=some (.tup xs)->c ≠ x:=fun c xs r z=>by subst z; rw [r] at mu; exact mu
 by_cases hb:b=x
 ·subst hb; rw [upd_same] at q; cases q; exact new
 ·rw [upd_ne hb] at q
  by_cases hbe:b=e
  ·have q':H b=some (.own x):=by
    rcases he with z | z
    ·exact absurd (hbe.trans z) hb
    ·rw [hbe]; exact z
   rw [q] at q'; cases q'
   obtain ⟨v,hv⟩:=heo
   exact ⟨v,by rw [hbe]; exact hv⟩
  ·refine (ok b u q).stay (fun c v hc r=>k c v ?_ r) (fun c r=>by rw [upd_ne (nown c b r)]; exact r) (fun c xs r=>by rw [upd_ne (ntup c xs r)]; exact r) fun c o u r=>by rw [upd_ne (nfrz c o u r)]; exact r
   rcases hc with rfl | hc
   ·exact hbe
   ·rintro rfl
    rcases he with z | z
    ·exact nown c b hc z
    ·rw [hc] at z; cases z; exact hb rfl
end
structure Un (fs ex:List Addr) (H H':Hp) (h h':Heap):Prop where
 keep: ∀ b o,h.get? b=some o->H b=none->b ∉ fs->b ∉ ex->h'.get? b=some o
 slot: ∀ b o,h.get? b=some o->H b=none->b ∈ fs->b ∉ ex-> ∃ sl,h'.get? b=some { o with slots:=sl }
 free: ∀ b o,h.get? b=some o->H b=none->b ∉ ex->H' b=none
 there: ∀ b o,h.get? b=some o->b ∉ ex-> ∃ o',h'.get? b=some o'
 tups: ∀ b xs,H b=some (.tup xs)->H' b=some (.tup xs)
 frzs: ∀ b o u,H b=some (.frz o u)->H' b=some (.frz o u)
 tbls: ∀ b q,H b=some (.tbl q)->H' b=some (.tbl q)
section
variable {fs fs' ex ex':List Addr} {H H1 H2:Hp} {h h1 h2 h':Heap} {a x e:Addr} {o:HO}
theorem Un.any (u:Un fs ex H H1 h h1) {b:Addr} {ob:Obj} (q:h.get? b=some ob) (n:H b=none) (hx:b ∉ ex): ∃ sl,h1.get? b=some { ob with slots:=sl }:=by
 by_cases hb:b ∈ fs
 ·exact u.slot b ob q n hb hx
 ·exact ⟨ob.slots,u.keep b ob q n hb hx⟩
theorem Un.trans (a:Un fs ex H H1 h h1) (b:Un fs ex H1 H2 h1 h2):Un fs ex H H2 h h2 where
 keep:=fun c ob q n hc hx=>b.keep c ob (a.keep c ob q n hc hx) (a.free c ob q n hx) hc hx
 slot:=fun c ob q n hc hx=>by
  obtain ⟨sl,e1⟩:=a.slot c ob q n hc hx
  obtain ⟨sl',e2⟩:=b.slot c _ e1 (a.free c ob q n hx) hc hx
  exact ⟨sl',e2⟩
 free:=fun c ob q n hx=>by
  obtain ⟨o',e1⟩:=a.there c ob q hx
  exact b.free c o' e1 (a.free c ob q n hx) hx
 there:=fun c ob q hx=>by
  obtain ⟨o',e1⟩:=a.there c ob q hx
  exact b.there c o' e1 hx
 tups:=fun c xs q=>b.tups c xs (a.tups c xs q)
 frzs:=fun c ob xs q=>b.frzs c ob xs (a.frzs c ob xs q)
 tbls:=fun c ps q=>b.tbls c ps (a.tbls c ps q)
theorem Un.kept (k: ∀ b u,h.get? b=some u->h'.get? b=some u):Un fs ex H H h h' :=
 ⟨fun b ob q _ _ _=>k b ob q,fun b ob q _ _ _=>⟨ob.slots,k b ob q⟩,fun _ _ _ n _=>n,fun b ob q _=>⟨ob,k b ob q⟩,fun _ _ q=>q,fun _ _ _ q=>q,fun _ _ q=>q⟩
theorem Un.refl:Un fs ex H H h h:=Un.kept fun _ _ q=>q
theorem Un.laid (k: ∀ b u,h.get? b=some u->h'.get? b=some u) (hp:h.objs.size<=a) (hn:H a=none):Un fs ex H (upd H a o) h h' where
 keep:=fun b u q _ _ _=>k b u q
 slot:=fun b u q _ _ _=>⟨u.slots,k b u q⟩
 free:=fun b u q n _=>by rw [upd_ne (Nat.ne_of_lt (Nat.lt_of_lt_of_le (Heap.lt_size q) hp))]; exact n
 there:=fun b u q _=>⟨u,k b u q⟩
 tups:=fun b xs q=>by rw [upd_ne (ne_of_none q hn)]; exact q
 frzs:=fun b u xs q=>by rw [upd_ne (ne_of_none q hn)]; exact q
 tbls:=fun b ps q=>by rw [upd_ne (ne_of_none q hn)]; exact q
theorem Un.write (mu:Mut (H x)) (he:e=x\/H e=some (.own x)) (k: ∀ b u,b ≠ e->h.get? b=some u->h'.get? b=some u) (heo: ∃ u,h'.get? e=some u):Un fs ex H (upd H x o) h h':=by
 have hx: ∀ b,H b=none->b ≠ x:=fun b n z=>by subst z; rw [n] at mu; exact mu
 have hb: ∀ b,H b=none->b ≠ e:=fun b n z=>by
  subst z
  rcases he with r | r
  ·exact hx b n r
  ·rw [n] at r; cases r
 have hm: ∀ b u,H b=some u-> ¬ Mut (some u)->b ≠ x:=fun b u q nm z=>by subst z; rw [q] at mu; exact nm mu
 refine ⟨fun b u q n _ _=>k b u (hb b n) q,fun b u q n _ _=>⟨u.slots,k b u (hb b n) q⟩,fun b u q n _=>by rw [upd_ne (hx b n)]; exact n,fun b u q _=> ?_,
  fun b xs q=>by rw [upd_ne (hm b _ q fun z=>z)]; exact q,fun b u xs q=>by rw [upd_ne (hm b _ q fun z=>z)]; exact q,fun b ps q=>by rw [upd_ne (hm b _ q fun z=>z)]; exact q⟩
 by_cases hbe:b=e
 ·subst hbe; exact heo
 ·exact ⟨u,k b u hbe q⟩
theorem Un.mono (u:Un fs ex H H1 h h1) (hs: ∀ b ∈ fs,b ∈ fs') (hx: ∀ b ∈ ex,b ∈ ex'):Un fs' ex' H H1 h h1 :=
 ⟨fun b ob q n hb he=>u.keep b ob q n (fun z=>hb (hs b z)) fun z=>he (hx b z),fun _ _ q n _ he=>u.any q n fun z=>he (hx _ z),fun b ob q n he=>u.free b ob q n fun z=>he (hx b z),fun b ob q he=>u.there b ob q fun z=>he (hx b z),u.tups,u.frzs,u.tbls⟩
end
def trk (h:Heap) (H:Hp):List Addr:=(List.range h.objs.size).filter fun a=>(H a).isSome
def hidT (h:Heap) (H:Hp):Heap:=PySem.W.hideAll h (trk h H)
theorem hidT_size (h:Heap) (H:Hp):(hidT h H).objs.size=h.objs.size:=PySem.W.hideAll_size _ _
theorem hidT_get {h:Heap} {H:Hp} {b:Addr} {o:Obj} (e:h.get? b=some o) (n:H b=none):(hidT h H).get? b=some o :=
 PySem.W.hideAll_get _ e fun hm=>by
  have q:(H b).isSome=true:=(List.mem_filter.mp hm).2
  rw [n] at q; simp at q
theorem of_hidT {h:Heap} {H:Hp} {b:Addr} {o:Obj} (e:(hidT h H).get? b=some o):h.get? b=some o/\H b=none:=by
 have e':h.get? b=some o:=PySem.W.of_hideAll (trk h H) e
 refine ⟨e',?_⟩
 cases q:H b with
 | none=>rfl
 | some x =>
  have hm:b ∈ trk h H:=List.mem_filter.mpr ⟨List.mem_range.mpr (Heap.lt_size e'),by simp [q]⟩
  have z:(hidT h H).get? b=none:=PySem.W.hideAll_none (trk h H) hm
  rw [z] at e; cases e
def allNews (g h:Heap) (L:Addr):List (Addr × Obj):=(List.range h.objs.size).filterMap fun a=>if a=L\/(g.get? a).isSome=true then none else (h.get? a).map fun o=>(a,o)
def rest (g h:Heap) (L d:Addr):List (Addr × Obj):=(allNews g h L).filter fun p=>decide (p.1 ≠ d)
structure Bs extends Heap where
 tabs:List Addr
instance:Coe Bs Heap:=⟨Bs.toHeap⟩
structure Mod (K:Fg) (mg:Str->Option Value) (base:Bs):Prop where
 kin:K.In base
 glob:base.Ns mainGlobals mg
 blt: ∃ mb,base.Ns builtinsNs mb/\ ∀ x:Str,x ≠ "__name__"->mb x=bootBuiltins x
 nolimit:base.NoLimit
 bmain: ∃ bm ob,mg "__builtins__"=some (.ref bm)/\bm ≠ builtinsNs/\base.get? bm=some ob/\ob.cls= .type "module"/\ob.dict=some builtinsNs/\ob.data= .plain
structure Cx where
 prog:Program
 w:World
 K:PySem.W.Frag
 mg:Str->Option Value
 base:Bs
 A:Around
 N:List Str
 s₀:Shared
 H₀:Hp
 env:Env
 outer:List Env
 stack:List Env
 ex:List Addr
 fn:Str->Bool
 cw:Str->Bool
 calm:Bool
 pn:List (Addr × Obj)
 xe:Value->Shared->Prop
def frs (l:List Env):List Addr:=l.filterMap (·.frame)
abbrev Cx.fs (X:Cx):List Addr:=frs X.outer
def Vis (sc:Scope) (x:Str):Prop:=sc.names.lookup x=some .local\/sc.names.lookup x=some .cell\/sc.names.lookup x=some .free
def Loc (sc:Scope) (x:Str):Prop:=sc.names.lookup x=some .local\/sc.names.lookup x=some .cell
def Look (env:Env) (h:Heap) (m:Str->Option Value) (x:Str) (u:Value):Prop :=
 (env.kindOf x=some .local/\m x=some u)\/((env.kindOf x=some .cell\/env.kindOf x=some .free)/\ ∃ c,env.cells.lookup x=some c/\h.IsCell c (some u))
structure Cx.Ok (X:Cx):Prop where
 mod:Mod X.K X.mg X.base
 kind:X.env.scope.kind= .function
 glob:X.env.globals=mainGlobals
 blt:X.env.builtins=builtinsNs
 above:X.s₀.heap.objs.size<=X.env.locals
 inj: ∀ x y c,X.env.cells.lookup x=some c->X.env.cells.lookup y=some c->x=y
 has: ∀ x,(X.env.kindOf x=some .cell\/X.env.kindOf x=some .free)-> ∃ c,X.env.cells.lookup x=some c
 cab: ∀ x c,X.cw x=true->X.env.cells.lookup x=some c->X.s₀.heap.objs.size<=c
 hd:X.calm=true->X.A.handled=none
 frames:X.A.frames=some X.stack
 stk:X.stack=X.outer\/(X.stack=X.env :: X.outer/\X.env.frame=some X.env.locals)
 exf: ∀ b ∈ X.ex,b ≠ X.env.locals/\ ∀ x c,X.env.cells.lookup x=some c->c ≠ b
 bs: ∀ b o,X.base.get? b=some o->X.s₀.heap.get? b=some o/\X.H₀ b=none
 bsz:X.base.objs.size<=X.s₀.heap.objs.size
 noex: ∀ b o,X.base.get? b=some o->b ∉ X.ex
 exfs: ∀ b ∈ X.ex,b ∉ X.fs
 funs:X.s₀.heap.FunFrames X.base X.outer
 frf: ∀ b ∈ X.fs,X.H₀ b=none
 tab: ∀ P ∈ X.base.tabs,X.H₀ P=some (.tbl 0)
 fc: ∀ x,X.fn x=true->X.cw x=true
structure Inv (X:Cx) (pins:List (Addr × Obj)) (σ :List (Option V)) (H:Hp) (s:Shared):Prop where
 ok:X.Ok
 os:s.os=X.s₀.os
 bare:AllBare s.gens
 base:Un X.fs X.ex X.H₀ H X.s₀.heap s.heap
 loc: ∃ m,s.heap.Ns X.env.locals m/\ ∀ (i:Nat) (x:Str) (v:V),X.N[i]? =some x-> σ[i]? =some (some v)->Vis X.env.scope x-> ∃ u,RelV v u/\Look X.env s.heap m x u
 cell: ∀ x c,X.env.cells.lookup x=some c-> ∃ v,s.heap.IsCell c v
 free:H X.env.locals=none
 freeC: ∀ x c,X.env.cells.lookup x=some c->H c=none\/(X.fn x=false/\ ∃ o u,H c=some (.frz o u))
 pin: ∀ p ∈ X.pn ++ pins,s.heap.get? p.1=some p.2/\H p.1=none/\p.1 ≠ X.env.locals/\p.1 ∉ X.fs/\ ∀ v,p.2.data ≠ .cell v
 hok:HOk X.prog X.w H s.heap
 len: σ.length=X.N.length
section
variable {X:Cx} {pins:List (Addr × Obj)} {σ :List (Option V)} {H H':Hp} {s:Shared} {h':Heap}
theorem Cx.Ok.nofr (ok:X.Ok) {b:Addr} {o:Obj} (e:X.base.get? b=some o):b ∉ X.fs:=fun hb=>by
 have:=(ok.funs.mem hb).1
 rw [e] at this; cases this
theorem Inv.bs (I:Inv X pins σ H s): ∀ b o,X.base.get? b=some o->s.heap.get? b=some o/\H b=none:=fun b o e =>
 ⟨I.base.keep b o (I.ok.bs b o e).1 (I.ok.bs b o e).2 (I.ok.nofr e) (I.ok.noex b o e),I.base.free b o (I.ok.bs b o e).1 (I.ok.bs b o e).2 (I.ok.noex b o e)⟩
theorem Inv.bk (I:Inv X pins σ H s): ∀ b o,X.base.get? b=some o->s.heap.get? b=some o:=fun b o e=>(I.bs b o e).1
theorem Inv.mod (I:Inv X pins σ H s):Mod X.K X.mg X.base:=I.ok.mod
theorem Inv.kIn (I:Inv X pins σ H s):X.K.In s.heap:=I.ok.mod.kin.keeps I.bk
theorem Inv.nolimit (I:Inv X pins σ H s):s.heap.NoLimit:=I.ok.mod.nolimit.keeps I.bk
theorem Inv.fr (I:Inv X pins σ H s): ∃ m,Fr X.base X.env.locals s.heap m :=
 let ⟨m,hn,_⟩:=I.loc
 ⟨m,hn,I.bk,Nat.le_trans I.ok.bsz I.ok.above⟩
theorem Inv.lt (I:Inv X pins σ H s):X.env.locals < s.heap.objs.size:=let ⟨_,hn,_⟩:=I.loc; hn.lt
theorem Inv.sz (I:Inv X pins σ H s):X.s₀.heap.objs.size<=s.heap.objs.size:=Nat.le_trans I.ok.above (Nat.le_of_lt I.lt)
theorem Inv.nofs (I:Inv X pins σ H s) {a:Addr} (h:s.heap.objs.size<=a):a ∉ X.fs:=fun hb=>by
 obtain ⟨_,o,ho,_⟩:=I.ok.funs.mem hb
 exact absurd (Nat.lt_of_lt_of_le (Heap.lt_size ho) (Nat.le_trans I.sz h)) (Nat.lt_irrefl _)
theorem Inv.cne (I:Inv X pins σ H s): ∀ x c,X.env.cells.lookup x=some c->c ≠ X.env.locals:=fun x c e z=>by
 obtain ⟨v,o,ho,hd⟩:=I.cell x c e
 obtain ⟨m,⟨o',es,ep,ho',hd',_⟩,_⟩:=I.loc
 rw [z,ho'] at ho; cases ho; rw [hd'] at hd; cases hd
theorem Inv.funs (I:Inv X pins σ H s):s.heap.FunFrames X.base X.outer:=by
 have all: ∀ (l:List Env),(∀ b ∈ frs l,b ∈ X.fs)->X.s₀.heap.FunFrames X.base l->s.heap.FunFrames X.base l:=by
  intro l
  induction l with
  | nil=>intro _ _; trivial
  | cons env r ih =>
   intro hs hl
   obtain ⟨hk,⟨L,o,hf,hn,ho,hd⟩,hr⟩:=hl
   have hL:L ∈ X.fs:=hs L (by unfold frs; rw [List.filterMap_cons,hf]; exact List.mem_cons_self)
   obtain ⟨sl,e⟩:=I.base.slot L o ho (I.ok.frf L hL) hL fun z=>I.ok.exfs L z hL
   exact ⟨hk,⟨L,_,hf,hn,e,hd⟩,ih (fun b hb=>hs b (by unfold frs; rw [List.filterMap_cons,hf]; exact List.mem_cons_of_mem _ hb)) hr⟩
 exact all X.outer (fun _ hb=>hb) I.ok.funs
theorem Inv.stack (I:Inv X pins σ H s):s.heap.FunFrames X.base X.stack:=by
 rcases I.ok.stk with e | ⟨e,hf⟩
 ·rw [e]; exact I.funs
 ·rw [e]
  obtain ⟨m,hn,_⟩:=I.loc
  refine .cons (by rw [I.ok.kind]; decide) hf hn ?_ I.funs
  exact Heap.get?_none_of_le (Nat.le_trans I.ok.bsz I.ok.above)
theorem Inv.stkSub (I:Inv X pins σ H s): ∀ b ∈ frs X.stack,b ∈ X.env.locals :: X.fs:=fun b hb=>by
 rcases I.ok.stk with e | ⟨e,hf⟩
 ·rw [e] at hb; exact List.mem_cons_of_mem _ hb
 ·rw [e] at hb
  unfold frs at hb
  rw [List.filterMap_cons,hf] at hb
  exact hb
theorem Inv.stkFree (I:Inv X pins σ H s): ∀ b ∈ frs X.stack,H b=none:=fun b hb=>by
 rcases List.mem_cons.mp (I.stkSub b hb) with e | hb
 ·rw [e]; exact I.free
 ·obtain ⟨_,o,ho,_⟩:=I.ok.funs.mem hb
  exact I.base.free b o ho (I.ok.frf b hb) fun z=>I.ok.exfs b z hb
theorem Inv.step {g':Array GenState} {t':Nat} {d':Drawn} {ch:List Addr} (I:Inv X pins σ H s)
  (hch: ∀ b ∈ ch,(b ∈ X.ex\/X.s₀.heap.objs.size<=b)/\b ≠ X.env.locals/\(∀ x c,X.env.cells.lookup x=some c->c ≠ b)/\ ∀ p ∈ X.pn ++ pins,p.1 ≠ b)
  (keep: ∀ b o,b ≠ X.env.locals->b ∉ X.fs->b ∉ ch->s.heap.get? b=some o->H b=none->h'.get? b=some o)
  (slot: ∀ b o,b ≠ X.env.locals->b ∈ X.fs->b ∉ ch->s.heap.get? b=some o->H b=none-> ∃ sl,h'.get? b=some { o with slots:=sl }) (free: ∀ b o,b ∉ ch->s.heap.get? b=some o->H b=none->H' b=none)
  (there: ∀ b o,b ∉ ch->s.heap.get? b=some o-> ∃ o',h'.get? b=some o')
  (tups: ∀ b xs,H b=some (.tup xs)->H' b=some (.tup xs)) (frzs: ∀ b o u,H b=some (.frz o u)->H' b=some (.frz o u)) (tbls: ∀ b q,H b=some (.tbl q)->H' b=some (.tbl q))
  (ns: ∀ m,s.heap.Ns X.env.locals m->h'.Ns X.env.locals m) (hok:HOk X.prog X.w H' h') (hg:AllBare g') :
  Inv X pins σ H' { s with heap:=h',gens:=g',drawn:=d',toks:=t' }:=by
 have neL: ∀ b o,X.s₀.heap.get? b=some o->b ≠ X.env.locals:=fun b o e=>Nat.ne_of_lt (Nat.lt_of_lt_of_le (Heap.lt_size e) I.ok.above)
 have neC: ∀ b o,X.s₀.heap.get? b=some o->b ∉ X.ex->b ∉ ch:=fun b o e hx hb=>by
  rcases (hch b hb).1 with z | z
  ·exact hx z
  ·exact absurd (Nat.lt_of_lt_of_le (Heap.lt_size e) z) (Nat.lt_irrefl _)
 have cellK: ∀ x c,X.env.cells.lookup x=some c-> ∀ v,s.heap.IsCell c v->h'.IsCell c v:=fun x c e v ⟨o,ho,hd⟩=>by
  have nch:c ∉ ch:=fun z=>(hch c z).2.2.1 x c e rfl
  rcases I.freeC x c e with fc | ⟨_,ob,u,fc⟩
  ·by_cases hc:c ∈ X.fs
   ·obtain ⟨sl,q⟩:=slot c o (I.cne x c e) hc nch ho fc
    exact ⟨_,q,hd⟩
   ·exact ⟨o,keep c o (I.cne x c e) hc nch ho fc,hd⟩
  ·obtain ⟨e1,_⟩:=I.hok c _ fc
   obtain ⟨e2,_⟩:=hok c _ (frzs c ob u fc)
   rw [e1] at ho; cases ho
   exact ⟨_,e2,hd⟩
 refine ⟨I.ok,I.os,hg,⟨fun b o e n hb hx=> ?_,fun b o e n hb hx=> ?_,fun b o e n hx=> ?_,fun b o e hx=> ?_,fun b xs e=>tups b xs (I.base.tups b xs e),fun b o xs e=>frzs b o xs (I.base.frzs b o xs e),fun b ps e=> ?_⟩,?_,fun x c e=> ?_,?_,fun x c e=> ?_,fun p hp=> ?_,hok,I.len⟩
 ·exact keep b o (neL b o e) hb (neC b o e hx) (I.base.keep b o e n hb hx) (I.base.free b o e n hx)
 ·obtain ⟨sl,e1⟩:=I.base.slot b o e n hb hx
  obtain ⟨sl',e2⟩:=slot b _ (neL b o e) hb (neC b o e hx) e1 (I.base.free b o e n hx)
  exact ⟨sl',e2⟩
 ·obtain ⟨o',e1⟩:=I.base.there b o e hx
  exact free b o' (neC b o e hx) e1 (I.base.free b o e n hx)
 ·obtain ⟨o',e1⟩:=I.base.there b o e hx
  exact there b o' (neC b o e hx) e1
 ·exact tbls b ps (I.base.tbls b ps e)
 ·obtain ⟨m,hn,hl⟩:=I.loc
  refine ⟨m,ns m hn,fun i x v e1 e2 e3=> ?_⟩
  obtain ⟨u,r,l⟩:=hl i x v e1 e2 e3
  refine ⟨u,r,?_⟩
  rcases l with l | ⟨k,c,e,z⟩
  ·exact .inl l
  ·exact .inr ⟨k,c,e,cellK x c e _ z⟩
 ·obtain ⟨v,z⟩:=I.cell x c e
  exact ⟨v,cellK x c e v z⟩
 ·obtain ⟨m,⟨o,_,_,ho,_⟩,_⟩:=I.loc
  exact free _ o (fun z=>(hch _ z).2.1 rfl) ho I.free
 ·obtain ⟨v,o,ho,hd⟩:=I.cell x c e
  rcases I.freeC x c e with fc | ⟨f,ob,u,fc⟩
  ·exact .inl (free c o (fun z=>(hch c z).2.2.1 x c e rfl) ho fc)
  ·exact .inr ⟨f,ob,u,frzs c ob u fc⟩
 ·obtain ⟨e,n,ne,nf,d⟩:=I.pin p hp
  have nch:p.1 ∉ ch:=fun z=>(hch p.1 z).2.2.2 p hp rfl
  exact ⟨keep p.1 p.2 ne nf nch e n,free p.1 p.2 nch e n,ne,nf,d⟩
theorem Inv.un {t':Nat} (I:Inv X pins σ H s) (u:Un X.fs [] H H' s.heap h') (hok:HOk X.prog X.w H' h'):Inv X pins σ H' { s with heap:=h',toks:=t' }:=by
 obtain ⟨m,⟨o,es,ep,ho,r⟩,_⟩:=id I.loc
 obtain ⟨sl,hL⟩:=u.any ho I.free (by simp)
 exact I.step (g':=s.gens) (d':=s.drawn) (ch:=[]) (fun _ z=>nomatch z) (fun b o _ hb _ e n=>u.keep b o e n hb (by simp)) (fun b o _ hb _ e n=>u.slot b o e n hb (by simp)) (fun b o _ e n=>u.free b o e n (by simp)) (fun b o _ e=>u.there b o e (by simp)) u.tups u.frzs u.tbls (fun m' hm=>by
  obtain ⟨o',es',ep',ho',r'⟩:=hm
  rw [ho] at ho'; cases ho'
  exact ⟨_,es',ep',hL,r'⟩) hok I.bare
theorem Inv.call {g':Array GenState} {t':Nat} {d':Drawn} {ch:List Addr} (I:Inv X pins σ H s) (u:Un (frs X.stack) ch H H' s.heap h') (hok:HOk X.prog X.w H' h') (hg:AllBare g')
  (hch: ∀ b ∈ ch,(b ∈ X.ex\/X.s₀.heap.objs.size<=b)/\b ≠ X.env.locals/\(∀ x c,X.env.cells.lookup x=some c->c ≠ b)/\ ∀ p ∈ X.pn ++ pins,p.1 ≠ b) :
  Inv X pins σ H' { s with heap:=h',gens:=g',drawn:=d',toks:=t' }:=by
 obtain ⟨m,⟨o,es,ep,ho,r⟩,_⟩:=id I.loc
 obtain ⟨sl,hL⟩:=u.any ho I.free fun z=>(hch _ z).2.1 rfl
 exact I.step (ch:=ch) hch (fun b o hL hb hc e n=>u.keep b o e n (fun z=>(List.mem_cons.mp (I.stkSub b z)).elim hL hb) hc) (fun b o _ _ hc e n=>u.any e n hc) (fun b o hc e n=>u.free b o e n hc) (fun b o hc e=>u.there b o e hc) u.tups u.frzs u.tbls (fun m' hm=>by
  obtain ⟨o',es',ep',ho',r'⟩:=hm
  rw [ho] at ho'; cases ho'
  exact ⟨_,es',ep',hL,r'⟩) hok hg
theorem Inv.turned {t':Nat} {it:Addr} (I:Inv X pins σ H s) (k: ∀ b o,b ≠ it->s.heap.get? b=some o->h'.get? b=some o) (hn:H it=none) (hL:it ≠ X.env.locals)
  (h1:it ∈ X.ex\/X.s₀.heap.objs.size<=it) (h2: ∀ x c,X.env.cells.lookup x=some c->c ≠ it) (h3: ∀ p ∈ X.pn ++ pins,p.1 ≠ it):Inv X pins σ H { s with heap:=h',toks:=t' }:=by
 have nit: ∀ b u,H b=some u->b ≠ it:=fun b u e z=>by rw [z,hn] at e; cases e
 refine I.step (g':=s.gens) (d':=s.drawn) (ch:=[it]) (fun b hb=> ?_) (fun b o _ _ hc e _=>k b o (fun z=>hc (by simp [z])) e) (fun b o _ _ hc e _=>⟨o.slots,k b o (fun z=>hc (by simp [z])) e⟩) (fun _ _ _ _ n=>n)
  (fun b o hc e=>⟨o,k b o (fun z=>hc (by simp [z])) e⟩) (fun _ _ e=>e) (fun _ _ _ e=>e) (fun _ _ e=>e) (fun m hm=> ?_) (fun b u e=> ?_) I.bare
 ·have e:b=it:=by simpa using hb
  subst e
  exact ⟨h1,hL,h2,h3⟩
 ·obtain ⟨o,es,ep,ho,r⟩:=hm
  exact ⟨o,es,ep,k _ o (Ne.symm hL) ho,r⟩
 ·refine (I.hok b u e).stay (fun c v hc q=>k c v ?_ q) (fun _ q=>q) (fun _ _ q=>q) fun _ _ _ q=>q
  rcases hc with z | z
  ·rw [z]; exact nit b u e
  ·exact nit c _ z
theorem Inv.tok (I:Inv X pins σ H s) (t:Nat):Inv X pins σ H { s with toks:=t }:=I.un (h':=s.heap) (t':=t) Un.refl I.hok
theorem Inv.kept {t':Nat} (I:Inv X pins σ H s) (k: ∀ b u,s.heap.get? b=some u->h'.get? b=some u):Inv X pins σ H { s with heap:=h',toks:=t' }:=I.un (Un.kept k) (I.hok.kept k)
theorem Inv.laid {a:Addr} {o:HO} {t':Nat} (I:Inv X pins σ H s) (k: ∀ b u,s.heap.get? b=some u->h'.get? b=some u) (hp:s.heap.objs.size<=a) (new:ObjOk X.prog X.w (upd H a o) h' a o) :
  Inv X pins σ (upd H a o) { s with heap:=h',toks:=t' }:=I.un (Un.laid k hp (I.hok.fresh hp)) (I.hok.laid k hp new)
theorem Inv.write {x e:Addr} {o:HO} {t':Nat} (I:Inv X pins σ H s) (mu:Mut (H x)) (he:e=x\/H e=some (.own x)) (k: ∀ b u,b ≠ e->s.heap.get? b=some u->h'.get? b=some u) (heo: ∃ u,h'.get? e=some u)
  (new:ObjOk X.prog X.w (upd H x o) h' x o):Inv X pins σ (upd H x o) { s with heap:=h',toks:=t' }:=I.un (Un.write mu he k heo) (I.hok.write mu he k heo new)
theorem Inv.weak {σ':List (Option V)} (I:Inv X pins σ H s) (hl: σ'.length= σ.length) (w: ∀ (i:Nat) v, σ'[i]? =some (some v)-> σ[i]? =some (some v)):Inv X pins σ' H s :=
 ⟨I.ok,I.os,I.bare,I.base,let ⟨m,hn,hl'⟩:=I.loc; ⟨m,hn,fun i x v e1 e2 e3=>hl' i x v e1 (w i v e2) e3⟩,I.cell,I.free,I.freeC,I.pin,I.hok,hl.trans I.len⟩
theorem Inv.pins_of {pins':List (Addr × Obj)} (I:Inv X pins σ H s) (h: ∀ p ∈ pins',s.heap.get? p.1=some p.2/\H p.1=none/\p.1 ≠ X.env.locals/\p.1 ∉ X.fs/\ ∀ v,p.2.data ≠ .cell v):Inv X pins' σ H s :=
 ⟨I.ok,I.os,I.bare,I.base,I.loc,I.cell,I.free,I.freeC,fun p hp=>(List.mem_append.mp hp).elim (fun z=>I.pin p (List.mem_append_left _ z)) (h p),I.hok,I.len⟩
theorem nodup_ix {N:List Str} (hN:N.Nodup) {i j:Nat} {x:Str} (a:N[i]? =some x) (b:N[j]? =some x):i=j:=by
 obtain ⟨h1,e1⟩:=List.getElem?_eq_some_iff.mp a
 obtain ⟨h2,e2⟩:=List.getElem?_eq_some_iff.mp b
 exact (List.getElem_inj hN).mp (e1.trans e2.symm)
theorem store_ok2 {M:Model} {A:Around} {E:Value->Shared->Prop} {i:Nat} {x:Str} {v:V} {u:Value} {Q:Unit->Shared->Prop} (I:Inv X pins σ H s) (hN:X.N.Nodup) (hi:X.N[i]? =some x) (hx:Loc X.env.scope x) (r:RelV v u)
  (h: ∀ s',Inv X pins (σ.set i (some v)) H s'->(∃ a,Heap.SameBut a s.heap s'.heap/\(a=X.env.locals\/X.env.cells.lookup x=some a))->Q () s') (hf:X.fn x=true\/X.env.scope.names.lookup x=some .local:=by first | exact .inl rfl | exact .inr rfl | assumption):wpAny M A (storeName X.env x u) Q E s:=by
 obtain ⟨m,hn,hl⟩:=id I.loc
 have hcls:(X.env.scope.kind == .class || (X.env.scope.kind == .module && X.env.locals != X.env.globals))=false:=by rw [I.ok.kind]; rfl
 have hiσ :i < σ.length:=by rw [I.len]; exact (List.getElem?_eq_some_iff.mp hi).1
 have cne:=I.cne
 have tracked: ∀ {a:Addr} {h':Heap},(∃ o,s.heap.get? a=some o/\H a=none)->Heap.SameBut a s.heap h'->HOk X.prog X.w H h':=fun {a h'} ha hs b ob e=>by
  obtain ⟨_,_,hfree⟩:=ha
  refine (I.hok b ob e).stay (fun c w' hc q=>(hs.2 c ?_).trans q) (fun _ q=>q) (fun _ _ q=>q) fun _ _ _ q=>q
  rintro rfl
  rcases hc with rfl | hc
  ·rw [hfree] at e; cases e
  ·rw [hfree] at hc; cases hc
 rcases hx with hk | hk
 ·refine wpAny_storeName_local hk hn (fun h' hn' hs=> ?_) hcls
  obtain ⟨oL,_,_,hoL,_⟩:=id hn
  refine h _ ⟨I.ok,I.os,I.bare,⟨fun b o e n hb hx=> ?_,fun b o e n hb hx=> ?_,I.base.free,fun b o e hx=> ?_,I.base.tups,I.base.frzs,I.base.tbls⟩,⟨_,hn',fun j y v' e1 e2 e3=> ?_⟩,fun y c e=> ?_,I.free,I.freeC,fun p hp=> ?_,tracked ⟨oL,hoL,I.free⟩ hs,by simpa using I.len⟩ ⟨_,hs,.inl rfl⟩
  ·exact (hs.2 b (Nat.ne_of_lt (Nat.lt_of_lt_of_le (Heap.lt_size e) I.ok.above))).trans (I.base.keep b o e n hb hx)
  ·obtain ⟨sl,e1⟩:=I.base.slot b o e n hb hx
   exact ⟨sl,(hs.2 b (Nat.ne_of_lt (Nat.lt_of_lt_of_le (Heap.lt_size e) I.ok.above))).trans e1⟩
  ·obtain ⟨o',e1⟩:=I.base.there b o e hx
   exact ⟨o',(hs.2 b (Nat.ne_of_lt (Nat.lt_of_lt_of_le (Heap.lt_size e) I.ok.above))).trans e1⟩
  ·by_cases hj:j=i
   ·subst hj
    rw [hi] at e1; cases e1
    rw [List.getElem?_set_self hiσ] at e2
    cases e2
    exact ⟨u,r,.inl ⟨hk,by simp⟩⟩
   ·rw [List.getElem?_set_ne (Ne.symm hj)] at e2
    obtain ⟨u',r',q⟩:=hl j y v' e1 e2 e3
    refine ⟨u',r',?_⟩
    rcases q with ⟨k,e⟩ | ⟨k,c,e,z⟩
    ·refine .inl ⟨k,?_⟩
     have:y ≠ x:=fun e=>hj (nodup_ix hN e1 (e ▸ hi))
     simp [this,e]
    ·exact .inr ⟨k,c,e,z.sameBut hs (cne y c e)⟩
  ·obtain ⟨w',z⟩:=I.cell y c e
   exact ⟨w',z.sameBut hs (cne y c e)⟩
  ·obtain ⟨e,n,ne,nf,d⟩:=I.pin p hp
   exact ⟨(hs.2 p.1 ne).trans e,n,ne,nf,d⟩
 ·have hfn:X.fn x=true:=by
   rcases hf with z | z
   ·exact z
   ·rw [z] at hk; cases hk
  obtain ⟨c,hc⟩:=I.ok.has x (.inl hk)
  obtain ⟨w',z⟩:=I.cell x c hc
  refine wpAny_storeName_cell I.ok.kind hk hc z (fun h' hc' hs=> ?_)
  obtain ⟨oc,hoc,hocd⟩:=id z
  have hcf:H c=none:=by
   rcases I.freeC x c hc with q | ⟨q,_⟩
   ·exact q
   ·rw [hfn] at q; cases q
  refine h { s with heap:=h' } ⟨I.ok,I.os,I.bare,⟨fun b o e n hb hx=> ?_,fun b o e n hb hx=> ?_,I.base.free,fun b o e hx=> ?_,I.base.tups,I.base.frzs,I.base.tbls⟩,⟨m,hn.sameBut hs (Ne.symm (cne x c hc)),fun j y v' e1 e2 e3=> ?_⟩,fun y c' e=> ?_,I.free,I.freeC,fun p hp=> ?_,tracked ⟨oc,hoc,hcf⟩ hs,by simpa using I.len⟩ ⟨c,hs,.inr hc⟩
  ·exact (hs.2 b (Nat.ne_of_lt (Nat.lt_of_lt_of_le (Heap.lt_size e) (I.ok.cab x c (I.ok.fc x hfn) hc)))).trans (I.base.keep b o e n hb hx)
  ·obtain ⟨sl,e1⟩:=I.base.slot b o e n hb hx
   exact ⟨sl,(hs.2 b (Nat.ne_of_lt (Nat.lt_of_lt_of_le (Heap.lt_size e) (I.ok.cab x c (I.ok.fc x hfn) hc)))).trans e1⟩
  ·obtain ⟨o',e1⟩:=I.base.there b o e hx
   exact ⟨o',(hs.2 b (Nat.ne_of_lt (Nat.lt_of_lt_of_le (Heap.lt_size e) (I.ok.cab x c (I.ok.fc x hfn) hc)))).trans e1⟩
  ·by_cases hj:j=i
   ·subst hj
    rw [hi] at e1; cases e1
    rw [List.getElem?_set_self hiσ] at e2
    cases e2
    exact ⟨u,r,.inr ⟨.inl hk,c,hc,hc'⟩⟩
   ·rw [List.getElem?_set_ne (Ne.symm hj)] at e2
    obtain ⟨u',r',q⟩:=hl j y v' e1 e2 e3
    refine ⟨u',r',?_⟩
    rcases q with q | ⟨k,c',e,z'⟩
    ·exact .inl q
    ·refine .inr ⟨k,c',e,z'.sameBut hs ?_⟩
     rintro rfl
     exact hj (nodup_ix hN e1 (I.ok.inj _ _ _ e hc ▸ hi))
  ·by_cases hcc:c'=c
   ·subst hcc; exact ⟨_,hc'⟩
   ·obtain ⟨w2,z2⟩:=I.cell y c' e
    exact ⟨w2,z2.sameBut hs hcc⟩
  ·obtain ⟨e,n,ne,nf,d⟩:=I.pin p hp
   refine ⟨(hs.2 p.1 ?_).trans e,n,ne,nf,d⟩
   intro q
   rw [q,hoc] at e
   have q':oc=p.2:=Option.some.inj e
   exact d w' (by rw [<- q']; exact hocd)
theorem store_ok {M:Model} {A:Around} {E:Value->Shared->Prop} {i:Nat} {x:Str} {v:V} {u:Value} {Q:Unit->Shared->Prop} (I:Inv X pins σ H s) (hN:X.N.Nodup) (hi:X.N[i]? =some x) (hx:Loc X.env.scope x) (r:RelV v u)
  (h: ∀ s',Inv X pins (σ.set i (some v)) H s'->Q () s') (hf:X.fn x=true\/X.env.scope.names.lookup x=some .local:=by first | exact .inl rfl | exact .inr rfl | assumption):wpAny M A (storeName X.env x u) Q E s :=
 store_ok2 I hN hi hx r (fun s' I' _=>h s' I') hf
theorem Inv.call' {s':Shared} {ch:List Addr} (I:Inv X pins σ H s) (ho:s'.os=s.os) (u:Un (frs X.stack) ch H H' s.heap s'.heap) (hok:HOk X.prog X.w H' s'.heap) (hg:AllBare s'.gens)
  (hch: ∀ b ∈ ch,(b ∈ X.ex\/X.s₀.heap.objs.size<=b)/\b ≠ X.env.locals/\(∀ x c,X.env.cells.lookup x=some c->c ≠ b)/\ ∀ p ∈ X.pn ++ pins,p.1 ≠ b):Inv X pins σ H' s':=by
 obtain ⟨h',g',d',t',o'⟩:=s'
 have e:o'=s.os:=ho
 subst e
 exact I.call (g':=g') (t':=t') (d':=d') u hok hg hch
end
abbrev XK:=Value->Option Addr->Hp->Prop
abbrev St:=List (Option V)
abbrev VK:=V->Hp->Prop
abbrev TE:=St->Hp->VK->Prop
abbrev TT:=St->Hp->(Bool->Hp->Prop)->Prop
abbrev TA:=St->Hp->(List V->Hp->Prop)->Prop
structure Ends where
 nx:St->Hp->Prop
 rt:VK
 bk:St->Hp->Prop:=fun _ _=>False
 ct:St->Hp->Prop:=fun _ _=>False
abbrev TS:=Ends->St->Hp->Prop
structure Fin (X:Cx) (H:Hp) (s:Shared):Prop where
 os:s.os=X.s₀.os
 bare:AllBare s.gens
 base:Un X.fs X.ex X.H₀ H X.s₀.heap s.heap
 hok:HOk X.prog X.w H s.heap
 loc: ∃ m,s.heap.Ns X.env.locals m
 free:H X.env.locals=none
theorem Inv.fin {X:Cx} {pins:List (Addr × Obj)} {σ :St} {H:Hp} {s:Shared} (I:Inv X pins σ H s):Fin X H s:=⟨I.os,I.bare,I.base,I.hok,let ⟨m,h,_⟩:=I.loc; ⟨m,h⟩,I.free⟩
def EP (X:Cx) (pins:List (Addr × Obj)) (σ :St) (Q:VK) (u:Value) (s':Shared):Prop:= ∃ v H',Inv X pins σ H' s'/\RelV v u/\Q v H'
def TP (X:Cx) (pins:List (Addr × Obj)) (σ :St) (Q:Bool->Hp->Prop) (b:Bool) (s':Shared):Prop:= ∃ H',Inv X pins σ H' s'/\Q b H'
def AP (X:Cx) (pins:List (Addr × Obj)) (σ :St) (Q:List V->Hp->Prop) (us:List Value) (s':Shared):Prop:= ∃ vs H',Inv X pins σ H' s'/\Vals vs us/\Q vs H'
def SP (X:Cx) (pins:List (Addr × Obj)) (D:Ends) (f:Flow) (s':Shared):Prop :=
 match f with
 | .next=> ∃ σ' H',Inv X pins σ' H' s'/\D.nx σ' H'
 | .brk=> ∃ σ' H',Inv X pins σ' H' s'/\D.bk σ' H'
 | .cont=> ∃ σ' H',Inv X pins σ' H' s'/\D.ct σ' H'
 | .ret u=> ∃ v H',Fin X H' s'/\RelV v u/\D.rt v H'
def PE (X:Cx) (e:Expr) (t:TE):Prop :=
 ∀ (pins:List (Addr × Obj)) (s:Shared) (σ :St) (H:Hp) (Q:VK),Inv X pins σ H s->t σ H Q->wpAny (model X.prog X.w) X.A (eval e X.env) (EP X pins σ Q) X.xe s
def PT (X:Cx) (e:Expr) (t:TT):Prop :=
 ∀ (pins:List (Addr × Obj)) (s:Shared) (σ :St) (H:Hp) (Q:Bool->Hp->Prop),Inv X pins σ H s->t σ H Q->wpAny (model X.prog X.w) X.A (isTrue e X.env (eval e X.env)) (TP X pins σ Q) X.xe s
def PW (X:Cx) (e:Expr) (t:TT):Prop :=
 ∀ (whole:Sem Value) (pins:List (Addr × Obj)) (s:Shared) (σ :St) (H:Hp) (Q:Bool->Hp->Prop),Inv X pins σ H s->t σ H Q->wpAny (model X.prog X.w) X.A (isTrue e X.env whole) (TP X pins σ Q) X.xe s
theorem PW.pt {X:Cx} {e:Expr} {t:TT} (h:PW X e t):PT X e t:=h _
def PA (X:Cx) (es:List Expr) (t:TA):Prop :=
 ∀ (pos:Pos) (pins:List (Addr × Obj)) (s:Shared) (σ :St) (H:Hp) (Q:List V->Hp->Prop),Inv X pins σ H s->t σ H Q->wpAny (model X.prog X.w) X.A (spliced (backTo pos (starEach es X.env))) (AP X pins σ Q) X.xe s
def PS (X:Cx) (st:Stmt) (t:TS):Prop :=
 ∀ (pins:List (Addr × Obj)) (s:Shared) (σ :St) (H:Hp) (D:Ends),Inv X pins σ H s->t D σ H->wpAny (model X.prog X.w) X.A (exec st X.env) (SP X pins D) X.xe s
def PSs (X:Cx) (st:List Stmt) (t:TS):Prop :=
 ∀ (pins:List (Addr × Obj)) (s:Shared) (σ :St) (H:Hp) (D:Ends),Inv X pins σ H s->t D σ H->wpAny (model X.prog X.w) X.A (execs st X.env) (SP X pins D) X.xe s
theorem thn {α :Type} {t:Sem α} {Q Q': α ->Shared->Prop} {M:Model} {A:Around} {E:Value->Shared->Prop} {s:Shared} (h:wpAny M A t Q E s) (hQ: ∀ a s,Q a s->Q' a s):wpAny M A t Q' E s:=wpAny_mono h hQ fun _ _ x=>x
section
variable {X:Cx}
def tVar (i:Nat):TE:=fun σ H Q=> ∃ v, σ[i]? =some (some v)/\Q v H
def tC (v:V):TE:=fun _ H Q=>Q v H
theorem pe_var {i:Nat} {x:Str} {pos:Pos} (hN:X.N[i]? =some x) (hv:Vis X.env.scope x) (hd:(x == ("__debug__":Str))=false:=by decide) (hcd:(x == ("__classdict__":Str))=false:=by decide):PE X (.Name x pos) (tVar i):=by
 intro pins s σ H Q I h
 obtain ⟨v,e,h⟩:=h
 obtain ⟨m,hn,hl⟩:=I.loc
 obtain ⟨u,r,l⟩:=hl i x v hN e hv
 have fin:EP X pins σ Q u s:=⟨v,H,I,r,h⟩
 rcases l with ⟨hk,hm⟩ | ⟨hk,c,hc,hcell⟩
 ·exact wpAny_Name (wpAny_loadName_local I.ok.kind hk hn hm fin) hd
 ·rcases hk with hk | hk
  ·exact wpAny_Name (wpAny_loadName_cell I.ok.kind hk hc hcell fin) hd
  ·exact wpAny_Name (wpAny_loadName_free I.ok.kind hk hc hcell fin hcd) hd
theorem pe_int {i j pos}:PE X (.Constant (.int i) j pos) (tC (.int i)):=fun _ _ _ H _ I h=>wpAny_Constant_int ⟨.int i,H,I.tok _,⟨_,rfl⟩,h⟩
theorem pe_bl {b j pos}:PE X (.Constant (.bool b) j pos) (tC (.bl b)):=fun _ _ _ H _ I h=>Constant_bool ⟨.bl b,H,I,rfl,h⟩
theorem pe_non {j pos}:PE X (.Constant .none j pos) (tC .non):=fun _ _ _ H _ I h=>Constant_none ⟨.non,H,I,rfl,h⟩
theorem pe_str {x j pos}:PE X (.Constant (.str x) j pos) (tC (.str x)):=fun _ _ _ H _ I h=>Calls.Constant_str ⟨.str x,H,I.tok _,⟨_,rfl⟩,h⟩
def Gl (X:Cx) (x:Str):Prop:=X.env.kindOf x=some .globalImplicit
theorem ld_glob {E:Value->Shared->Prop} {pins:List (Addr × Obj)} {s:Shared} {σ :St} {H:Hp} {x:Str} {u:Value} {pos:Pos} {Q:Value->Shared->Prop} (I:Inv X pins σ H s) (hg:Gl X x) (hm:X.mg x=some u) (h:Q u s)
  (hd:(x == ("__debug__":Str))=false:=by decide):wpAny (model X.prog X.w) X.A (eval (.Name x pos) X.env) Q E s :=
 Calls.Name_function_global I.ok.kind hg (Calls.loadGlobal_global (by rw [I.ok.glob]; exact I.mod.glob.keeps I.bk) hm h) hd
theorem ld_blt {E:Value->Shared->Prop} {pins:List (Addr × Obj)} {s:Shared} {σ :St} {H:Hp} {x:Str} {u:Value} {pos:Pos} {Q:Value->Shared->Prop} (I:Inv X pins σ H s) (hg:Gl X x) (hm:X.mg x=none) (hv:bootBuiltins x=some u) (h:Q u s)
  (hn:x ≠ "__name__":=by decide) (hd:(x == ("__debug__":Str))=false:=by decide):wpAny (model X.prog X.w) X.A (eval (.Name x pos) X.env) Q E s:=by
 obtain ⟨mb,h1,h2⟩:=I.mod.blt
 exact Calls.Name_function_global I.ok.kind hg (Calls.loadGlobal_builtin (by rw [I.ok.glob]; exact I.mod.glob.keeps I.bk) hm (by rw [I.ok.blt]; exact h1.keeps I.bk) ((h2 x hn).trans hv) h) hd
theorem pe_glob {x:Str} {v:V} {u:Value} {pos:Pos} (hg:Gl X x) (hm:X.mg x=some u) (r:RelV v u) (hd:(x == ("__debug__":Str))=false:=by decide):PE X (.Name x pos) (tC v) :=
 fun _ _ _ H _ I h=>ld_glob I hg hm ⟨v,H,I,r,h⟩ hd
theorem pe_bltn {x:Str} {v:V} {u:Value} {pos:Pos} (hg:Gl X x) (hm:X.mg x=none) (hv:bootBuiltins x=some u) (r:RelV v u) (hn:x ≠ "__name__":=by decide) (hd:(x == ("__debug__":Str))=false:=by decide):PE X (.Name x pos) (tC v) :=
 fun _ _ _ H _ I h=>ld_blt I hg hm hv ⟨v,H,I,r,h⟩ hn hd
variable {a b:Expr} {ta tb:TE} {pos:Pos}
def tB (t:TE):TT:=fun σ H Q=>t σ H fun x H1=> ∃ c,x= .bl c/\Q c H1
theorem pt_val {e:Expr} {t:TE} (h:PE X e t) (he: ∀ whole,isTrue e X.env whole=(do let v <- whole; standAt e.pos; holding [v] (truthy v)):=by intro _; rfl):PT X e (tB t):=by
 intro pins s σ H Q I hw
 refine isTrue_plain (thn (h pins s σ H _ I hw) fun v s1 ⟨x,H1,I1,r1,q1⟩=> ?_) (he _)
 obtain ⟨d,rfl,q⟩:=q1
 cases r1
 exact wpAny_truthy_bool ⟨H1,I1,q⟩
variable {tA tB':TT} {rest:List Expr}
def tAnd (t u:TT):TT:=fun σ H Q=>t σ H fun c H1=>if c=true then u σ H1 Q else Q false H1
def tOr (t u:TT):TT:=fun σ H Q=>t σ H fun c H1=>if c=true then Q true H1 else u σ H1 Q
def tNot (t:TT):TT:=fun σ H Q=>t σ H fun c H1=>Q (!c) H1
theorem pw_and1 (ha:PT X a tA):PW X (.BoolOp .And [a] pos) tA:=by
 intro wh pins s σ H Q I h
 refine isTrue_and (thn (ha pins s σ H Q I h) fun c s1 e=> ?_)
 cases c with
 | true=>exact isTrue_and_nil e
 | false=>exact e
theorem pw_or1 (ha:PT X a tA):PW X (.BoolOp .Or [a] pos) tA:=by
 intro wh pins s σ H Q I h
 refine isTrue_or (thn (ha pins s σ H Q I h) fun c s1 e=> ?_)
 cases c with
 | false=>exact isTrue_or_nil e
 | true=>exact e
theorem pw_and (ha:PT X a tA) (hb:PW X (.BoolOp .And (b :: rest) pos) tB'):PW X (.BoolOp .And (a :: b :: rest) pos) (tAnd tA tB'):=by
 intro wh pins s σ H Q I h
 refine isTrue_and (thn (ha pins s σ H _ I h) fun c s1 ⟨H1,I1,q1⟩=> ?_)
 cases c with
 | true=>exact hb wh pins s1 σ H1 Q I1 q1
 | false=>exact ⟨H1,I1,q1⟩
theorem pw_or (ha:PT X a tA) (hb:PW X (.BoolOp .Or (b :: rest) pos) tB'):PW X (.BoolOp .Or (a :: b :: rest) pos) (tOr tA tB'):=by
 intro wh pins s σ H Q I h
 refine isTrue_or (thn (ha pins s σ H _ I h) fun c s1 ⟨H1,I1,q1⟩=> ?_)
 cases c with
 | true=>exact ⟨H1,I1,q1⟩
 | false=>exact hb wh pins s1 σ H1 Q I1 q1
theorem pt_not (ha:PT X a tA):PT X (.UnaryOp .Not a pos) (tNot tA):=by
 intro pins s σ H Q I h
 exact isTrue_not (ha pins s σ H (fun c H1=>Q (!c) H1) I h)
def tAndV (ta tb:TE):TE:=fun σ H Q=>ta σ H fun x H1=> ∃ c,x= .bl c/\if c=true then tb σ H1 Q else Q (.bl false) H1
def tOrV (ta tb:TE):TE:=fun σ H Q=>ta σ H fun x H1=> ∃ c,x= .bl c/\if c=true then Q (.bl true) H1 else tb σ H1 Q
def tNotV (ta:TE):TE:=fun σ H Q=>ta σ H fun x H1=> ∃ c,x= .bl c/\Q (.bl (!c)) H1
theorem pe_one {op} {t:TE} (h:PE X a t):PE X (.BoolOp op [a] pos) t:=fun pins s σ H Q I hw=>BoolOp_one (h pins s σ H Q I hw)
theorem pe_and (ha:PE X a ta) (hb:PE X (.BoolOp .And (b :: rest) pos) tb):PE X (.BoolOp .And (a :: b :: rest) pos) (tAndV ta tb):=by
 intro pins s σ H Q I h
 refine BoolOp_and (thn (ha pins s σ H _ I h) fun v s1 ⟨x,H1,I1,r1,q1⟩=> ?_)
 obtain ⟨c,rfl,q1⟩:=q1
 cases r1
 refine wpAny_truthy_bool ?_
 cases c with
 | true=>exact hb pins s1 σ H1 Q I1 q1
 | false=>exact ⟨.bl false,H1,I1,rfl,q1⟩
theorem pe_or (ha:PE X a ta) (hb:PE X (.BoolOp .Or (b :: rest) pos) tb):PE X (.BoolOp .Or (a :: b :: rest) pos) (tOrV ta tb):=by
 intro pins s σ H Q I h
 refine BoolOp_or (thn (ha pins s σ H _ I h) fun v s1 ⟨x,H1,I1,r1,q1⟩=> ?_)
 obtain ⟨c,rfl,q1⟩:=q1
 cases r1
 refine wpAny_truthy_bool ?_
 cases c with
 | false=>exact hb pins s1 σ H1 Q I1 q1
 | true=>exact ⟨.bl true,H1,I1,rfl,q1⟩
theorem pe_not (ha:PE X a ta):PE X (.UnaryOp .Not a pos) (tNotV ta):=by
 intro pins s σ H Q I h
 refine UnaryOp_ (thn (ha pins s σ H _ I h) fun v s1 ⟨x,H1,I1,r1,q1⟩=> ?_)
 obtain ⟨c,rfl,q1⟩:=q1
 cases r1
 exact not_of (wpAny_truthy_bool ⟨.bl (!c),H1,I1,rfl,q1⟩)
end
def SqL (K:Fg) (H:Hp) (a:Addr) (xs:List V):Prop :=
 Rd H a (.lst xs) \/
  ∃ (o:Obj) (its:Array Value) (n:Nat),K.lookup a=some o/\o.cls= .type "list"/\o.dict=none/\o.data= .seq its n/\its.size<=sizeLine/\Vals xs its.toList
def SqT (K:Fg) (H:Hp) (a:Addr) (xs:List V):Prop :=
 Rd H a (.tup xs) \/
  ∃ (o:Obj) (its:Array Value) (n:Nat),K.lookup a=some o/\o.cls= .type "tuple"/\o.data= .seq its n/\its.size<=sizeLine/\Vals xs its.toList
def absV:Value->Option V
 | .none=>some .non
 | .bool b=>some (.bl b)
 | .int i _=>some (.int i)
 | .str x _=>some (.str x)
 | .bytes b _=>some (.byt b)
 | .float b _=>some (.flt b)
 | .ref a=>some (.ref a)
 | .type n=>some (.ty n)
 | _=>none
theorem RelV.abs {x:V} {u:Value} (r:RelV x u):absV u=some x:=by
 cases x with
 | non=>cases r; rfl
 | bl _=>cases r; rfl
 | int _=>obtain ⟨t,rfl⟩:=r; rfl
 | str _=>obtain ⟨t,rfl⟩:=r; rfl
 | byt _=>obtain ⟨t,rfl⟩:=r; rfl
 | flt _=>obtain ⟨t,rfl⟩:=r; rfl
 | ref _=>cases r; rfl
 | ty _=>cases r; rfl
theorem RelV.inj {x y:V} {u:Value} (r:RelV x u) (q:RelV y u):x=y:=Option.some.inj (r.abs.symm.trans q.abs)
theorem Vals.inj: ∀ {xs ys:List V} {us:List Value},Vals xs us->Vals ys us->xs=ys
 | _,_,_,.nil,.nil=>rfl
 | _,_,_,.cons r t,.cons r' t'=>by rw [r.inj r',Vals.inj t t']
section
variable {X:Cx} {pins:List (Addr × Obj)} {σ :St} {H:Hp} {s:Shared} {a:Addr} {xs ys:List V}
theorem SqL.of {K:Fg} (h:H a=some (.lst xs)):SqL K H a xs:= .inl (.inl h)
theorem SqT.of {K:Fg} (h:H a=some (.tup xs)):SqT K H a xs:= .inl (.inl h)
theorem Inv.list (I:Inv X pins σ H s) (h:SqL X.K H a xs): ∃ its:List Value,Vals xs its/\PlainL s.heap a its.toArray/\xs.length<=sizeLine:=by
 rcases h with h | ⟨o,its,n,hk,hc,hd,hs,hz,r⟩
 ·obtain ⟨z,its,n,r,e⟩:=h.ok I.hok
  exact ⟨its,r,⟨_,n,e,rfl,rfl,rfl⟩,z⟩
 ·refine ⟨its.toList,r,⟨o,n,I.kIn a o hk,hc,hd,by simpa using hs⟩,?_⟩
  have e:=r.length
  simp only [Array.length_toList] at e
  omega
theorem Inv.tuple (I:Inv X pins σ H s) (h:SqT X.K H a xs): ∃ its:List Value,Vals xs its/\IsTup s.heap a its.toArray/\xs.length<=sizeLine:=by
 rcases h with h | ⟨o,its,n,hk,hc,hs,hz,r⟩
 ·obtain ⟨z,its,r,p⟩:=h.ok I.hok
  exact ⟨its,r,p,z⟩
 ·refine ⟨its.toList,r,⟨o,I.kIn a o hk,hc,n,by simpa using hs⟩,?_⟩
  have e:=r.length
  simp only [Array.length_toList] at e
  omega
theorem Inv.tuple_inj (I:Inv X pins σ H s) (h:SqT X.K H a xs) (h':SqT X.K H a ys):xs=ys:=by
 obtain ⟨its,r,⟨o,e,_,n,d⟩,_⟩:=I.tuple h
 obtain ⟨its',r',⟨o',e',_,n',d'⟩,_⟩:=I.tuple h'
 rw [e] at e'; cases e'
 rw [d] at d'
 injection d' with d1 _
 have:its=its':=by simpa using congrArg Array.toList d1
 subst this
 exact r.inj r'
end
abbrev Cx.wish (X:Cx) (E:Value->Shared->Prop):Cx:={ X with xe:=E }
abbrev Cx.nox (X:Cx):Cx:=X.wish fun _ _=>False
theorem Cx.Ok.wish {X:Cx} (ok:X.Ok) (E:Value->Shared->Prop):(X.wish E).Ok :=
 ⟨ok.mod,ok.kind,ok.glob,ok.blt,ok.above,ok.inj,ok.has,ok.cab,ok.hd,ok.frames,ok.stk,ok.exf,ok.bs,ok.bsz,ok.noex,ok.exfs,ok.funs,ok.frf,ok.tab,ok.fc⟩
theorem Cx.Ok.unwish {X:Cx} {E:Value->Shared->Prop} (ok:(X.wish E).Ok):X.Ok :=
 ⟨ok.mod,ok.kind,ok.glob,ok.blt,ok.above,ok.inj,ok.has,ok.cab,ok.hd,ok.frames,ok.stk,ok.exf,ok.bs,ok.bsz,ok.noex,ok.exfs,ok.funs,ok.frf,ok.tab,ok.fc⟩
section
variable {X:Cx} {pins:List (Addr × Obj)} {σ :St} {H:Hp} {s:Shared} {E:Value->Shared->Prop}
theorem Inv.wish (I:Inv X pins σ H s) (E:Value->Shared->Prop):Inv (X.wish E) pins σ H s:=⟨I.ok.wish E,I.os,I.bare,I.base,I.loc,I.cell,I.free,I.freeC,I.pin,I.hok,I.len⟩
theorem Inv.unwish (I:Inv (X.wish E) pins σ H s):Inv X pins σ H s:=⟨I.ok.unwish,I.os,I.bare,I.base,I.loc,I.cell,I.free,I.freeC,I.pin,I.hok,I.len⟩
theorem SP.unwish {D:Ends} {f:Flow} {s':Shared} (h:SP (X.wish E) pins D f s'):SP X pins D f s':=by
 cases f with
 | next=>obtain ⟨σ',H',I,q⟩:=h; exact ⟨σ',H',I.unwish,q⟩
 | brk=>obtain ⟨σ',H',I,q⟩:=h; exact ⟨σ',H',I.unwish,q⟩
 | cont=>obtain ⟨σ',H',I,q⟩:=h; exact ⟨σ',H',I.unwish,q⟩
 | ret u=>obtain ⟨v,H',I,r,q⟩:=h; exact ⟨v,H',⟨I.os,I.bare,I.base,I.hok,I.loc,I.free⟩,r,q⟩
theorem PE.nox {e:Expr} {t:TE} (h:PE X.nox e t):PE X e t:=fun pins s σ H Q I hw =>
 wpAny_mono (h pins s σ H Q (I.wish _) hw) (fun _ _ ⟨v,H',I',r,q⟩=>⟨v,H',I'.unwish,r,q⟩) fun _ _ z=>False.elim z
theorem PT.nox {e:Expr} {t:TT} (h:PT X.nox e t):PT X e t:=fun pins s σ H Q I hw =>
 wpAny_mono (h pins s σ H Q (I.wish _) hw) (fun _ _ ⟨H',I',q⟩=>⟨H',I'.unwish,q⟩) fun _ _ z=>False.elim z
theorem PSs.nox {st:List Stmt} {t:TS} (h:PSs X.nox st t):PSs X st t:=fun pins s σ H D I hw =>
 wpAny_mono (h pins s σ H D (I.wish _) hw) (fun _ _ q=>q.unwish) fun _ _ z=>False.elim z
end
section
variable {X:Cx} {st:Stmt} {rest:List Stmt} {t u:TS} {e:Expr} {te:TE} {pos:Pos}
def tNext:TS:=fun D σ H=>D.nx σ H
def tSeq (t u:TS):TS:=fun D σ H=>t { D with nx:=u D } σ H
theorem pss_nil:PSs X [] tNext:=fun _ _ σ H _ I h=>wpAny_execs_nil ⟨σ,H,I,h⟩
theorem pss_cons (h1:PS X st t) (h2:PSs X rest u):PSs X (st :: rest) (tSeq t u):=by
 intro pins s σ H D I h
 refine wpAny_execs_cons (thn (h1 pins s σ H { D with nx:=u D } I h) fun f s1 q=> ?_)
 cases f with
 | next =>
  obtain ⟨σ',H',I',q⟩:=q
  exact h2 pins s1 σ' H' D I' q
 | ret v=>exact q
 | brk=>exact q
 | cont=>exact q
theorem pss_one (h1:PS X st t):PSs X [st] t:=by
 intro pins s σ H D I h
 refine wpAny_execs_cons (thn (h1 pins s σ H D I h) fun f s1 q=> ?_)
 cases f with
 | next=>exact wpAny_execs_nil q
 | ret v=>exact q
 | brk=>exact q
 | cont=>exact q
theorem Inv.quiet {pins:List (Addr × Obj)} {σ :St} {H:Hp} {s:Shared} (I:Inv X pins σ H s):interactive X.env=false:=by simp [interactive,I.ok.kind]
def tDrop (te:TE):TS:=fun D σ H=>te σ H fun _ H1=>D.nx σ H1
theorem ps_expr (he:PE X e te) (hs:swapsWith e none pos.line X.env=pure false:=by rfl):PS X (.Expr e pos) (tDrop te):=by
 intro pins s σ H D I h
 exact wpAny_Expr_any (thn (he pins s σ H _ I h) fun v s1 ⟨x,H1,I1,r1,q1⟩=>⟨σ,H1,I1,q1⟩) I.quiet hs
def tRet (te:TE):TS:=fun D σ H=>te σ H D.rt
theorem ps_ret (he:PE X e te):PS X (.Return (some e) pos) (tRet te):=by
 intro pins s σ H D I h
 exact wpAny_Return_some (thn (he pins s σ H _ I h) fun v s1 ⟨x,H1,I1,r1,q1⟩=>⟨x,H1,I1.fin,r1,q1⟩)
def tIfS (c:TT) (t u:TS):TS:=fun D σ H=>c σ H fun b H1=>if b=true then t D σ H1 else u D σ H1
theorem ps_if {c:Expr} {a b:List Stmt} {tc:TT} (hc:PT X c tc) (ha:PSs X a t) (hb:PSs X b u):PS X (.If c a b pos) (tIfS tc t u):=by
 intro pins s σ H D I h
 refine wpAny_If (thn (hc pins s σ H _ I h) fun d s1 ⟨H1,I1,q1⟩=> ?_)
 cases d with
 | true=>exact ha pins s1 σ H1 D I1 q1
 | false=>exact hb pins s1 σ H1 D I1 q1
end
abbrev TG:=V->St->Hp->(St->Hp->Prop)->Prop
def PG (X:Cx) (target:Expr) (t:TG):Prop :=
 ∀ (pins:List (Addr × Obj)) (s:Shared) (σ :St) (H:Hp) (v:V) (u:Value) (Q:St->Hp->Prop),Inv X pins σ H s->RelV v u->t v σ H Q ->
  wpAny (model X.prog X.w) X.A (assign target X.env u) (fun _ s'=> ∃ σ' H',Inv X pins σ' H' s'/\Q σ' H') X.xe s
section
variable {X:Cx} {pos:Pos}
def gName (i:Nat):TG:=fun v σ H Q=>Q (σ.set i (some v)) H
theorem pg_name {i:Nat} {x:Str} (hN:X.N.Nodup) (hi:X.N[i]? =some x) (hx:Loc X.env.scope x) (hf:X.fn x=true\/X.env.scope.names.lookup x=some .local:=by first | exact .inl rfl | exact .inr rfl | assumption):PG X (.Name x pos) (gName i):=by
 intro pins s σ H v u Q I r h
 exact wpAny_assign_Name (store_ok I hN hi hx r (fun s' I'=>⟨_,H,I',h⟩) hf)
def tAsg (te:TE) (g:TG):TS:=fun D σ H=>te σ H fun x H1=>g x σ H1 D.nx
theorem ps_set {i:Nat} {x:Str} {e:Expr} {te:TE} {pos':Pos} (hN:X.N.Nodup) (hi:X.N[i]? =some x) (hx:Loc X.env.scope x) (he:PE X e te) (hs:swapsWith e (some (.Name x pos')) pos.line X.env=pure false:=by rfl) (hf:X.fn x=true\/X.env.scope.names.lookup x=some .local:=by first | exact .inl rfl | exact .inr rfl | assumption) :
  PS X (.Assign [.Name x pos'] e pos) (tAsg te (gName i)):=by
 intro pins s σ H D I h
 refine wpAny_Assign_Name (thn (he pins s σ H _ I h) fun v s1 ⟨y,H1,I1,r1,q1⟩=> ?_) hs
 exact store_ok I1 hN hi hx r1 (fun s2 I2=>⟨_,H1,I2,q1⟩) hf
end
section
variable {X:Cx} {pos:Pos}
def tWhile (c:TT) (tb:TS):TS:=fun D σ H=> ∃ W:Nat->St->Hp->Prop,(∃ m,W m σ H)/\ ∀ m σ H,W m σ H ->
 c σ H fun b H1=>if b=true then ∃ N:St->Hp->Prop,(∀ σ' H',N σ' H'-> ∃ m',m' < m/\W m' σ' H')/\tb { D with nx:=N,ct:=N,bk:=D.nx } σ H1 else D.nx σ H1
theorem ps_while {c:Expr} {body:List Stmt} {tc:TT} {tb:TS} (hp:PassesOwn (model X.prog X.w) X.A X.env X.xe) (hc:PT X c tc) (hb:PSs X body tb):PS X (.While c body [] pos) (tWhile tc tb):=by
 intro pins s σ H D I h
 obtain ⟨W,⟨m0,w0⟩,turn⟩:=h
 refine wpAny_While (codeAny_whileLoop (fun n s'=> ∃ σ' H',Inv X pins σ' H' s'/\W n σ' H') ?_ m0 ⟨σ,H,I,w0⟩)
 rintro n s1 ⟨σ1,H1,I1,w1⟩
 refine wpAny_passesOwn hp (thn (hc pins s1 σ1 H1 _ I1 (turn n σ1 H1 w1)) fun b s2 ⟨H2,I2,q2⟩=> ?_)
 cases b with
 | true =>
  obtain ⟨N,hN,q2⟩:=q2
  rw [if_pos rfl]
  refine wpAny_passesOwn hp (thn (hb pins s2 σ1 H2 _ I2 q2) fun f s3 q3=> ?_)
  cases f with
  | next =>
   obtain ⟨σ3,H3,I3,n3⟩:=q3
   obtain ⟨m',hm,w3⟩:=hN σ3 H3 n3
   exact ⟨m',hm, σ3,H3,I3,w3⟩
  | cont =>
   obtain ⟨σ3,H3,I3,n3⟩:=q3
   obtain ⟨m',hm,w3⟩:=hN σ3 H3 n3
   exact ⟨m',hm, σ3,H3,I3,w3⟩
  | brk=>exact q3
  | ret v=>exact q3
 | false =>
  rw [if_neg Bool.false_ne_true]
  exact wpAny_execs_nil ⟨σ1,H2,I2,q2⟩
end
structure It where
 go:Nat->Hp->Prop
 yld:Nat->Hp->V->Hp->Prop
 stop:Nat->Hp->Prop
def FpOk (X:Cx) (pins:List (Addr × Obj)) (H:Hp) (b:Addr):Prop :=
 H b=none/\b ≠ X.env.locals/\b ∉ X.fs/\(b ∈ X.ex\/X.s₀.heap.objs.size<=b)/\(∀ x c,X.env.cells.lookup x=some c->c ≠ b)/\ ∀ p ∈ X.pn ++ pins,p.1 ≠ b
theorem Inv.fpOk {X:Cx} {pins:List (Addr × Obj)} {σ :St} {H H':Hp} {s:Shared} {b:Addr} (I:Inv X pins σ H s) (hb:s.heap.objs.size<=b) (hn:H' b=none):FpOk X pins H' b:=by
 refine ⟨hn,Nat.ne_of_gt (Nat.lt_of_lt_of_le I.lt hb),I.nofs hb,.inr (Nat.le_trans I.sz hb),fun x c e z=> ?_,fun p hp z=> ?_⟩
 ·obtain ⟨v,q⟩:=I.cell x c e
  exact absurd (Nat.lt_of_lt_of_le q.lt (by rw [z]; exact hb)) (Nat.lt_irrefl _)
 ·exact absurd (Nat.lt_of_lt_of_le (Heap.lt_size (I.pin p hp).1) (by rw [z]; exact hb)) (Nat.lt_irrefl _)
structure Turn (P:Program) (w:World) (K:Fg) (tg:Expr) (J:It) (fp:List Addr) (it:Addr) (tn:Nat->Heap->Prop):Prop where
 mem:it ∈ fp
 obj: ∀ i h,tn i h-> ∀ b ∈ fp, ∃ o,h.get? b=some o/\ ∀ v,o.data ≠ .cell v
 keep: ∀ i h h',tn i h->(∀ b ∈ fp, ∀ o,h.get? b=some o->h'.get? b=some o)->tn i h'
 item: ∀ (X:Cx),X.prog=P->X.w=w->X.K=K->X.calm=true-> ∀ (i:Nat) (pins:List (Addr × Obj)) (s:Shared) (σ :St) (H:Hp) (E:Value->Shared->Prop),Inv X pins σ H s->(∀ b ∈ fp,FpOk X pins H b)->tn i s.heap->J.go i H ->
  wpAny (model P w) X.A (pyNext (.ref it)) (fun r s1=> ∃ u,r=some u /\
   wpAny (model P w) X.A (letOwnedTupleGo tg (.ref it) u) (fun _ s2=> ∃ x H',Inv X pins σ H' s2/\RelV x u/\J.yld i H x H'/\tn (i + 1) s2.heap/\ ∀ b ∈ fp,H' b=none) E s1) E s
 done: ∀ (X:Cx),X.prog=P->X.w=w->X.K=K->X.calm=true-> ∀ (i:Nat) (pins:List (Addr × Obj)) (s:Shared) (σ :St) (H:Hp) (E:Value->Shared->Prop),Inv X pins σ H s->(∀ b ∈ fp,FpOk X pins H b)->tn i s.heap->J.stop i H ->
  wpAny (model P w) X.A (pyNext (.ref it)) (fun r s1=>r=none/\Inv X pins σ H s1) E s
 self: ∀ (A:Around) (i:Nat) (s:Shared) (Q:Value->Shared->Prop) (E:Value->Shared->Prop),tn i s.heap->Q (.ref it) s->wpAny (model P w) A (pyIter (.ref it)) Q E s
abbrev TI:=St->Hp->(It->Hp->Prop)->Prop
def PIE (X:Cx) (pins:List (Addr × Obj)) (σ :St) (tg:Expr) (R:It->Hp->Prop) (itv:Value) (s2:Shared):Prop :=
 ∃ (it:Addr) (fp:List Addr) (tn:Nat->Heap->Prop) (J:It) (H':Hp),itv= .ref it/\Inv X pins σ H' s2/\Turn X.prog X.w X.K tg J fp it tn/\tn 0 s2.heap/\(∀ b ∈ fp,FpOk X pins H' b)/\R J H'
def PI (X:Cx) (tg iter:Expr) (wi:TI):Prop :=
 ∀ (pins:List (Addr × Obj)) (s:Shared) (σ :St) (H:Hp) (R:It->Hp->Prop),Inv X pins σ H s->wi σ H R ->
  wpAny (model X.prog X.w) X.A (eval iter X.env) (fun v s1=>wpAny (model X.prog X.w) X.A (pyIter v) (PIE X pins σ tg R) X.xe s1) X.xe s
theorem go_of {M:Model} {A:Around} {E:Value->Shared->Prop} {s:Shared} {tg:Expr} {it:Addr} {u:Value} {o:Obj} {n:String} {vs:Array Value} {Q:Unit->Shared->Prop} (ho:s.heap.get? it=some o) (hc:o.cls= .type n) (hd:o.data= .fields vs)
    (hn:["enumerate","zip","dict_itemiterator","dict_reverseitemiterator","odict_iterator","itertools.zip_longest","itertools.pairwise"].contains n=false) (hQ:Q () s):wpAny M A (letOwnedTupleGo tg (.ref it) u) Q E s:=by
  unfold letOwnedTupleGo
  cases tg <;> first
    | exact wpAny_pure hQ
    | (cases u <;> first
        | exact wpAny_pure hQ
        | (refine wpAny_bind (wpAny_load ho ?_)
           rw [hc,hd]
           show wpAny M A (if (["enumerate","zip","dict_itemiterator","dict_reverseitemiterator","odict_iterator","itertools.zip_longest","itertools.pairwise"].contains n && vs[0]? == some (rawInt _))=true then _ else _) Q E s
           rw [if_neg (by intro h; rw [hn,Bool.false_and] at h; cases h)]
           exact wpAny_pure hQ))
def Itt (K:Fg) (a:Addr):It :=
 ⟨fun i H=> ∃ xs x,SqT K H a xs/\xs[i]? =some x,fun i H x H'=>H'=H/\ ∀ xs,SqT K H a xs->xs[i]? =some x,fun i H=> ∃ xs,SqT K H a xs/\xs.length<=i⟩
def Itr (lo:Int) (n:Nat):It:=⟨fun i _=>i < n,fun i H x H'=>H'=H/\x= .int (lo + i),fun i _=>n<=i⟩
theorem turn_tuple {P:Program} {w:World} {K:Fg} {tg:Expr} (a it:Addr):Turn P w K tg (Itt K a) [it] it (fun i h=>h.IsTupleIter it a i) where
 mem:=by simp
 obj:=fun i h st b hb=>by
  have e:b=it:=by simpa using hb
  subst e
  obtain ⟨o,e,c,d⟩:=st
  exact ⟨o,e,fun v z=>by rw [d] at z; cases z⟩
 keep:=fun i h h' st k=>st.at fun o e=>k it (by simp) o e
 item:=by
  intro X hP hw hK hc i pins s σ H E I hf st hg
  subst hP hw hK
  obtain ⟨xs,x,hq,hx⟩:=hg
  obtain ⟨its,rv,p,hz⟩:=I.tuple hq
  obtain ⟨u,hu,ru⟩:=rv.get hx
  obtain ⟨f0,f1,f2,f3,f4,f5⟩:=hf it (by simp)
  refine wpAny_pyNext_tuple_item st (show s.heap.IsTuple a its.toArray from p) (x:=u) (by simpa using hu) fun h' st' sb=> ?_
  have I1:Inv X pins σ H { s with heap:=h' }:=I.turned (t':=s.toks) (fun b o hb e=>(sb.2 b hb).trans e) f0 f1 f3 f4 f5
  obtain ⟨o,e,c,d⟩:=id st'
  exact ⟨u,rfl,go_of (s:={ s with heap:=h' }) e c d (by decide) ⟨x,H,I1,ru,⟨rfl,fun ys hy=>by rw [I.tuple_inj hy hq]; exact hx⟩,st',fun b hb=>(hf b hb).1⟩⟩
 done:=by
  intro X hP hw hK hc i pins s σ H E I hf st hg
  subst hP hw hK
  obtain ⟨xs,hq,hx⟩:=hg
  obtain ⟨its,rv,p,hz⟩:=I.tuple hq
  obtain ⟨f0,f1,f2,f3,f4,f5⟩:=hf it (by simp)
  have hl:=rv.length
  exact wpAny_pyNext_tuple_end (I.ok.hd hc) st (show s.heap.IsTuple a its.toArray from p) (by simp; omega) fun h' eb=>⟨rfl,I.turned (t':=s.toks) (fun b o hb e=>eb b o hb e) f0 f1 f3 f4 f5⟩
 self:=fun _ _ _ _ _ st h=>wpAny_pyIter_tupleiter st h
theorem turn_range {P:Program} {w:World} {K:Fg} {tg:Expr} (it:Addr) (lo:Int) (n:Nat):Turn P w K tg (Itr lo n) [it] it (fun i h=>IsRangeIter h it (lo + (i:Nat) * 1) ((n:Int) - (i:Nat)) 1) where
 mem:=by simp
 obj:=fun i h st b hb=>by
  have e:b=it:=by simpa using hb
  subst e
  exact ⟨_,st,fun v z=>by
   have z':Data.fields _=Data.cell v:=z
   cases z'⟩
 keep:=fun i h h' st k=>k it (by simp) _ st
 item:=by
  intro X hP hw hK hc i pins s σ H E I hf st hg
  subst hP hw hK
  obtain ⟨f0,f1,f2,f3,f4,f5⟩:=hf it (by simp)
  have W:=Walks.range (prog:=X.prog) (w:=X.w) (I.ok.hd hc) it lo 1 n
  refine W.item i s _ _ hg st fun v h' tk hv st' kk=> ?_
  obtain ⟨t,rfl⟩:=hv
  have I1:Inv X pins σ H { s with heap:=h',toks:=tk }:=I.turned (fun b o hb e=>kk b o (by simpa using hb) e) f0 f1 f3 f4 f5
  refine ⟨_,rfl,go_of (s:={ s with heap:=h',toks:=tk }) (n:="range_iterator") st' rfl rfl (by decide) ⟨.int (lo + i),H,I1,⟨t,?_⟩,⟨rfl,rfl⟩,st',fun b hb=>(hf b hb).1⟩⟩
  rw [Int.mul_one]
 done:=by
  intro X hP hw hK hc i pins s σ H E I hf st hg
  subst hP hw hK
  obtain ⟨f0,f1,f2,f3,f4,f5⟩:=hf it (by simp)
  exact wpAny_pyNext_range_end (I.ok.hd hc) st (by have:n<=i:=hg; omega) fun h' eb=>⟨rfl,I.turned (t':=s.toks) (fun b o hb e=>eb b o hb e) f0 f1 f3 f4 f5⟩
 self:=fun _ _ _ _ _ st h=>wpAny_pyIter_rangeiter st h
section
variable {X:Cx} {tg:Expr}
def iTup (K:Fg) (tl:TE):TI:=fun σ H R=>tl σ H fun x H1=> ∃ a,x= .ref a/\(∃ xs,SqT K H1 a xs)/\R (Itt K a) H1
theorem pi_tup {l:Expr} {tl:TE} (hl:PE X l tl):PI X tg l (iTup X.K tl):=by
 intro pins s σ H R I h
 refine thn (hl pins s σ H _ I h) fun v s1 ⟨x,H1,I1,r1,q1⟩=> ?_
 obtain ⟨a,e,⟨xs,hq⟩,q⟩:=q1
 subst e
 cases r1
 obtain ⟨its,rv,p,hz⟩:=I1.tuple hq
 refine wpAny_pyIter_tuple (show s1.heap.IsTuple a its.toArray from p) ?_
 refine ⟨s1.heap.objs.size,[s1.heap.objs.size],_,_,H1,rfl,I1.kept (t':=s1.toks) fun b o e=>Heap.get?_push_of_some _ e,turn_tuple a _,⟨_,Heap.get?_push_size _ rfl,rfl,rfl⟩,fun b hb=> ?_,q⟩
 have e:b=s1.heap.objs.size:=by simpa using hb
 subst e
 exact I1.fpOk (Nat.le_refl _) (I1.hok.fresh (Nat.le_refl _))
theorem range_it {pins:List (Addr × Obj)} {σ :St} {H:Hp} {s:Shared} {R:It->Hp->Prop} {E:Value->Shared->Prop} {lo hi:Int} {t u v:Tok} {tk:Nat} (I:Inv X pins σ H s) (h1: -(2 ^ 62)<=lo) (h2:lo < 2 ^ 62) (h3: -(2 ^ 62)<=hi) (h4:hi < 2 ^ 62)
  (q:R (Itr lo (hi - lo).toNat) H):wpAny (model X.prog X.w) X.A (pyIter (.ref s.heap.objs.size)) (PIE X pins σ tg R) E { s with heap:=s.heap.push { cls:= .type "range",data:= .fields #[.int lo t,.int hi u,.int 1 v] },toks:=tk }:=by
 refine wpAny_pyIter_range (IsRange.new ..) (small_one h1 h2 h3 h4) ?_
 have I1:Inv X pins σ H { s with heap:=s.heap.push { cls:= .type "range",data:= .fields #[.int lo t,.int hi u,.int 1 v] },toks:=tk }:=I.kept fun b o e=>Heap.get?_push_of_some _ e
 refine ⟨(s.heap.push { cls:= .type "range",data:= .fields #[.int lo t,.int hi u,.int 1 v] }).objs.size,[(s.heap.push { cls:= .type "range",data:= .fields #[.int lo t,.int hi u,.int 1 v] }).objs.size],_,_,H,rfl,
  I1.kept (t':=tk) fun b o e=>Heap.get?_push_of_some _ e,turn_range _ lo (hi - lo).toNat,?_,fun b hb=> ?_,q⟩
 ·have e1:lo + ((0:Nat):Int) * 1=lo:=by simp
  have e2:(((hi - lo).toNat:Nat):Int) - ((0:Nat):Int)=Builtin.Range.rangeSize lo hi 1:=by rw [rangeSize_one]; split <;> omega
  show IsRangeIter _ _ (lo + ((0:Nat):Int) * 1) ((((hi - lo).toNat:Nat):Int) - ((0:Nat):Int)) 1
  rw [e1,e2]
  exact Heap.get?_push_size _ rfl
 ·have e:b=(s.heap.push { cls:= .type "range",data:= .fields #[.int lo t,.int hi u,.int 1 v] }).objs.size:=by simpa using hb
  subst e
  exact I1.fpOk (Nat.le_refl _) (I1.hok.fresh (Nat.le_refl _))
def iRng1 (ta:TA):TI:=fun σ H R=>ta σ H fun vs H1=> ∃ j:Int,vs=[.int j]/\ -(2 ^ 62)<=j/\j < 2 ^ 62/\R (Itr 0 j.toNat) H1
theorem pi_range1 {a:Expr} {ta:TA} {p pos:Pos} (hg:Gl X "range") (hm:X.mg "range"=none) (ha:PA X [a] ta) (hs:starEach [a] X.env=[(false,eval a X.env)]:=by rfl):PI X tg (.Call (.Name "range" p) [a] [] pos) (iRng1 ta):=by
 intro pins s σ H R I h
 refine Call_ (ld_blt I hg hm boot_range (PyProof.Rows.callWith_type1 (thn (ha pos pins s σ H _ I h) fun us s1 ⟨vs,H1,I1,r1,q1⟩=> ?_) hs rfl))
 obtain ⟨j,e,q1,q2,q⟩:=q1
 subst e
 cases r1 with
 | cons r rr =>
  cases rr
  obtain ⟨t,rfl⟩:=r
  exact call_range_1 (range_it I1 (by omega) (by omega) q1 q2 (by simpa using q))
def tFor (wi:TI) (g:TG) (tb:TS):TS:=fun D σ H=>wi σ H fun J H1=> ∃ W:Nat->Nat->St->Hp->Prop,(∃ m,W 0 m σ H1)/\ ∀ i m σ H,W i m σ H ->
 (J.stop i H/\D.nx σ H)\/(J.go i H/\ ∃ N:St->Hp->Prop,(∀ σ' H',N σ' H'-> ∃ m',m' < m/\W (i + 1) m' σ' H')/\ ∀ x H',J.yld i H x H'->g x σ H' fun σ2 H2=>tb { D with nx:=N,ct:=N,bk:=D.nx } σ2 H2)
def pinsAt (fp:List Addr) (h:Heap):List (Addr × Obj):=fp.filterMap fun b=>(h.get? b).map fun o=>(b,o)
theorem mem_pinsAt {fp:List Addr} {h:Heap} {b:Addr} {o:Obj} (hb:b ∈ fp) (e:h.get? b=some o):(b,o) ∈ pinsAt fp h:=List.mem_filterMap.mpr ⟨b,hb,by rw [e]; rfl⟩
theorem of_pinsAt {fp:List Addr} {h:Heap} {p:Addr × Obj} (hp:p ∈ pinsAt fp h):p.1 ∈ fp/\h.get? p.1=some p.2:=by
 obtain ⟨b,hb,e⟩:=List.mem_filterMap.mp hp
 cases q:h.get? b with
 | none=>rw [q] at e; cases e
 | some o =>
  rw [q] at e
  have e':(b,o)=p:=Option.some.inj e
  subst e'
  exact ⟨hb,q⟩
theorem Inv.pinned {pins:List (Addr × Obj)} {σ :St} {H:Hp} {s:Shared} {fp:List Addr} (I:Inv X pins σ H s) (hf: ∀ b ∈ fp,FpOk X pins H b) (ho: ∀ b ∈ fp, ∃ o,s.heap.get? b=some o/\ ∀ v,o.data ≠ .cell v):Inv X (pins ++ pinsAt fp s.heap) σ H s :=
 I.pins_of fun p hp=>(List.mem_append.mp hp).elim (fun z=>I.pin p (List.mem_append_right _ z)) fun z=>by
  obtain ⟨hb,e⟩:=of_pinsAt z
  obtain ⟨f0,f1,f2,_⟩:=hf p.1 hb
  obtain ⟨o,e',d⟩:=ho p.1 hb
  rw [e] at e'; cases e'
  exact ⟨e,f0,f1,f2,d⟩
theorem Inv.unpinned {pins pl:List (Addr × Obj)} {σ :St} {H:Hp} {s:Shared} (I:Inv X (pins ++ pl) σ H s):Inv X pins σ H s:=I.pins_of fun p hp=>I.pin p (List.mem_append_right _ (List.mem_append_left _ hp))
theorem ps_for {iter:Expr} {body:List Stmt} {wi:TI} {g:TG} {tb:TS} {pos:Pos} (hp:PassesOwn (model X.prog X.w) X.A X.env X.xe) (hc:X.calm=true) (hi:PI X tg iter wi) (hg:PG X tg g) (hb:PSs X body tb)
  (hs: ∀ x,foldedSetIterable iter X.env x=pure x:=by intro _; rfl):PS X (.For tg iter body [] pos) (tFor wi g tb):=by
 intro pins s σ H D I h
 refine wpAny_For (thn (hi pins s σ H _ I h) fun v s1 h1=>thn h1 fun itv s2 h2=> ?_) hs
 obtain ⟨it,fp,tn,J,H2,e,I2,T,st2,f2,W,⟨m0,w0⟩,turn⟩:=h2
 subst e
 -- what stays true of the iterator's objects through the loop
 have stat: ∀ {H':Hp},(∀ b ∈ fp,H' b=none)-> ∀ b ∈ fp,FpOk X pins H' b:=fun hn b hb=>⟨hn b hb,(f2 b hb).2⟩
 refine codeAny_forLoop_any (fun n s'=> ∃ i σ' H',Inv X pins σ' H' s'/\tn i s'.heap/\(∀ b ∈ fp,H' b=none)/\W i n σ' H') ?_ m0 ⟨0, σ,H2,I2,st2,fun b hb=>(f2 b hb).1,w0⟩
 rintro n s3 ⟨i, σ3,H3,I3,st3,fr3,w3⟩
 rcases turn i n σ3 H3 w3 with ⟨stop,qn⟩ | ⟨go,N,hN,step⟩
 ·refine wpAny_passesOwn hp (thn (T.done X rfl rfl rfl hc i pins s3 σ3 H3 X.xe I3 (stat fr3) st3 stop) fun r s4 ⟨hr,I4⟩=> ?_)
  subst hr
  exact wpAny_execs_nil ⟨σ3,H3,I4,qn⟩
 ·refine wpAny_passesOwn hp (thn (T.item X rfl rfl rfl hc i pins s3 σ3 H3 X.xe I3 (stat fr3) st3 go) fun r s4 ⟨u,hr,h4⟩=> ?_)
  subst hr
  refine wpAny_passesOwn hp (thn h4 fun _ s5 ⟨x,H5,I5,r5,y5,st5,fr5⟩=> ?_)
  have I5':=I5.pinned (stat fr5) (T.obj _ _ st5)
  refine wpAny_passesOwn hp (thn (hg _ s5 σ3 H5 x u _ I5' r5 (step x H5 y5)) fun _ s6 ⟨σ6,H6,I6,q6⟩=> ?_)
  refine wpAny_passesOwn hp (thn (hb _ s6 σ6 H6 _ I6 q6) fun f s7 q7=> ?_)
  have again: ∀ {σ7:St} {H7:Hp},Inv X (pins ++ pinsAt fp s5.heap) σ7 H7 s7->N σ7 H7-> ∃ m,m < n/\ ∃ i σ' H',Inv X pins σ' H' s7/\tn i s7.heap/\(∀ b ∈ fp,H' b=none)/\W i m σ' H':=fun {σ7 H7} I7 n7=>by
   obtain ⟨m',hm,w7⟩:=hN σ7 H7 n7
   refine ⟨m',hm,i + 1, σ7,H7,I7.unpinned,T.keep _ _ _ st5 fun b hb o e=>(I7.pin (b,o) (List.mem_append_right _ (List.mem_append_right _ (mem_pinsAt hb e)))).1,fun b hb=> ?_,w7⟩
   obtain ⟨o,e,d⟩:=T.obj _ _ st5 b hb
   exact (I7.pin (b,o) (List.mem_append_right _ (List.mem_append_right _ (mem_pinsAt hb e)))).2.1
  cases f with
  | next=>obtain ⟨σ7,H7,I7,n7⟩:=q7; exact again I7 n7
  | cont=>obtain ⟨σ7,H7,I7,n7⟩:=q7; exact again I7 n7
  | brk=>obtain ⟨σ7,H7,I7,q7⟩:=q7; exact ⟨σ7,H7,I7.unpinned,q7⟩
  | ret v=>exact q7
end
abbrev R2:=V->V->Hp->VK->Prop
def OpR (X:Cx) (f:Value->Value->Sem Value) (r:R2):Prop :=
 ∀ (pins:List (Addr × Obj)) (s:Shared) (σ :St) (H:Hp) (x y:V) (v u:Value) (Q:VK),Inv X pins σ H s->RelV x v->RelV y u->r x y H Q ->
  wpAny (model X.prog X.w) X.A (f v u) (EP X pins σ Q) X.xe s
def CallR (X:Cx) (f:Value) (r:List V->Hp->VK->Prop):Prop :=
 ∀ (pins:List (Addr × Obj)) (s:Shared) (σ :St) (H:Hp) (xs:List V) (us:List Value) (Q:VK),Inv X pins σ H s->Vals xs us->r xs H Q ->
  wpAny (model X.prog X.w) X.A (call f us) (EP X pins σ Q) X.xe s
def tOp (r:R2) (ta tb:TE):TE:=fun σ H Q=>ta σ H fun x H1=>tb σ H1 fun y H2=>r x y H2 Q
def rI (C:Int->Int->Prop) (g:Int->Int->V):R2:=fun x y H Q=> ∃ i j,x= .int i/\y= .int j/\C i j/\Q (g i j) H
def rI0 (g:Int->Int->V):R2:=fun x y H Q=> ∃ i j,x= .int i/\y= .int j/\Q (g i j) H
section
variable {X:Cx} {a b c:Expr} {ta tb tc:TE} {pos:Pos}
theorem binT (ha:PE X a ta) (hb:PE X b tb) {pins:List (Addr × Obj)} {s:Shared} {σ :St} {H:Hp} {R:V->V->Hp->Prop} (I:Inv X pins σ H s)
  (h:ta σ H fun x H1=>tb σ H1 fun y H2=>R x y H2) {Q:Value->Shared->Prop} {f:Value->Value->Sem Value}
  (hf: ∀ v u s2 x y H2,Inv X pins σ H2 s2->RelV x v->RelV y u->R x y H2->wpAny (model X.prog X.w) X.A (f v u) Q X.xe s2) :
  wpAny (model X.prog X.w) X.A (eval a X.env) (fun v s₁=>wpAny (model X.prog X.w) X.A (eval b X.env) (fun u s₂=>wpAny (model X.prog X.w) X.A (f v u) Q X.xe s₂) X.xe s₁) X.xe s:=by
 refine thn (ha pins s σ H _ I h) fun v s1 ⟨x,H1,I1,r1,q1⟩=> ?_
 refine thn (hb pins s1 σ H1 _ I1 q1) fun u s2 ⟨y,H2,I2,r2,q2⟩=> ?_
 exact hf v u s2 x y H2 I2 r1 r2 q2
theorem pe_op {op:Operator} {r:R2} (ho:OpR X (binaryOp op) r) (ha:PE X a ta) (hb:PE X b tb):PE X (.BinOp a op b pos) (tOp r ta tb):=by
 intro pins s σ H Q I h
 exact wpAny_BinOp (binT ha hb I h fun v u s2 x y H2 I2 rx ry q=>ho pins s2 σ H2 x y v u Q I2 rx ry q)
theorem opI {f:Value->Value->Sem Value} {C:Int->Int->Prop} {g:Int->Int->Int}
  (rule: ∀ (i j:Int) (t u:Tok) (s:Shared) (Q:Value->Shared->Prop) (E:Value->Shared->Prop),C i j->Q (.int (g i j) s.toks) { s with toks:=s.toks + 1 }->wpAny (model X.prog X.w) X.A (f (.int i t) (.int j u)) Q E s) :
  OpR X f (rI C fun i j=> .int (g i j)):=by
 intro pins s σ H x y v u Q I rx ry h
 obtain ⟨i,j,rfl,rfl,hc,q⟩:=h
 obtain ⟨t,rfl⟩:=rx
 obtain ⟨t',rfl⟩:=ry
 exact rule i j t t' s _ _ hc ⟨.int (g i j),H,I.tok _,⟨_,rfl⟩,q⟩
theorem opI0 {f:Value->Value->Sem Value} {g:Int->Int->Int}
  (rule: ∀ (i j:Int) (t u:Tok) (s:Shared) (Q:Value->Shared->Prop) (E:Value->Shared->Prop),Q (.int (g i j) s.toks) { s with toks:=s.toks + 1 }->wpAny (model X.prog X.w) X.A (f (.int i t) (.int j u)) Q E s) :
  OpR X f (rI0 fun i j=> .int (g i j)):=by
 intro pins s σ H x y v u Q I rx ry h
 obtain ⟨i,j,rfl,rfl,q⟩:=h
 obtain ⟨t,rfl⟩:=rx
 obtain ⟨t',rfl⟩:=ry
 exact rule i j t t' s _ _ ⟨.int (g i j),H,I.tok _,⟨_,rfl⟩,q⟩
theorem opB0 {f:Value->Value->Sem Value} {g:Int->Int->Bool}
  (rule: ∀ (i j:Int) (t u:Tok) (s:Shared) (Q:Value->Shared->Prop) (E:Value->Shared->Prop),Q (.bool (g i j)) s->wpAny (model X.prog X.w) X.A (f (.int i t) (.int j u)) Q E s) :
  OpR X f (rI0 fun i j=> .bl (g i j)):=by
 intro pins s σ H x y v u Q I rx ry h
 obtain ⟨i,j,rfl,rfl,q⟩:=h
 obtain ⟨t,rfl⟩:=rx
 obtain ⟨t',rfl⟩:=ry
 exact rule i j t t' s _ _ ⟨.bl (g i j),H,I,rfl,q⟩
def CDiv (i j:Int):Prop:=0 < j/\j < 1073741824
def CMul (i j:Int):Prop:=(-(2 ^ 64) < i/\i < 2 ^ 64)\/(-(2 ^ 64) < j/\j < 2 ^ 64)
theorem CMul.ok {i j:Int} (h:CMul i j):IntMulOk i j:=by
 rcases h with ⟨h1,h2⟩ | ⟨h1,h2⟩
 ·exact .of_left (intBits_le_64 h1 h2)
 ·exact .of_right (intBits_le_64 h1 h2)
theorem two_pow_nn (k:Nat):(0:Int)<=2 ^ k:=by
 rw [two_pow_cast]
 exact Int.natCast_nonneg _
theorem op_add:OpR X (binaryOp .Add) (rI0 fun i j=> .int (i + j)):=opI0 fun _ _ _ _ _ _ _ q=>add_int q
theorem op_sub:OpR X (binaryOp .Sub) (rI0 fun i j=> .int (i - j)):=opI0 fun _ _ _ _ _ _ _ q=>sub_int q
theorem op_mul:OpR X (binaryOp .Mult) (rI CMul fun i j=> .int (i * j)):=opI fun _ _ _ _ _ _ _ hc q=>mul_int q hc.ok
theorem op_fdiv:OpR X (binaryOp .FloorDiv) (rI CDiv fun i j=> .int (i / j)):=opI fun i j _ _ _ _ _ hc q=>by
 have h1:(0:Int) < j:=hc.1
 have h2:j < 1073741824:=hc.2
 exact floordiv_int (by omega) (by rw [Int.fdiv_eq_ediv_of_nonneg i (by omega)]; exact q) (.inl (PyProof.noPylong_small (by omega)))
theorem op_mod:OpR X (binaryOp .Mod) (rI (fun _ j=>0 < j) fun i j=> .int (i % j)):=opI fun i j _ _ _ _ _ hc q=>by
 have h1:(0:Int) < j:=hc
 exact mod_int' (by omega) (by rw [Int.fmod_eq_emod_of_nonneg i (by omega)]; exact q)
theorem op_shr:OpR X (binaryOp .RShift) (rI (fun _ j=>0<=j) fun i j=> .int (i / 2 ^ j.toNat)):=opI fun i j _ _ _ _ _ hc q =>
 rshift_int hc (by rw [Int.fdiv_eq_ediv_of_nonneg i (two_pow_nn _)]; exact q)
theorem op_and:OpR X (binaryOp .BitAnd) (rI0 fun i j=> .int (Builtin.bitAnd i j)):=opI0 fun _ _ _ _ _ _ _ q=>and_int q
theorem op_or:OpR X (binaryOp .BitOr) (rI0 fun i j=> .int (Builtin.bitOr i j)):=opI0 fun _ _ _ _ _ _ _ q=>or_int q
theorem op_xor:OpR X (binaryOp .BitXor) (rI0 fun i j=> .int (Builtin.bitXor i j)):=opI0 fun _ _ _ _ _ _ _ q=>xor_int q
end
section
variable {X:Cx} {a b c:Expr} {ta tb tc:TE} {pos:Pos}
theorem op_lt:OpR X (compareOp .Lt) (rI0 fun i j=> .bl (decide (i < j))):=opB0 fun _ _ _ _ _ _ _ q=>lt_int q
theorem op_gt:OpR X (compareOp .Gt) (rI0 fun i j=> .bl (decide (j < i))):=opB0 fun _ _ _ _ _ _ _ q=>gt_int q
theorem OpR.or {f:Value->Value->Sem Value} {r r':R2} (h:OpR X f r) (h':OpR X f r'):OpR X f (fun x y H Q=>r x y H Q\/r' x y H Q):=by
 intro pins s σ H x y v u Q I rx ry q
 rcases q with q | q
 ·exact h pins s σ H x y v u Q I rx ry q
 ·exact h' pins s σ H x y v u Q I rx ry q
theorem nomark (b:Expr) {op:CmpOp} (h:op ≠ .In:=by decide) (h2:op ≠ .NotIn:=by decide):behindInMarks op b=false:=by
 have e1:(op == CmpOp.In)=false:=by cases op <;> first | rfl | exact absurd rfl h
 have e2:(op == CmpOp.NotIn)=false:=by cases op <;> first | rfl | exact absurd rfl h2
 cases b <;> simp [behindInMarks,e1,e2]
theorem pe_cmpR {op:CmpOp} {r:R2} (ho:OpR X (compareOp op) r) (ha:PE X a ta) (hb:PE X b tb) (hm:behindInMarks op b=false):PE X (.Compare a [op] [b] pos) (tOp r ta tb):=by
 intro pins s σ H Q I h
 exact wpAny_Compare1 (binT ha hb I h fun v u s2 x y H2 I2 rx ry q=>ho pins s2 σ H2 x y v u Q I2 rx ry q) hm
def tTest (t:TE):TT:=fun σ H Q=>t σ H fun x H'=> ∃ k,x= .bl k/\Q k H'
theorem pt_cmpR {op:CmpOp} {r:R2} (ho:OpR X (compareOp op) r) (ha:PE X a ta) (hb:PE X b tb) (hm:behindInMarks op b=false):PT X (.Compare a [op] [b] pos) (tTest (tOp r ta tb)):=by
 intro pins s σ H Q I h
 refine wpAny_isTrue_Compare1 (thn (ha pins s σ H _ I h) fun v s1 ⟨x,H1,I1,r1,q1⟩=>thn (hb pins s1 σ H1 _ I1 q1) fun u s2 ⟨y,H2,I2,r2,q2⟩ =>
  thn (ho pins s2 σ H2 x y v u _ I2 r1 r2 q2) fun c s3 ⟨z,H3,I3,r3,k,e,q3⟩=> ?_) hm
 subst e
 cases r3
 exact wpAny_truthy_bool ⟨H3,I3,q3⟩
theorem line63:(sizeLine:Nat) < 2 ^ 63:=by rw [sizeLine_eq]; decide
theorem op_add_str:OpR X (binaryOp .Add) (fun x y H Q=> ∃ i j,x= .str i/\y= .str j/\i.length + j.length<=sizeLine/\Q (.str (i ++ j)) H):=by
 intro pins s σ H x y v u Q I rx ry h
 obtain ⟨i,j,rfl,rfl,hz,q⟩:=h
 obtain ⟨t,rfl⟩:=rx
 obtain ⟨t',rfl⟩:=ry
 exact add_str (fun t' tk=>⟨.str (i ++ j),H,I.tok _,⟨_,rfl⟩,q⟩) hz
theorem vals1 {x:V} {us:List Value} (r:Vals [x] us): ∃ u,us=[u]/\RelV x u:=by
 cases r with
 | cons r1 r2=>cases r2; exact ⟨_,rfl,r1⟩
theorem vals2 {x y:V} {us:List Value} (r:Vals [x,y] us): ∃ u w',us=[u,w']/\RelV x u/\RelV y w':=by
 cases r with
 | cons r1 r2 =>
  cases r2 with
  | cons r3 r4=>cases r4; exact ⟨_,_,rfl,r1,r3⟩
def LenV (K:Fg) (x:V) (H:Hp) (n:Nat):Prop :=
 match x with
 | .str y=>y.length<=sizeLine/\n=y.length
 | .byt y=>y.size<=sizeLine/\n=y.size
 | .ref p=>(∃ xs,SqL K H p xs/\n=xs.length)\/ ∃ xs,SqT K H p xs/\n=xs.length
 | _=>False
theorem call_len:CallR X (.builtin "len") (fun xs H Q=> ∃ x n,xs=[x]/\LenV X.K x H n/\Q (.int n) H):=by
 intro pins s σ H xs us Q I r h
 obtain ⟨x,n,rfl,e,q⟩:=h
 obtain ⟨u,rfl,rx⟩:=vals1 r
 have hl:=line63
 have hs:sizeLine=16777216:=sizeLine_eq
 cases x with
 | str y =>
  obtain ⟨t,rfl⟩:=rx
  obtain ⟨hy,e'⟩:y.length<=sizeLine/\n=y.length:=e
  subst e'
  exact len_str (by omega) ⟨.int _,H,I.tok _,⟨_,rfl⟩,q⟩
 | byt y =>
  obtain ⟨t,rfl⟩:=rx
  obtain ⟨hy,e'⟩:y.size<=sizeLine/\n=y.size:=e
  subst e'
  exact PySem.W.len_bytes (by omega) ⟨.int _,H,I.tok _,⟨_,rfl⟩,q⟩
 | ref p =>
  cases rx
  have e':(∃ xs,SqL X.K H p xs/\n=xs.length)\/ ∃ xs,SqT X.K H p xs/\n=xs.length:=e
  rcases e' with ⟨xs,hx,e'⟩ | ⟨xs,hx,e'⟩
  ·subst e'
   obtain ⟨its,r',pl,hz⟩:=I.list hx
   have hlen:=r'.length
   exact Calls.call_len_list pl.isList (by simp only [List.size_toArray]; omega) ⟨.int xs.length,H,I.tok _,⟨_,by simp only [List.size_toArray]; rw [hlen]⟩,q⟩
  ·subst e'
   obtain ⟨its,r',pl,hz⟩:=I.tuple hx
   have hlen:=r'.length
   exact len_tuple pl (by simp only [List.size_toArray]; omega) ⟨.int xs.length,H,I.tok _,⟨_,by simp only [List.size_toArray]; rw [hlen]⟩,q⟩
 | _=>exact (show False from e).elim
end
structure ObjM (h:Heap) (x dx C:Addr) (mA:Str->Option Value):Prop where
 obj:h.get? x=some (PySem.W.instObj C dx)
 ns:h.Ns1 dx mA
 ne:dx ≠ x
theorem lookIn_ns {h:Heap} {dx:Addr} {mA:Str->Option Value} (n:h.Ns1 dx mA): ∃ od,h.get? dx=some od/\ ∀ name,PySem.W.lookIn name od=some (mA name):=by
 obtain ⟨o,es,ep,ho,hd,hk,_,hm⟩:=n
 refine ⟨o,ho,fun name=> ?_⟩
 have e:=hm name
 unfold nsFind findBy at e
 rw [<- Array.find?_toList] at e
 unfold PySem.W.lookIn
 rw [hd]
 dsimp only
 split
 ·rename_i y q
  rw [q] at e
  exact congrArg some e
 ·rename_i q
  rw [q] at e
  have a:es.toList.any (·.refKey)=false:=by
   rw [List.any_eq_false]
   intro y hy
   obtain ⟨z,t,hkey⟩:=hk y (Array.mem_toList_iff.mp hy)
   simp [DictEntry.refKey,hkey]
  have a': ¬ es.toList.any (·.refKey)=true:=by rw [a]; exact Bool.false_ne_true
  rw [if_neg a']
  exact congrArg some e
theorem ObjM.look {h:Heap} {x dx C:Addr} {mA:Str->Option Value} (I:ObjM h x dx C mA): ∃ od,PySem.W.InstAt h x (PySem.W.instObj C dx) C (some od)/\ ∀ name,PySem.W.lookIn name od=some (mA name) :=
 let ⟨od,ho,hl⟩:=lookIn_ns I.ns
 ⟨od,⟨I.obj,rfl,rfl,ho⟩,hl⟩
section
variable {prog:Program} {w:World} {A:Around} {E:Value->Shared->Prop} {s:Shared} {K:Fg} {x dx C f:Addr} {mA:Str->Option Value} {name:Str} {v:Value}
theorem get_map {expr:Bool} {Q:Value->Shared->Prop} (X:K.In s.heap) (I:ObjM s.heap x dx C mA) (hg:PySem.W.plainGet K C name=true) (hh:PySem.W.hasDictIn K C=true)
  (ha:PySem.W.findIn K (.ref C) name=some none) (hv:mA name=some v) (hv':PySem.W.handedIn v=true) (h:Q v { s with toks:=s.toks + 1 }) :
  wpAny (model prog w) A (getAttr (.ref x) name expr) Q E s:=by
 obtain ⟨od,J,hl⟩:=I.look
 exact PySem.W.get_value X J (PySem.W.plainGet_of hg).1 (PySem.W.findObj_own hh ha rfl (by rw [hl,hv])) hv' h
theorem get_meth {pl:Sem Bool} {Q:Value × List Value->Shared->Prop} (X:K.In s.heap) (I:ObjM s.heap x dx C mA) (hg:PySem.W.plainGet K C name=true)
  (hf:PySem.W.findIn K (.ref C) name=some (some (.ref f))) (ht:PySem.W.isFn K (.ref f)=true) (hv:mA name=none) (h:Q (.ref f,[.ref x]) s) :
  wpAny (model prog w) A (getMethod (.ref x) name pl) Q E s:=by
 obtain ⟨od,J,hl⟩:=I.look
 exact PySem.W.method_fn X J (PySem.W.plainGet_of hg).1 (PySem.W.plainGet_of hg).2 hf (beq_iff_eq.mp ht) (by show (PySem.W.lookIn name od).map (·.isSome)=some false; rw [hl,hv]; rfl) h
theorem set_map {ns:List Str} {Q:Unit->Shared->Prop} (X:K.In s.heap) (I:ObjM s.heap x dx C mA)
  (hs:PySem.W.findIn K (.ref C) "__setattr__"=some (some (.builtin "object.__setattr__"))) (hp:PySem.W.plainOver K C=true) (ht:PySem.W.takerIn K C name=some none) (hh:PySem.W.hasDictIn K C=true)
  (hw:PySem.Within mA ns) (hsz:ns.length<=sizeLine)
  (h: ∀ h',ObjM h' x dx C (fun y=>if y=name then some v else mA y)->Heap.SameBut dx s.heap h'->Q () { s with heap:=h',toks:=s.toks + 2 }) :
  wpAny (model prog w) A (setAttr (.ref x) name v) Q E s:=by
 obtain ⟨od,J,hl⟩:=I.look
 refine PySem.W.set_plain X J hs (PySem.W.osa_open (s:={ s with toks:=s.toks + 1 }) (r:=none) X J hp ht fun b=> ?_)
 obtain ⟨cd,hc,hd'⟩:=PySem.W.any_some hh
 have hx:s.heap.get? x=some ⟨.ref C,some dx,.plain, #[]⟩:=I.obj
 refine wpAny_bind (wpAny_pure (wpAny_bind (wpAny_bind (wpAny_loadPart hx (wpAny_bind (PySem.W.Looks.here (s:={ s with toks:=s.toks + 1 }) (PySem.W.looks_clsIn X hc) ?_))))))
 rw [hd']
 refine wpAny_pure (a:=some dx) (wpAny_bind (wpAny_pure (wpAny_bind ?_)))
 refine wpAny_nsSet1 (s:={ s with toks:=s.toks + 1 }) I.ns fun h' hn2 hs2=> ?_
 obtain ⟨oD,esD,epD,hoD,hdD,hcD⟩:=hn2.count (PySem.Within.cons name v hw)
 refine wpAny_bind (wpAny_lookBehind hoD (by rw [hdD]; exact pastItsLine_dict (Nat.le_trans hcD (by rw [List.length_cons]; omega))) ?_)
 exact wpAny_pure (h _ ⟨(hs2.2 _ (Ne.symm I.ne)).trans I.obj,hn2,I.ne⟩ hs2)
theorem make_map {R:Result->Shared->Prop} {vs:List Value} {kw:List (Str × Value)} (X:K.In s.heap) (hm:PySem.W.makesIn K C=true)
  (hi:PySem.W.findIn K (.ref C) "__init__"=some (some (.ref f))) (hf:PySem.W.typeIn K (.ref f)=some (.type "function"))
  (h:codeAny (model prog w) (A.under (.builtin "type.__call__" ⟨.ref C :: vs,kw⟩)) (.call (.ref f) ⟨.ref (s.heap.objs.size + 1) :: vs,kw⟩) (PySem.W.InitBack (s.heap.objs.size + 1) R)
   { s with heap:=(s.heap.push PySem.W.emptyDict).push (PySem.W.instObj C s.heap.objs.size) }) :
  codeAny (model prog w) A (.call (.ref C) ⟨vs,kw⟩) R s:=by
 obtain ⟨hh,g,d,t,os⟩:=s
 exact PySem.W.make_core (PySem.W.makes_of X hm) (PySem.W.looks_findIn X hi) (fun self=>PySem.W.bind_fn X self hf) (.inl rfl) h
theorem make_map0 {R:Result->Shared->Prop} (X:K.In s.heap) (hm:PySem.W.makesIn K C=true)
  (hi:PySem.W.findIn K (.ref C) "__init__"=some (some (.builtin "object.__init__")))
  (hb: ∀ self,PySem.W.Looks (model prog w) s.heap (bindSpecial (.builtin "object.__init__") self) (.builtin "object.__init__",[self]))
  (h:codeAny (model prog w) (A.under (.builtin "type.__call__" ⟨[.ref C],[]⟩)) (.call (.builtin "object.__init__") ⟨[.ref (s.heap.objs.size + 1)],[]⟩) (PySem.W.InitBack (s.heap.objs.size + 1) R)
   { s with heap:=(s.heap.push PySem.W.emptyDict).push (PySem.W.instObj C s.heap.objs.size) }) :
  codeAny (model prog w) A (.call (.ref C) ⟨[],[]⟩) R s:=by
 obtain ⟨hh,g,d,t,os⟩:=s
 exact PySem.W.make_core (PySem.W.makes_of X hm) (PySem.W.looks_findIn X hi) hb (.inr ⟨rfl,rfl⟩) h
end
def putF (f:Str) (v:V):List (Str × V)->List (Str × V)
 | []=>[(f,v)]
 | (g,x) :: r=>if g=f then (g,v) :: r else (g,x) :: putF f v r
theorem lookup_putF (f g:Str) (v:V): ∀ fs:List (Str × V),(putF f v fs).lookup g=if g=f then some v else fs.lookup g
 | []=>by
  show List.lookup g [(f,v)]=_
  by_cases h:g=f
  ·have hb:(g == f)=true:=beq_iff_eq.mpr h
   simp only [List.lookup,hb,if_pos h]
  ·have hb:(g == f)=false:=beq_eq_false_iff_ne.mpr h
   simp only [List.lookup,hb,if_neg h]
 | (k,x) :: r=>by
  have ih:=lookup_putF f g v r
  rw [show putF f v ((k,x) :: r)=(if k=f then (k,v) :: r else (k,x) :: putF f v r) from rfl]
  by_cases hk:k=f
  ·rw [if_pos hk]
   by_cases h:g=k
   ·have hb:(g == k)=true:=beq_iff_eq.mpr h
    simp only [List.lookup,hb,if_pos (h.trans hk)]
   ·have hb:(g == k)=false:=beq_eq_false_iff_ne.mpr h
    simp only [List.lookup,hb,if_neg (fun e:g=f=>h (e.trans hk.symm))]
  ·rw [if_neg hk]
   by_cases h:g=k
   ·have hb:(g == k)=true:=beq_iff_eq.mpr h
    simp only [List.lookup,hb,if_neg (fun e:g=f=>hk (h.symm.trans e))]
   ·have hb:(g == k)=false:=beq_eq_false_iff_ne.mpr h
    simp only [List.lookup,hb]
    exact ih
theorem keys_putF (f:Str) (v:V): ∀ fs:List (Str × V),f ∈ (putF f v fs).map (·.1)/\ ∀ g,g ∈ fs.map (·.1)->g ∈ (putF f v fs).map (·.1)
 | []=>⟨by simp [putF],fun g h=>by simp at h⟩
 | (k,x) :: r=>by
  obtain ⟨i1,i2⟩:=keys_putF f v r
  rw [show putF f v ((k,x) :: r)=(if k=f then (k,v) :: r else (k,x) :: putF f v r) from rfl]
  by_cases hk:k=f
  ·rw [if_pos hk]
   subst hk
   exact ⟨by simp,fun g h=>by simpa using h⟩
  ·rw [if_neg hk]
   refine ⟨?_,fun g h=> ?_⟩
   ·rw [List.map_cons]
    exact List.mem_cons_of_mem _ i1
   ·rw [List.map_cons] at h ⊢
    rcases List.mem_cons.mp h with e | e
    ·exact List.mem_cons.mpr (.inl e)
    ·exact List.mem_cons_of_mem _ (i2 g e)
theorem length_putF (f:Str) (v:V): ∀ fs:List (Str × V),(putF f v fs).length<=fs.length + 1
 | []=>by simp [putF]
 | (k,x) :: r=>by
  have ih:=length_putF f v r
  rw [show putF f v ((k,x) :: r)=(if k=f then (k,v) :: r else (k,x) :: putF f v r) from rfl]
  by_cases hk:k=f
  ·rw [if_pos hk,List.length_cons,List.length_cons]; omega
  ·rw [if_neg hk,List.length_cons,List.length_cons]; omega
theorem RelO.some_of {v:V} {o:Option Value} (r:RelO (some v) o): ∃ u,o=some u/\RelV v u:=by
 cases o with
 | none=>exact (show False from r).elim
 | some u=>exact ⟨u,rfl,r⟩
theorem RelO.none_of {o:Option Value} (r:RelO none o):o=none:=by
 cases o with
 | none=>rfl
 | some u=>exact (show False from r).elim
theorem handed_of {v:V} {u:Value} (r:RelV v u):PySem.W.handedIn u=true:=by
 cases v with
 | non=>cases (show u=Value.none from r); rfl
 | bl b=>cases (show u=Value.bool b from r); rfl
 | int i=>obtain ⟨t,e⟩:=(show ∃ t,u=Value.int i t from r); cases e; rfl
 | str x=>obtain ⟨t,e⟩:=(show ∃ t,u=Value.str x t from r); cases e; rfl
 | byt b=>obtain ⟨t,e⟩:=(show ∃ t,u=Value.bytes b t from r); cases e; rfl
 | flt b=>obtain ⟨t,e⟩:=(show ∃ t,u=Value.float b t from r); cases e; rfl
 | ref a=>cases (show u=Value.ref a from r); rfl
 | ty n=>cases (show u=Value.type n from r); rfl
section
variable {P:Program} {w:World} {H H':Hp} {h h':Heap} {a C dx:Addr} {fs fs':List (Str × V)}
theorem ins_get (hok:HOk P w H h) (e:H a=some (.ins C dx fs)): ∃ mA,ObjM h a dx C mA/\(∀ f,RelO (fs.lookup f) (mA f))/\PySem.Within mA (fs.map (·.1))/\fs.length<=1000/\H dx=some (.own a):=by
 obtain ⟨d,z,ne,ob,mA,n,r,q⟩:=(show ObjOk P w H h a (.ins C dx fs) from hok a _ e)
 exact ⟨mA,⟨ob,n,ne⟩,r,q,z,d⟩
end
structure Cls (K:Fg) (C:Addr):Prop where
 pg:PySem.W.plainGet K C Str.empty=true
 hd:PySem.W.hasDictIn K C=true
 po:PySem.W.plainOver K C=true
 sa:PySem.W.findIn K (.ref C) "__setattr__"=some (some (.builtin "object.__setattr__"))
theorem Cls.get {K:Fg} {C:Addr} (c:Cls K C) (f:Str):PySem.W.plainGet K C f=true:=c.pg
def NoAttr (K:Fg) (C:Addr) (f:Str):Prop:=PySem.W.findIn K (.ref C) f=some none
theorem NoAttr.taker {K:Fg} {C:Addr} {f:Str} (n:NoAttr K C f):PySem.W.takerIn K C f=some none:=by
 unfold PySem.W.takerIn
 rw [show PySem.W.findIn K (.ref C) f=some none from n]
 rfl
structure Con (K:Fg) (C:Addr) (f:Str) (v:V) (u:Value):Prop where
 at_:PySem.W.findIn K (.ref C) f=some (some u)
 rel:RelV v u
 get:PySem.W.specialIn K u "__get__"=some none
 cp:PySem.W.copiedNames.contains f=false
structure Meth (K:Fg) (C:Addr) (m:Str) (f:Addr):Prop where
 at_:PySem.W.findIn K (.ref C) m=some (some (.ref f))
 fn:PySem.W.isFn K (.ref f)=true
 kp:PySem.W.keepIn K (.ref f)=true
section
variable {X:Cx} {pins:List (Addr × Obj)} {σ :St} {H:Hp} {s:Shared} {a C dx:Addr} {fs:List (Str × V)} {f:Str} {v:V} {A:Around} {E:Value->Shared->Prop}
theorem getattr_ok {b:Bool} {Q:Value->Shared->Prop} (I:Inv X pins σ H s) (e:H a=some (.ins C dx fs)) (c:Cls X.K C) (n:NoAttr X.K C f) (l:fs.lookup f=some v)
  (h: ∀ u s',Inv X pins σ H s'->RelV v u->Q u s'):wpAny (model X.prog X.w) A (getAttr (.ref a) f b) Q E s:=by
 obtain ⟨mA,O,r,_,_,_⟩:=ins_get I.hok e
 obtain ⟨u,hu,ru⟩:=RelO.some_of (v:=v) (o:=mA f) (by rw [<- l]; exact r f)
 exact get_map I.kIn O (c.get f) c.hd n hu (handed_of ru) (h u _ (I.tok _) ru)
theorem getmeth_ok {m:Str} {g:Addr} {pl:Sem Bool} {Q:Value × List Value->Shared->Prop} (I:Inv X pins σ H s) (e:H a=some (.ins C dx fs)) (c:Cls X.K C) (k:Meth X.K C m g) (l:fs.lookup m=none)
  (h:Q (.ref g,[.ref a]) s):wpAny (model X.prog X.w) A (getMethod (.ref a) m pl) Q E s:=by
 obtain ⟨mA,O,r,_,_,_⟩:=ins_get I.hok e
 have hn:mA m=none:=RelO.none_of (by rw [<- l]; exact r m)
 exact get_meth I.kIn O (c.get m) k.at_ k.fn hn h
theorem setattr_ok {y:V} {u:Value} {Q:Unit->Shared->Prop} (I:Inv X pins σ H s) (e:H a=some (.ins C dx fs)) (c:Cls X.K C) (n:NoAttr X.K C f) (hl:fs.length < 1000) (ry:RelV y u)
  (h: ∀ s',Inv X pins σ (upd H a (.ins C dx (putF f y fs))) s'->Q () s'):wpAny (model X.prog X.w) A (setAttr (.ref a) f u) Q E s:=by
 obtain ⟨mA,O,r,wi,_,ho⟩:=ins_get I.hok e
 have hz:(fs.map (·.1)).length<=sizeLine:=by rw [List.length_map,sizeLine_eq]; omega
 refine set_map I.kIn O c.sa c.po n.taker c.hd wi hz fun h' O' sb=>h _ ?_
 have hd: ∃ o,h'.get? dx=some o:=let ⟨o,_,_,e',_⟩:=O'.ns; ⟨o,e'⟩
 refine I.write (x:=a) (e:=dx) (by rw [e]; exact True.intro) (.inr ho) (fun b q hb z=>(sb.2 b hb).trans z) hd ?_
 refine ⟨by rw [upd_ne O.ne]; exact ho,?_,O.ne,O'.obj,_,O'.ns,fun g=> ?_,fun g hg=> ?_⟩
 ·have:=length_putF f y fs; omega
 ·show RelO ((putF f y fs).lookup g) (if g=f then some u else mA g)
  rw [lookup_putF]
  by_cases q:g=f
  ·rw [if_pos q,if_pos q]; exact ry
  ·rw [if_neg q,if_neg q]; exact r g
 ·by_cases q:g=f
  ·rw [q]; exact (keys_putF f y fs).1
  ·refine (keys_putF f y fs).2 g (wi g fun z=>hg ?_)
   show (if g=f then some u else mA g)=none
   rw [if_neg q]; exact z
theorem Inv.made (I:Inv X pins σ H s):Inv X pins σ (upd (upd H s.heap.objs.size (.own (s.heap.objs.size + 1))) (s.heap.objs.size + 1) (.ins C s.heap.objs.size []))
  { s with heap:=(s.heap.push PySem.W.emptyDict).push (PySem.W.instObj C s.heap.objs.size) }:=by
 have e1:(s.heap.push PySem.W.emptyDict).get? s.heap.objs.size=some PySem.W.emptyDict:=Heap.get?_push_size s.heap rfl
 have e2:((s.heap.push PySem.W.emptyDict).push (PySem.W.instObj C s.heap.objs.size)).get? (s.heap.objs.size + 1)=some (PySem.W.instObj C s.heap.objs.size):=by
  have:=Heap.get?_push_size (s.heap.push PySem.W.emptyDict) (o:=PySem.W.instObj C s.heap.objs.size) rfl
  rwa [Heap.size_push] at this
 have e3:(s.heap.push PySem.W.emptyDict).Ns s.heap.objs.size (fun _=>none):=⟨PySem.W.emptyDict, #[],_,e1,rfl,(fun e he=>absurd he (by simp)),fun _=>rfl⟩
 have I1:=I.laid (a:=s.heap.objs.size) (o:= .own (s.heap.objs.size + 1)) (h':=s.heap.push PySem.W.emptyDict) (t':=s.toks) (fun b u q=>Heap.get?_push_of_some _ q) (Nat.le_refl _) ⟨_,e1⟩
 refine I1.laid (a:=s.heap.objs.size + 1) (o:= .ins C s.heap.objs.size []) (t':=s.toks) (fun b u q=>Heap.get?_push_of_some _ q) (Nat.le_of_eq (Heap.size_push _ _)) ?_
 have ne:s.heap.objs.size ≠ s.heap.objs.size + 1:=Nat.ne_of_lt (Nat.lt_succ_self _)
 refine ⟨by rw [upd_ne ne,upd_same],Nat.zero_le _,ne,e2,fun _=>none,(Heap.Ns1.of_empty e3).at fun o q=>Heap.get?_push_of_some _ q,fun _=>True.intro,fun y hy=>absurd rfl hy⟩
theorem attr_of {prog:Program} {w:World} {env:Env} {e:Expr} {f:Str} {pos:Pos} {s:Shared} {Q:Value->Shared->Prop} (hb:attributeBase e f env (eval e env)=eval e env)
  (h:wpAny (model prog w) A (eval e env) (fun o s₁=>wpAny (model prog w) A (getAttr o f true) Q E s₁) E s):wpAny (model prog w) A (eval (.Attribute e f pos) env) Q E s :=
 Attribute_any_ h (by rw [arm_eval_Attribute,hb])
end
def tFld (K:Fg) (ta:TE) (f:Str):TE:=fun σ H Q=>ta σ H fun x H1=> ∃ a C dx fs v,x= .ref a/\H1 a=some (.ins C dx fs)/\Cls K C/\NoAttr K C f/\fs.lookup f=some v/\Q v H1
def sFld (K:Fg) (ta tv:TE) (f:Str):TS:=fun D σ H=>tv σ H fun y H1=>ta σ H1 fun x H2=> ∃ a C dx fs,x= .ref a/\H2 a=some (.ins C dx fs)/\Cls K C/\NoAttr K C f/\fs.length < 1000 /\
 D.nx σ (upd H2 a (.ins C dx (putF f y fs)))
def InOp (X:Cx) (op:Operator) (rd:V->V->Hp->VK->Prop):Prop :=
 ∀ (pins:List (Addr × Obj)) (s:Shared) (σ :St) (H:Hp) (x y:V) (u v:Value) (Q:VK),Inv X pins σ H s->RelV x u->RelV y v->rd x y H Q->wpAny (model X.prog X.w) X.A (inplaceOp op u v) (EP X pins σ Q) X.xe s
def sFldAug (K:Fg) (ta tv:TE) (rd:V->V->Hp->VK->Prop) (f:Str):TS:=fun D σ H=>ta σ H fun x H1=> ∃ a C dx fs v,x= .ref a/\H1 a=some (.ins C dx fs)/\Cls K C/\NoAttr K C f/\fs.lookup f=some v /\
 tv σ H1 fun y H2=>rd v y H2 fun z H3=> ∃ dx' fs',H3 a=some (.ins C dx' fs')/\fs'.length < 1000/\D.nx σ (upd H3 a (.ins C dx' (putF f z fs')))
section
variable {X:Cx} {o e value:Expr} {f:Str} {pos pos' tpos:Pos} {ta tv:TE}
theorem pe_fld (he:PE X e ta) (hb:attributeBase e f X.env (eval e X.env)=eval e X.env):PE X (.Attribute e f pos) (tFld X.K ta f):=by
 intro pins s σ H Q I h
 refine attr_of hb (thn (he pins s σ H _ I h) fun u s1 ⟨x,H1,I1,rx,a,C,dx,fs,v,ex,ea,c,n,l,q⟩=> ?_)
 subst ex
 obtain rfl:u=Value.ref a:=rx
 exact getattr_ok I1 ea c n l fun u' s2 I2 ru=>⟨v,H1,I2,ru,q⟩
theorem ps_fld (ha:PE X o ta) (hv:PE X value tv) (hs:swapsWith value (some (.Attribute o f pos')) pos.line X.env=pure false):PS X (.Assign [.Attribute o f pos'] value pos) (sFld X.K ta tv f):=by
 intro pins s σ H D I h
 refine plainObj_wpAny_Assign_Attribute (thn (hv pins s σ H _ I h) fun u s1 ⟨y,H1,I1,ry,q⟩=>thn (ha pins s1 σ H1 _ I1 q) fun ov s2 ⟨x,H2,I2,rx,a,C,dx,fs,ex,ea,c,n,l,q2⟩=> ?_) hs
 subst ex
 obtain rfl:ov=Value.ref a:=rx
 exact setattr_ok I2 ea c n l ry fun s3 I3=>⟨σ,_,I3,q2⟩
theorem ps_fldaug {op:Operator} {rd:V->V->Hp->VK->Prop} (ha:PE X o ta) (hv:PE X value tv) (hop:InOp X op rd):PS X (.AugAssign (.Attribute o f tpos) op value pos) (sFldAug X.K ta tv rd f):=by
 intro pins s σ H D I h
 refine wpAny_AugAssign_AttributeAny (thn (ha pins s σ H _ I h) fun ov s1 ⟨x,H1,I1,rx,a,C,dx,fs,v,ex,ea,c,n,l,q⟩=> ?_)
 subst ex
 obtain rfl:ov=Value.ref a:=rx
 refine getattr_ok I1 ea c n l fun u s2 I2 ru=>thn (hv pins s2 σ H1 _ I2 q) fun w3 s3 ⟨y,H2,I3,ry,q3⟩=>thn (hop pins s3 σ H2 v y u w3 _ I3 ru ry q3) fun w4 s4 ⟨z,H3,I4,rz,dx',fs',ea',l',q4⟩=> ?_
 exact setattr_ok I4 ea' c n l' rz fun s5 I5=>⟨σ,_,I5,q4⟩
def rAdd:V->V->Hp->VK->Prop:=fun x y H Q=> ∃ i j,x= .int i/\y= .int j/\Q (.int (i + j)) H
theorem in_add:InOp X .Add rAdd:=by
 rintro pins s σ H x y u v Q I rx ry ⟨i,j,rfl,rfl,q⟩
 obtain ⟨t,rfl⟩:=(show ∃ t,u=Value.int i t from rx)
 obtain ⟨t',rfl⟩:=(show ∃ t',v=Value.int j t' from ry)
 exact PyProof.Rows.iadd_int ⟨.int (i + j),H,I.tok _,⟨_,rfl⟩,q⟩
end
section
variable {X:Cx} {pins:List (Addr × Obj)} {σ :St} {H:Hp} {s:Shared} {A:Around} {E:Value->Shared->Prop} {Q:Value->Shared->Prop} {c:Value} {b:Bool}
inductive TyOf (K:Fg) (H:Hp):V->Value->Prop where
 | non:TyOf K H .non (.type "NoneType")
 | bl (x:Bool):TyOf K H (.bl x) (.type "bool")
 | int (i:Int):TyOf K H (.int i) (.type "int")
 | str (x:Str):TyOf K H (.str x) (.type "str")
 | flt (x:UInt64):TyOf K H (.flt x) (.type "float")
 | lst {a:Addr} {xs:List V} (e:H a=some (.lst xs)):TyOf K H (.ref a) (.type "list")
 | frz {a:Addr} {o:Obj} {xs:List V} (e:H a=some (.frz o (.lst xs))):TyOf K H (.ref a) (.type "list")
 | tup {a:Addr} {xs:List V} (e:H a=some (.tup xs)):TyOf K H (.ref a) (.type "tuple")
 | dK {a:Addr} {kvs:List (Key × V)} {ep:Nat} (e:H a=some (.dK kvs ep)):TyOf K H (.ref a) (.type "dict")
 | dT {a:Addr} {kvs:List (List Key × V)} {ep:Nat} (e:H a=some (.dT kvs ep)):TyOf K H (.ref a) (.type "dict")
 | ins {a C dx:Addr} {fs:List (Str × V)} (e:H a=some (.ins C dx fs)) (cl:Cls K C) (ha:PySem.W.findIn K (.ref C) "__class__"=some (some (.builtin "object.__class__")))
   (hn:PySem.W.specialIn K (.builtin "object.__class__") "__get__"=some (some (.builtin "getset_descriptor.__get__"))) (htk:PySem.W.takesIn K (.builtin "object.__class__")=some true)
   (hm:PySem.W.mroIn K C (.type "object")=some true):TyOf K H (.ref a) (.ref C)
theorem isinst_ok {x:V} {u t:Value} (I:Inv X pins σ H s) (rx:RelV x u) (ty:TyOf X.K H x t) (e:PySem.W.kitOne X.K t c=some b) (h: ∀ tk,Q (.bool b) { s with toks:=tk }) :
  wpAny (model X.prog X.w) A (call (.builtin "isinstance") [u,c]) Q E s:=by
 cases ty with
 | non=>cases (show u=Value.none from rx); exact PySem.W.kia_one PySem.W.kitx_none I.kIn True.intro e (fun z=>nomatch z) h
 | bl y=>cases (show u=Value.bool y from rx); exact PySem.W.kia_one PySem.W.kitx_bool I.kIn True.intro e (fun z=>nomatch z) h
 | int i=>obtain ⟨t,q⟩:=(show ∃ t,u=Value.int i t from rx); cases q; exact PySem.W.kia_one PySem.W.kitx_int I.kIn True.intro e (fun z=>nomatch z) h
 | str y=>obtain ⟨t,q⟩:=(show ∃ t,u=Value.str y t from rx); cases q; exact PySem.W.kia_one PySem.W.kitx_str I.kIn True.intro e (fun z=>nomatch z) h
 | flt y=>obtain ⟨t,q⟩:=(show ∃ t,u=Value.float y t from rx); cases q; exact PySem.W.kia_one PySem.W.kitx_float I.kIn True.intro e (fun z=>nomatch z) h
 | @lst a xs ea =>
  cases (show u=Value.ref a from rx)
  obtain ⟨_,_,n,_,h1⟩:=(show ObjOk X.prog X.w H s.heap a (.lst xs) from I.hok a _ ea)
  exact PySem.W.kia_one PySem.W.kitx_list I.kIn ⟨_,h1,rfl⟩ e (fun z=>nomatch z) h
 | @frz a ob xs ea =>
  cases (show u=Value.ref a from rx)
  obtain ⟨_,_,_,n,_,h1⟩:=(show ObjOk X.prog X.w H s.heap a (.frz ob (.lst xs)) from I.hok a _ ea)
  exact PySem.W.kia_one PySem.W.kitx_list I.kIn ⟨_,h1,rfl⟩ e (fun z=>nomatch z) h
 | @tup a xs ea =>
  cases (show u=Value.ref a from rx)
  obtain ⟨_,_,_,p⟩:=(show ObjOk X.prog X.w H s.heap a (.tup xs) from I.hok a _ ea)
  obtain ⟨o,h1,h2,_⟩:=p
  exact PySem.W.kia_one PySem.W.kitx_tuple I.kIn ⟨o,h1,h2⟩ e (fun z=>nomatch z) h
 | @dK a kvs ep ea =>
  cases (show u=Value.ref a from rx)
  obtain ⟨_,_,vs,_,p⟩:=(show ObjOk X.prog X.w H s.heap a (.dK kvs ep) from I.hok a _ ea)
  obtain ⟨o,es,h1,h2,_⟩:=p
  exact PySem.W.kia_one PySem.W.kitx_dict I.kIn ⟨o,h1,h2.1⟩ e (fun z=>nomatch z) h
 | @dT a kvs ep ea =>
  cases (show u=Value.ref a from rx)
  obtain ⟨_,_,xs,_,o,es,h1,h2,_⟩:=(show ObjOk X.prog X.w H s.heap a (.dT kvs ep) from I.hok a _ ea)
  exact PySem.W.kia_one PySem.W.kitx_dict I.kIn ⟨o,h1,h2.1⟩ e (fun z=>nomatch z) h
 | @ins a C dx fs ea cl ha hn htk hm =>
  cases (show u=Value.ref a from rx)
  obtain ⟨mA,O,_⟩:=ins_get I.hok ea
  obtain ⟨od,J,_⟩:=O.look
  exact PySem.W.kia_one (PySem.W.kitx_own (cl.get _) cl.hd ha hn htk hm) I.kIn J e (fun z=>nomatch z) h
end
structure Room (k:Nat) (A:Around):Prop where
 hd:A.handled=none
 dp:A.depth + k + 5 < recursionLimit
 un:A.units + 16 * k + 200 < cLine
theorem Room.mono {j k:Nat} {A:Around} (r:Room k A) (h:j<=k):Room j A:=⟨r.hd,by have:=r.dp; omega,by have:=r.un; omega⟩
theorem Room.s {k:Nat} {A:Around} (h:Room (k + 1) A):Room k A:=h.mono (Nat.le_succ _)
theorem Room.deeper {k:Nat} {A:Around} (r:Room (k + 1) A) (env:Env):Room k (A.deeper env) :=
 ⟨r.hd,by have:=r.dp; show A.depth + 1 + k + 5 < _; omega,by have:=r.un; show A.units + 3 + 16 * k + 200 < _; omega⟩
theorem Room.in1 {k:Nat} {A:Around} (r:Room (k + 1) A):Room k A.in1 :=
 ⟨r.hd,by have:=r.dp; show A.depth + k + 5 < _; omega,by have:=r.un; show A.units + 1 + 16 * k + 200 < _; omega⟩
theorem make_depth {A:Around} {C:Addr} {us:List Value} {kw:List (Str × Value)}:(A.under (.builtin "type.__call__" ⟨.ref C :: us,kw⟩)).depth=A.depth + 1:=by
 first | rfl | simp [Around.under,Code.weight,Code.isCreation,Code.isGuard,Code.isCaller,Code.frames,Code.isFrame,guardIds]
theorem make_units {A:Around} {C:Addr} {us:List Value} {kw:List (Str × Value)}:(A.under (.builtin "type.__call__" ⟨.ref C :: us,kw⟩)).units=A.units + 1:=by
 first | rfl | simp [Around.under,Code.cUnits,Code.frames,Code.isFrame]
theorem Room.make {k:Nat} {A:Around} (r:Room (k + 1) A) (C:Addr) (us:List Value) (kw:List (Str × Value)):Room k (A.under (.builtin "type.__call__" ⟨.ref C :: us,kw⟩)) :=
 ⟨r.hd,by have:=r.dp; rw [make_depth]; omega,by have:=r.un; rw [make_units]; omega⟩
theorem Room.depth {k:Nat} {A:Around} (r:Room k A):A.depth < recursionLimit:=by have:=r.dp; omega
theorem Room.units {k:Nat} {A:Around} (r:Room k A):A.units + 64 < cLine:=by have:=r.un; omega
def tNil:TA:=fun _ H Q=>Q [] H
def tCons (ta:TE) (tr:TA):TA:=fun σ H Q=>ta σ H fun x H1=>tr σ H1 fun xs H2=>Q (x :: xs) H2
section
variable {X:Cx} {e:Expr} {es:List Expr} {te:TE} {t:TA} {pos:Pos}
theorem pa_nil:PA X [] tNil:=fun _ _ _ _ H Q I h=>Calls.spliced_nil ⟨[],H,I,.nil,h⟩
theorem pa_cons (ha:PE X e te) (hr:PA X es t) (hs:starEach (e :: es) X.env=(false,eval e X.env) :: starEach es X.env:=by rfl):PA X (e :: es) (tCons te t):=by
 intro pos pins s σ H Q I h
 rw [hs]
 show wpAny _ _ (spliced ((false,eval e X.env) :: backTo pos (starEach es X.env))) _ _ s
 refine Calls.spliced_cons (thn (ha pins s σ H _ I h) fun u s1 ⟨x,H1,I1,r1,q1⟩=> ?_)
 exact thn (hr pos pins s1 σ H1 _ I1 q1) fun us s2 ⟨xs,H2,I2,r2,q2⟩=>⟨x :: xs,H2,I2,.cons r1 r2,q2⟩
def tTup (t:TA):TE:=fun σ H Q=>t σ H fun xs H1=>xs.length<=sizeLine/\ ∀ p,H1 p=none->Q (.ref p) (upd H1 p (.tup xs))
def tLst (t:TA):TE:=fun σ H Q=>t σ H fun xs H1=>xs.length<=sizeLine/\ ∀ p,H1 p=none->Q (.ref p) (upd H1 p (.lst xs))
theorem pe_tup {x1} (h:PA X es t):PE X (.Tuple es x1 pos) (tTup t):=by
 intro pins s σ H Q I hq
 refine wpAny_Tuple_spliced (thn (h pos pins s σ H _ I hq) fun us s1 ⟨xs,H1,I1,r,z,q⟩=>⟨by rw [<- r.length]; exact z,?_⟩)
 have hf:H1 s1.heap.objs.size=none:=I1.hok.fresh (Nat.le_refl _)
 refine ⟨.ref s1.heap.objs.size,upd H1 s1.heap.objs.size (.tup xs),I1.laid (t':=s1.toks) (fun b u e=>Heap.get?_push_of_some _ e) (Nat.le_refl _) ?_,rfl,q _ hf⟩
 exact ⟨z,us,r,⟨_,Heap.get?_push_size _ rfl,rfl,_,rfl⟩⟩
theorem pe_lst (h:PA X es t):PE X (.List es pos) (tLst t):=by
 intro pins s σ H Q I hq
 refine wpAny_List_spliced (thn (h pos pins s σ H _ I hq) fun us s1 ⟨xs,H1,I1,r,z,q⟩=>⟨by rw [<- r.length]; exact z,?_⟩)
 have hf:H1 s1.heap.objs.size=none:=I1.hok.fresh (Nat.le_refl _)
 refine ⟨.ref s1.heap.objs.size,upd H1 s1.heap.objs.size (.lst xs),I1.laid (t':=s1.toks) (fun b u e=>Heap.get?_push_of_some _ e) (Nat.le_refl _) ?_,rfl,q _ hf⟩
 exact ⟨z,us,0,r,Heap.get?_push_size _ rfl⟩
end
abbrev Sp:=List V->Hp->VK->XK->Prop
abbrev CXT:=List Env->Hp->Shared->XK->Value->Shared->Prop
structure Env0 (P:Program) (w:World) (K:Fg) (mg:Str->Option Value) (base:Bs) (A:Around) (outer:List Env) (s:Shared) (H:Hp):Prop where
 frames:A.frames=some outer
 mod:Mod K mg base
 bs: ∀ b o,base.get? b=some o->s.heap.get? b=some o/\H b=none
 bsz:base.objs.size<=s.heap.objs.size
 funs:s.heap.FunFrames base outer
 frf: ∀ b ∈ frs outer,H b=none
 hok:HOk P w H s.heap
 bare:AllBare s.gens
 tab: ∀ P ∈ base.tabs,H P=some (.tbl 0)
def CE (outer:List Env) (P:Program) (w:World) (H:Hp) (s:Shared) (Q:VK) (u:Value) (s':Shared):Prop :=
 ∃ v H',s'.os=s.os/\AllBare s'.gens/\Un (frs outer) [] H H' s.heap s'.heap/\HOk P w H' s'.heap/\RelV v u/\Q v H'
def CR (CX:CXT) (outer:List Env) (P:Program) (w:World) (H:Hp) (s:Shared) (Q:VK) (E:XK) (r:Result) (s':Shared):Prop :=
 match r with
 | .ok (.ret u)=>CE outer P w H s Q u s'
 | .ok _=>False
 | .error e=>CX outer H s E e s'
structure FnOk (P:Program) (w:World) (K:Fg) (mg:Str->Option Value) (base:Bs) (CX:CXT) (k:Nat) (f:Addr) (fd:FuncData) (ps:List Str) (sp:Sp):Prop where
 len: ∀ vs H Q E,sp vs H Q E->vs.length=ps.length
 run: ∀ (A:Around) (outer:List Env) (s:Shared) (H:Hp) (args:Args) (us:List Value) (vs:List V) (Q:VK) (E:XK),Room k A->Env0 P w K mg base A outer s H->BindsTo s fd args (ps.zip us)->Vals vs us->sp vs H Q E ->
  codeAny (model P w) A (.call (.ref f) args) (CR CX outer P w H s Q E) s
theorem FnOk.mono {P:Program} {w:World} {K:Fg} {mg:Str->Option Value} {base:Bs} {CX:CXT} {j k:Nat} {f:Addr} {fd:FuncData} {ps:List Str} {sp:Sp} (F:FnOk P w K mg base CX j f fd ps sp) (h:j<=k) :
  FnOk P w K mg base CX k f fd ps sp:=⟨F.len,fun A outer s H args us vs Q E hr=>F.run A outer s H args us vs Q E (hr.mono h)⟩
theorem FnOk.imp {P:Program} {w:World} {K:Fg} {mg:Str->Option Value} {base:Bs} {CX:CXT} {k:Nat} {f:Addr} {fd:FuncData} {ps:List Str} {sp sp':Sp} (F:FnOk P w K mg base CX k f fd ps sp)
  (h: ∀ vs H Q E,sp' vs H Q E->sp vs H Q E):FnOk P w K mg base CX k f fd ps sp' :=
 ⟨fun vs H Q E q=>F.len vs H Q E (h _ _ _ _ q),fun A outer s H args us vs Q E hr he hb hv hs=>F.run A outer s H args us vs Q E hr he hb hv (h _ _ _ _ hs)⟩
theorem Env0.make {P:Program} {w:World} {K:Fg} {mg:Str->Option Value} {base:Bs} {A:Around} {outer:List Env} {s:Shared} {H:Hp} (e:Env0 P w K mg base A outer s H) (C:Addr) (us:List Value) (kw:List (Str × Value)) :
  Env0 P w K mg base (A.under (.builtin "type.__call__" ⟨.ref C :: us,kw⟩)) outer s H:=⟨by first | exact e.frames | (simpa [Around.under,Code.envs,Code.isFrame,pushEnvs] using e.frames),e.mod,e.bs,e.bsz,e.funs,e.frf,e.hok,e.bare,e.tab⟩
theorem Env0.in1 {P:Program} {w:World} {K:Fg} {mg:Str->Option Value} {base:Bs} {A:Around} {outer:List Env} {s:Shared} {H:Hp} (e:Env0 P w K mg base A outer s H) :
  Env0 P w K mg base A.in1 outer s H:=⟨e.frames,e.mod,e.bs,e.bsz,e.funs,e.frf,e.hok,e.bare,e.tab⟩
section
variable {X:Cx} {pins:List (Addr × Obj)} {σ :St} {H:Hp} {s s':Shared}
theorem Inv.env0 (I:Inv X pins σ H s):Env0 X.prog X.w X.K X.mg X.base X.A X.stack s H :=
 ⟨I.ok.frames,I.ok.mod,I.bs,Nat.le_trans I.ok.bsz I.sz,I.stack,I.stkFree,I.hok,I.bare,fun P z=>I.base.tbls P 0 (I.ok.tab P z)⟩
theorem Inv.after {Q:VK} {u:Value} (I:Inv X pins σ H s) (h:CE X.stack X.prog X.w H s Q u s'):EP X pins σ Q u s':=by
 obtain ⟨v,H',os,bare,un,hok,r,q⟩:=h
 obtain ⟨hh,g,d,t,os'⟩:=s'
 obtain rfl:os'=s.os:=os
 exact ⟨v,H',I.call (h':=hh) (g':=g) (d':=d) (t':=t) (ch:=[]) un hok bare (fun b z=>absurd z (by simp)),r,q⟩
end
def tCall (sp:Sp) (dvs:List V) (E:XK) (t:TA):TE:=fun σ H Q=>t σ H fun vs H1=>sp (vs ++ dvs) H1 Q E
def tMake (C:Addr) (sp:Sp) (dvs:List V) (E:XK) (t:TA):TE:=fun σ H Q=>t σ H fun vs H1=> ∀ x dx,H1 x=none->H1 dx=none->dx ≠ x ->
 sp (.ref x :: (vs ++ dvs)) (upd (upd H1 dx (.own x)) x (.ins C dx [])) (fun v H2=>v= .non/\Q (.ref x) H2) E
def Binds (K:Fg) (fd:FuncData) (ps:List Str) (ds:List Value):Prop :=
 ∀ (s:Shared) (us:List Value),K.In s.heap->(us ++ ds).length=ps.length->BindsTo s fd ⟨us,[]⟩ (ps.zip (us ++ ds))
theorem Binds.all {K:Fg} {fd:FuncData} {ps:List Str} (h: ∀ us:List Value,us.length=ps.length->bindArgs fd ⟨us,[]⟩=pure (ps.zip us)):Binds K fd ps []:=fun s us _ hl=>by
 rw [List.append_nil] at hl ⊢
 exact .of_eq (h us hl)
def Passes (CX:CXT) (X:Cx) (E:XK):Prop:= ∀ (pins:List (Addr × Obj)) (σ :St) (H:Hp) (s:Shared) (e:Value) (s':Shared),Inv X pins σ H s->CX X.stack H s E e s'->X.xe e s'
section
variable {X:Cx} {CX:CXT} {k:Nat} {f C:Addr} {fd:FuncData} {ps:List Str} {sp:Sp} {dvs:List V} {ds:List Value} {E:XK} {x m:Str} {p pos apos:Pos} {e o:Expr} {es:List Expr} {ta:TE} {t:TA}
theorem run_fn {pins:List (Addr × Obj)} {σ :St} {H:Hp} {s:Shared} {Q:VK} {us:List Value} {vs:List V} (F:FnOk X.prog X.w X.K X.mg X.base CX k f fd ps sp) (hr:Room k X.A) (hb:Binds X.K fd ps ds) (hd:Vals dvs ds) (hx:Passes CX X E)
  (I:Inv X pins σ H s) (r:Vals vs us) (h:sp (vs ++ dvs) H Q E):wpAny (model X.prog X.w) X.A (call (.ref f) us) (EP X pins σ Q) X.xe s:=by
 have r2:Vals (vs ++ dvs) (us ++ ds):=r.append hd
 have hl:(us ++ ds).length=ps.length:=by rw [<- r2.length]; exact F.len _ _ _ _ h
 refine wpAny_call (codeAny_mono (F.run X.A X.stack s H ⟨us,[]⟩ (us ++ ds) (vs ++ dvs) Q E hr I.env0 (hb s us I.kIn hl) r2 h) fun r s' hq=> ?_)
 cases r with
 | error e=>exact hx pins σ H s e s' I hq
 | ok fl =>
  cases fl with
  | ret u=>exact I.after hq
  | next=>exact False.elim hq
  | brk=>exact False.elim hq
  | cont=>exact False.elim hq
theorem pe_call (F:FnOk X.prog X.w X.K X.mg X.base CX k f fd ps sp) (hr:Room k X.A) (hg:Gl X x) (hm:X.mg x=some (.ref f)) (hk:PySem.W.keepIn X.K (.ref f)=true) (hb:Binds X.K fd ps ds) (hd:Vals dvs ds) (hx:Passes CX X E)
  (ha:PA X (e :: es) t) (hdb:(x == ("__debug__":Str))=false:=by decide) (he:starEach (e :: es) X.env=(false,eval e X.env) :: starEach es X.env:=by rfl) (hpl:(backTo pos (starEach es X.env)).any (·.1)=false:=by rfl) :
  PE X (.Call (.Name x p) (e :: es) [] pos) (tCall sp dvs E t):=by
 intro pins s σ H Q I h
 refine wpAny_Call_Name_kw (ld_glob I hg hm ?_ hdb)
 refine PySem.W.callWith_K (h₀:=X.base) I.ok.mod.kin hk (thn (ha pos pins s σ H _ I h) fun us s1 ⟨vs,H1,I1,r,q⟩=>⟨I1.kIn,?_⟩) he hpl
 exact run_fn F hr hb hd hx I1 r q
structure Mk (K:Fg) (C f:Addr):Prop where
 makes:PySem.W.makesIn K C=true
 init:PySem.W.findIn K (.ref C) "__init__"=some (some (.ref f))
 fn:PySem.W.isFn K (.ref f)=true
 kp:PySem.W.keepIn K (.ref C)=true
theorem run_make {pins:List (Addr × Obj)} {σ :St} {H:Hp} {s:Shared} {Q:VK} {us:List Value} {vs:List V} (M:Mk X.K C f) (F:FnOk X.prog X.w X.K X.mg X.base CX k f fd ps sp) (hr:Room (k + 1) X.A) (hb:Binds X.K fd ps ds) (hd:Vals dvs ds)
  (hx:Passes CX X E) (I:Inv X pins σ H s) (r:Vals vs us)
  (h: ∀ x dx,H x=none->H dx=none->dx ≠ x->sp (.ref x :: (vs ++ dvs)) (upd (upd H dx (.own x)) x (.ins C dx [])) (fun v H2=>v= .non/\Q (.ref x) H2) E) :
  wpAny (model X.prog X.w) X.A (call (.ref C) us) (EP X pins σ Q) X.xe s:=by
 have hq:=h (s.heap.objs.size + 1) s.heap.objs.size (I.hok.fresh (Nat.le_succ _)) (I.hok.fresh (Nat.le_refl _)) (Nat.ne_of_lt (Nat.lt_succ_self _))
 have I2:=Inv.made (C:=C) I
 have r2:Vals (V.ref (s.heap.objs.size + 1) :: (vs ++ dvs)) (Value.ref (s.heap.objs.size + 1) :: (us ++ ds)):= .cons rfl (r.append hd)
 have hl:(Value.ref (s.heap.objs.size + 1) :: us ++ ds).length=ps.length:=by
  have e:=r2.length
  rw [F.len _ _ _ _ hq] at e
  exact e.symm
 refine wpAny_call (make_map (f:=f) I.kIn M.makes M.init (beq_iff_eq.mp M.fn) (codeAny_mono (F.run _ X.stack _ _ ⟨Value.ref (s.heap.objs.size + 1) :: us,[]⟩ (Value.ref (s.heap.objs.size + 1) :: (us ++ ds)) _ _ E (hr.make C us [])
  (I2.env0.make C us []) (hb _ (Value.ref (s.heap.objs.size + 1) :: us) I2.kIn hl) r2 hq) fun r s' hq'=> ?_))
 cases r with
 | error e=>exact hx pins σ _ _ e s' I2 hq'
 | ok fl =>
  cases fl with
  | ret u =>
   obtain ⟨v,H',I3,rv,ev,q3⟩:=I2.after hq'
   subst ev
   exact ⟨rv,⟨V.ref (s.heap.objs.size + 1),H',I3,rfl,q3⟩⟩
  | next=>exact False.elim hq'
  | brk=>exact False.elim hq'
  | cont=>exact False.elim hq'
theorem pe_make (M:Mk X.K C f) (F:FnOk X.prog X.w X.K X.mg X.base CX k f fd ps sp) (hr:Room (k + 1) X.A) (hg:Gl X x) (hm:X.mg x=some (.ref C)) (hb:Binds X.K fd ps ds) (hd:Vals dvs ds) (hx:Passes CX X E)
  (ha:PA X (e :: es) t) (hdb:(x == ("__debug__":Str))=false:=by decide) (he:starEach (e :: es) X.env=(false,eval e X.env) :: starEach es X.env:=by rfl) (hpl:(backTo pos (starEach es X.env)).any (·.1)=false:=by rfl) :
  PE X (.Call (.Name x p) (e :: es) [] pos) (tMake C sp dvs E t):=by
 intro pins s σ H Q I h
 refine wpAny_Call_Name_kw (ld_glob I hg hm ?_ hdb)
 refine PySem.W.callWith_K (h₀:=X.base) I.ok.mod.kin M.kp (thn (ha pos pins s σ H _ I h) fun us s1 ⟨vs,H1,I1,r,q⟩=>⟨I1.kIn,?_⟩) he hpl
 exact run_make M F hr hb hd hx I1 r q
end
section
variable {X:Cx} {CX:CXT} {k:Nat} {f C:Addr} {fd:FuncData} {ps ks:List Str} {sp:Sp} {E:XK} {x m:Str} {p pos apos kpos:Pos} {e o:Expr} {es:List Expr} {kws:List Keyword} {te ta:TE} {t tk:TA} {nm:Option Str}
structure KBinds (K:Fg) (fd:FuncData) (ps ks:List Str) (g:List Value->List Value->List Value) (gV:List V->List V->List V):Prop where
 to: ∀ (s:Shared) (us ws:List Value),K.In s.heap->(g us ws).length=ps.length->BindsTo s fd ⟨us,ks.zip ws⟩ (ps.zip (g us ws))
 rel: ∀ {vs:List V} {us:List Value} {zs:List V} {ws:List Value},Vals vs us->Vals zs ws->Vals (gV vs zs) (g us ws)
variable {g:List Value->List Value->List Value} {gV:List V->List V->List V}
end
structure FnScope (N P:List Str) (sc:Scope):Prop where
 kind:sc.kind= .function
 co:sc.isCoroutine=false
 gen:sc.isGenerator=false
 nd:N.Nodup
 pre:N.take P.length=P
 par: ∀ x ∈ P,sc.names.lookup x=some .local\/sc.names.lookup x=some .cell
 nofree: ∀ y ∈ sc.names,y.2 ≠ .free
theorem FnScope.q {N P:List Str} {sc:Scope} (a:sc.kind= .function:=by rfl) (b:sc.isCoroutine=false:=by rfl) (c:sc.isGenerator=false:=by rfl) (d:N.Nodup:=by decide +kernel) (e:N.take P.length=P:=by rfl) (g: ∀ x ∈ P,sc.names.lookup x=some .local\/sc.names.lookup x=some .cell:=by decide +kernel) (h: ∀ y ∈ sc.names,y.2 ≠ .free:=by decide +kernel):FnScope N P sc:=⟨a,b,c,d,e,g,h⟩
theorem bindL_out {kindOf:Str->Option NameKind} {x:Str}: ∀ {binds:List (Str × Value)} {m:Str->Option Value},(∀ v,(x,v) ∉ binds)->bindL kindOf binds m x=m x
 | [],_,_=>rfl
 | (n,v) :: r,m,h=>by
  unfold bindL
  rw [bindL_out fun w hw=>h w (List.mem_cons_of_mem _ hw)]
  split
  ·have:x ≠ n:=by rintro rfl; exact h v List.mem_cons_self
   simp [this]
  ·rfl
theorem bindC_out {kindOf:Str->Option NameKind} {x:Str}: ∀ {binds:List (Str × Value)} {m:Str->Option Value},(∀ v,(x,v) ∉ binds)->bindC kindOf binds m x=m x
 | [],_,_=>rfl
 | (n,v) :: r,m,h=>by
  unfold bindC
  rw [bindC_out fun w hw=>h w (List.mem_cons_of_mem _ hw)]
  split
  ·rfl
  ·have:x ≠ n:=by rintro rfl; exact h v List.mem_cons_self
   simp [this]
theorem bindL_get {kindOf:Str->Option NameKind} {x:Str} {v:Value}: ∀ {P:List Str} {vs:List Value} {i:Nat} {m:Str->Option Value},P.Nodup->P[i]? =some x->vs[i]? =some v->kindOf x=some .local ->
  bindL kindOf (P.zip vs) m x=some v
 | [],_,_,_,_,h,_,_=>by simp at h
 | _ :: _,[],_,_,_,_,h,_=>by simp at h
 | p :: P,w :: vs,0,m,nd,h1,h2,hk=>by
  simp at h1 h2; subst h1; subst h2
  show bindL kindOf ((p,w) :: P.zip vs) m p=_
  unfold bindL
  rw [bindL_out fun v hv=>(List.nodup_cons.mp nd).1 (List.of_mem_zip hv).1,if_pos hk]
  simp
 | p :: P,w :: vs,i + 1,m,nd,h1,h2,hk=>by
  show bindL kindOf ((p,w) :: P.zip vs) m x=_
  unfold bindL
  exact bindL_get (i:=i) (List.nodup_cons.mp nd).2 (by simpa using h1) (by simpa using h2) hk
theorem bindC_get {kindOf:Str->Option NameKind} {x:Str} {v:Value}: ∀ {P:List Str} {vs:List Value} {i:Nat} {m:Str->Option Value},P.Nodup->P[i]? =some x->vs[i]? =some v->kindOf x ≠ some .local ->
  bindC kindOf (P.zip vs) m x=some v
 | [],_,_,_,_,h,_,_=>by simp at h
 | _ :: _,[],_,_,_,_,h,_=>by simp at h
 | p :: P,w :: vs,0,m,nd,h1,h2,hk=>by
  simp at h1 h2; subst h1; subst h2
  show bindC kindOf ((p,w) :: P.zip vs) m p=_
  unfold bindC
  rw [bindC_out fun v hv=>(List.nodup_cons.mp nd).1 (List.of_mem_zip hv).1,if_neg hk]
  simp
 | p :: P,w :: vs,i + 1,m,nd,h1,h2,hk=>by
  show bindC kindOf ((p,w) :: P.zip vs) m x=_
  unfold bindC
  exact bindC_get (i:=i) (List.nodup_cons.mp nd).2 (by simpa using h1) (by simpa using h2) hk
def start (N:List Str) (vs:List V):St:=vs.map some ++ List.replicate (N.length - vs.length) none
def cxOf (CX:CXT) (P:Program) (w:World) (K:Fg) (mg:Str->Option Value) (base:Bs) (N:List Str) (qual:Str) (scope:Scope) (f:Addr) (cd:Value) (A:Around) (outer:List Env) (s:Shared) (H:Hp) (E:XK):Cx where
 prog:=P
 w:=w
 K:=K
 mg:=mg
 base:=base
 A:=A.deeper (envOfC qual scope s.heap.objs.size f cd)
 N:=N
 s₀:=s
 H₀:=H
 env:=envOfC qual scope s.heap.objs.size f cd
 outer:=outer
 stack:=envOfC qual scope s.heap.objs.size f cd :: outer
 ex:=[]
 calm:=true
 fn:=fun _=>true
 cw:=fun _=>true
 pn:=[]
 xe:=fun e s'=>wpAny (model P w) (A.deeper (envOfC qual scope s.heap.objs.size f cd)) (leaving (envOfC qual scope s.heap.objs.size f cd) e) (fun _ s''=>CX outer H s E e s'') (fun e' s''=>CX outer H s E e' s'') s'
theorem cell_has {sc:Scope} {n:Nat} {x:Str} (h:sc.names.lookup x=some .cell): ∃ c,(cellsFrom n sc.names []).lookup x=some c:=by
 have q:=PySem.W.cellsFrom_some sc.names n [] (.inl h)
 exact Option.isSome_iff_exists.mp q
theorem inv_start {CX:CXT} {P:Program} {w:World} {K:Fg} {mg:Str->Option Value} {base:Bs} {N ps:List Str} {qual:Str} {scope:Scope} {f:Addr} {cd:Value} {A:Around} {outer:List Env} {s s1:Shared} {H:Hp} {E:XK} {us:List Value} {vs:List V}
  (S:FnScope N ps scope) (hd:A.handled=none) (e0:Env0 P w K mg base A outer s H) (hl:vs.length=ps.length) (r:Vals vs us)
  (x:InCallC s s.heap.objs.size (bindL (envOfC qual scope s.heap.objs.size f cd).kindOf (ps.zip us) fun _=>none) (cellsFrom (s.heap.objs.size + 1) scope.names []) (bindC (envOfC qual scope s.heap.objs.size f cd).kindOf (ps.zip us) fun _=>none) s1) :
  Inv (cxOf CX P w K mg base N qual scope f cd A outer s H E) [] (start N vs) H s1:=by
 have hpl:ps.length<=N.length:=by have:=congrArg List.length S.pre; rw [List.length_take] at this; omega
 obtain ⟨h1,tk,rfl,hk⟩:=x.done
 have noA: ∀ b:Addr,b ∉ (cxOf CX P w K mg base N qual scope f cd A outer s H E).ex:=fun b z=>absurd (show b ∈ ([]:List Addr) from z) (by simp)
 refine ⟨⟨e0.mod,S.kind,rfl,rfl,Nat.le_refl _,fun y z c h1 h2=> ?_,fun y hy=> ?_,fun y c _ h=> ?_,fun _=>hd,Around.frames_deeper e0.frames,.inr ⟨rfl,rfl⟩,fun b z=>absurd z (noA b),e0.bs,e0.bsz,fun b _ _=>noA b,fun b z=>absurd z (noA b),e0.funs,e0.frf,e0.tab,fun _ z=>z⟩,
  rfl,e0.bare,Un.kept hk,⟨_,x.toInCall.ns,fun i y v h1 h2 h3=> ?_⟩,fun y c h=>⟨_,x.cell y c h⟩,e0.hok.fresh (Nat.le_refl _),fun y c h=> ?_,fun p hp=>absurd (show p ∈ ([]:List (Addr × Obj)) from hp) (by simp),e0.hok.kept hk,?_⟩
 ·exact name_of_addr x.apart (PySem.mem_of_lookup h1) (PySem.mem_of_lookup h2)
 ·have hy:scope.names.lookup y=some .cell\/scope.names.lookup y=some .free:=hy
  rcases hy with hy | hy
  ·exact cell_has hy
  ·exact absurd rfl (S.nofree _ (PySem.mem_of_lookup hy))
 ·exact Nat.le_of_lt (x.above y c (PySem.mem_of_lookup h))
 ·have hi:i < vs.length:=by
   unfold start at h2
   by_cases hi:i < vs.length
   ·exact hi
   ·rw [List.getElem?_append_right (by simpa using hi)] at h2
    rw [List.getElem?_replicate] at h2
    split at h2 <;> cases h2
  have ha:vs[i]? =some v:=by
   unfold start at h2
   rw [List.getElem?_append_left (by simpa using hi),List.getElem?_map] at h2
   cases e:vs[i]? with
   | none=>rw [e] at h2; cases h2
   | some a=>rw [e] at h2; cases h2; rfl
  obtain ⟨u,hu,rv⟩:=r.get ha
  have hp:ps[i]? =some y:=by
   rw [<- S.pre,List.getElem?_take_of_lt (by omega)]; exact h1
  have ndP:ps.Nodup:=by rw [<- S.pre]; exact S.nd.sublist (List.take_sublist _ _)
  refine ⟨u,rv,?_⟩
  rcases S.par y (List.mem_of_getElem? hp) with k | k
  ·exact .inl ⟨k,bindL_get ndP hp hu k⟩
  ·obtain ⟨c,e⟩:=cell_has (n:=s.heap.objs.size + 1) k
   refine .inr ⟨.inl k,c,e,?_⟩
   have q:=x.cell y c e
   rw [bindC_get ndP hp hu (by show scope.names.lookup y ≠ _; rw [k]; decide)] at q
   exact q
 ·exact .inl (e0.hok.fresh (Nat.le_of_lt (x.above y c (PySem.mem_of_lookup h))))
 ·unfold start
  show _=N.length
  rw [List.length_append,List.length_map,List.length_replicate]
  omega
theorem fn_of {CX:CXT} {P:Program} {w:World} {K:Fg} {mg:Str->Option Value} {base:Bs} {k:Nat} {f:Addr} {name qual:Str} {params:Arguments} {body:List Stmt} {scope:Scope} {dV kV doc pm cdv ct oc:Value} {an od:Option Addr}
  {osl:Array (Option Value)} {N ps:List Str} {sp:Sp} (lk:K.lookup f=some ⟨oc,od,.func (PySem.W.fnOf name qual params body scope dV kV doc pm an cdv ct),osl⟩) (hcd:PySem.W.codeIn K cdv qual=true) (S:FnScope N ps scope)
  (len: ∀ vs H Q E,sp vs H Q E->vs.length=ps.length)
  (hbody: ∀ (A:Around) (outer:List Env) (s:Shared) (H:Hp) (vs:List V) (Q:VK) (E:XK),Room k (A.deeper (envOfC qual scope s.heap.objs.size f cdv))->sp vs H Q E ->
   ∃ t,PSs (cxOf CX P w K mg base N qual scope f cdv A outer s H E) body t/\t { nx:=fun _ H'=>Q .non H',rt:=Q } (start N vs) H) :
  FnOk P w K mg base CX (k + 1) f (PySem.W.fnOf name qual params body scope dV kV doc pm an cdv ct) ps sp:=by
 refine ⟨len,fun A outer s H args us vs Q E hr e0 hb r hsp=> ?_⟩
 have hl:=len _ _ _ _ hsp
 have KX:K.In s.heap:=e0.mod.kin.keeps fun b o e=>(e0.bs b o e).1
 have lim:s.heap.NoLimit:=e0.mod.nolimit.keeps fun b o e=>(e0.bs b o e).1
 have hkind: ∀ y ∈ ps.zip us,scope.names.lookup y.1=some .local\/(scope.names.lookup y.1=some .cell/\((cellsFrom (s.heap.objs.size + 1) scope.names []).lookup y.1).isSome=true):=fun ⟨n,v⟩ hy=>by
  rcases S.par n (List.of_mem_zip hy).1 with q | q
  ·exact .inl q
  ·exact .inr ⟨q,PySem.W.cellsFrom_some _ _ _ (.inl q)⟩
 refine codeAny_call_function hr.depth (KX _ _ lk) rfl S.co S.gen rfl (PySem.W.codeRec_of KX hcd) (hb _ _ _ _ ?_)
 refine wpAny_newFunctionEnv_cells S.kind hkind fun env he s1 x=> ?_
 subst he
 refine ⟨lim.keeps x.toInCall.keep,codeAny_func ?_⟩
 obtain ⟨t,ht,hq⟩:=hbody A outer s H vs Q E (hr.deeper _) hsp
 have I:Inv (cxOf CX P w K mg base N qual scope f cdv A outer s H E) [] (start N vs) H s1:=inv_start S hr.hd e0 hl r x
 refine wpAny_mono (ht [] s1 (start N vs) H _ I hq) (fun fl s' hs=> ?_) fun e s' hs=>hs
 have fin: ∀ {σ':St} {H':Hp} {v:V} {u:Value},Inv (cxOf CX P w K mg base N qual scope f cdv A outer s H E) [] σ' H' s'->RelV v u->Q v H'->CE outer P w H s Q u s' :=
  fun {σ' H' v u} J rv q=>⟨v,H',J.os,J.bare,J.base,J.hok,rv,q⟩
 cases fl with
 | ret u =>
  obtain ⟨v,H',J,rv,q⟩:=hs
  exact ⟨v,H',J.os,J.bare,J.base,J.hok,rv,q⟩
 | next =>
  obtain ⟨σ',H',J,q⟩:=hs
  exact fin (v:=V.non) (u:=Value.none) J rfl q
 | brk =>
  obtain ⟨_,_,_,q⟩:=hs
  exact False.elim q
 | cont =>
  obtain ⟨_,_,_,q⟩:=hs
  exact False.elim q
section
variable {X:Cx} {x:Str} {p pos:Pos} {e:Expr} {es:List Expr} {t:TA} {id T:String} {r:List V->Hp->VK->Prop}
def tCB (r:List V->Hp->VK->Prop) (t:TA):TE:=fun σ H Q=>t σ H fun vs H1=>r vs H1 Q
theorem pe_callB (hc:CallR X (.builtin id) r) (hg:Gl X x) (hm:X.mg x=none) (hv:bootBuiltins x=some (.builtin id)) (ha:PA X (e :: es) t) (hn:x ≠ "__name__":=by decide) (hdb:(x == ("__debug__":Str))=false:=by decide)
  (he:starEach (e :: es) X.env=(false,eval e X.env) :: starEach es X.env:=by rfl) (hpl:(backTo pos (starEach es X.env)).any (·.1)=false:=by rfl):PE X (.Call (.Name x p) (e :: es) [] pos) (tCB r t):=by
 intro pins s σ H Q I h
 refine wpAny_Call_Name_kw (ld_blt I hg hm hv ?_ hn hdb)
 exact PyProof.Rows.callWith_builtin1 (thn (ha pos pins s σ H _ I h) fun us s1 ⟨vs,H1,I1,r1,q1⟩=>hc pins s1 σ H1 vs us Q I1 r1 q1) he hpl
theorem pe_callTy (hc:CallR X (.type T) r) (hg:Gl X x) (hm:X.mg x=none) (hv:bootBuiltins x=some (.type T)) (ha:PA X (e :: es) t) (hn:x ≠ "__name__":=by decide) (hdb:(x == ("__debug__":Str))=false:=by decide)
  (he:starEach (e :: es) X.env=(false,eval e X.env) :: starEach es X.env:=by rfl) (hpl:(backTo pos (starEach es X.env)).any (·.1)=false:=by rfl):PE X (.Call (.Name x p) (e :: es) [] pos) (tCB r t):=by
 intro pins s σ H Q I h
 refine wpAny_Call_Name_kw (ld_blt I hg hm hv ?_ hn hdb)
 exact PyProof.Rows.callWith_type1 (thn (ha pos pins s σ H _ I h) fun us s1 ⟨vs,H1,I1,r1,q1⟩=>hc pins s1 σ H1 vs us Q I1 r1 q1) he hpl
end
end L2
namespace HT
open PySem PyProof.Rows
section
open PySem.SeqAt
open PySem.AutoSeq1 (wpAny_loadPart')
open PySem.MeetsSeq PySem.MeetsSeq2 PySem.MeetsSeq3
end
section
variable {prog:Program} {w:World} {A:Around} {E:Value->Shared->Prop} {s:Shared}
def sIx (n d:Nat):Option Int->Nat
 | none=>d
 | some v=>if v < 0 then (v + (n:Int)).toNat else min v.toNat n
end
end HT
namespace L2
open PySem PySem.Spec PyProof.Rows
abbrev TO:=St->Hp->(Option Int->Hp->Prop)->Prop
def PO (X:Cx) (e:Option Expr) (t:TO):Prop :=
 ∀ (pins:List (Addr × Obj)) (s:Shared) (σ :St) (H:Hp) (Q:Option Int->Hp->Prop),Inv X pins σ H s->t σ H Q ->
  wpAny (model X.prog X.w) X.A (evalPart e X.env) (fun u s'=> ∃ o H',Inv X pins σ H' s'/\IsPart u o/\Q o H') X.xe s
def tNoPart:TO:=fun _ H Q=>Q none H
def tPart (t:TE):TO:=fun σ H Q=>t σ H fun x H1=> ∃ i,x= .int i/\Q (some i) H1
section
variable {X:Cx} {e:Expr} {te:TE} {lo hi:Option Expr} {tl th:TO} {pos p2:Pos}
theorem po_none:PO X none tNoPart:=by
 intro pins s σ H Q I h
 rw [evalPart_none]
 exact wpAny_pure ⟨none,H,I,.none,h⟩
theorem po_some (h:PE X e te):PO X (some e) (tPart te):=by
 intro pins s σ H Q I hw
 rw [evalPart_some]
 refine thn (h pins s σ H _ I hw) fun u s1 ⟨x,H1,I1,r1,q1⟩=> ?_
 obtain ⟨i,rfl,q⟩:=q1
 obtain ⟨t,rfl⟩:=r1
 exact ⟨some i,H1,I1,.int i t,q⟩
def SlR (X:Cx) (r:V->Option Int->Option Int->Hp->VK->Prop):Prop :=
 ∀ (pins:List (Addr × Obj)) (s:Shared) (σ :St) (H:Hp) (x:V) (v vl vu:Value) (lo hi:Option Int) (sl:Addr) (Q:VK),Inv X pins σ H s->RelV x v->s.heap.IsSliceOf sl vl vu .none->IsPart vl lo->IsPart vu hi->r x lo hi H Q ->
  ∃ T id,typeLookup (.type T) "__getitem__"=pure (some (.builtin id))/\s.TypeIs v T/\wpAny (model X.prog X.w) X.A (getItem v (.ref sl)) (EP X pins σ Q) X.xe s
theorem SlR.or {r r':V->Option Int->Option Int->Hp->VK->Prop} (h:SlR X r) (h':SlR X r'):SlR X (fun x lo hi H Q=>r x lo hi H Q\/r' x lo hi H Q):=by
 intro pins s σ H x v vl vu lo hi sl Q I rx hs pl pu q
 rcases q with q | q
 ·exact h pins s σ H x v vl vu lo hi sl Q I rx hs pl pu q
 ·exact h' pins s σ H x v vl vu lo hi sl Q I rx hs pl pu q
def tSl (r:V->Option Int->Option Int->Hp->VK->Prop) (te:TE) (tl th:TO):TE:=fun σ H Q=>te σ H fun x H1=>tl σ H1 fun l H2=>th σ H2 fun u H3=>r x l u H3 Q
theorem pe_slice {r:V->Option Int->Option Int->Hp->VK->Prop} (hr:SlR X r) (he:PE X e te) (hl:PO X lo tl) (hu:PO X hi th):PE X (.Subscript e (.Slice lo hi none p2) pos) (tSl r te tl th):=by
 intro pins s σ H Q I h
 refine Subscript_ (thn (he pins s σ H _ I h) fun v s1 ⟨x,H1,I1,r1,q1⟩=> ?_)
 refine wpAny_Slice (thn (hl pins s1 σ H1 _ I1 q1) fun vl s2 ⟨l,H2,I2,pl,q2⟩=>thn (hu pins s2 σ H2 _ I2 q2) fun vu s3 ⟨u,H3,I3,pu,q3⟩=> ?_)
 rw [evalPart_none]
 refine wpAny_pure ?_
 have I4:Inv X pins σ H3 { s3 with heap:=s3.heap.push { cls:= .type "slice",data:= .fields #[vl,vu,.none] } }:=I3.kept (t':=s3.toks) fun b ob q=>Heap.get?_push_of_some _ q
 obtain ⟨T,id,hT,ht,hg⟩:=hr pins { s3 with heap:=s3.heap.push { cls:= .type "slice",data:= .fields #[vl,vu,.none] } } σ H3 x v vl vu l u s3.heap.objs.size Q I4 r1 (Heap.IsSliceOf.new ..) pl pu q3
 show wpAny (model X.prog X.w) X.A (subscriptTail e (.Slice lo hi none p2) v (.ref s3.heap.objs.size)) (EP X pins σ Q) X.xe { s3 with heap:=s3.heap.push { cls:= .type "slice",data:= .fields #[vl,vu,.none] } }
 exact tail_any (ops:=[.ref s3.heap.objs.size,v]) ht hT hg (by with_unfolding_all rfl)
end
def ixN (n:Nat) (i:Int):Option Nat:=if 0<=i then (if i < n then some i.toNat else none) else if -(n:Int)<=i then some (i + n).toNat else none
def atI {α :Type} (xs:List α) (i:Int):Option α :=(ixN xs.length i).bind fun j=>xs[j]?
theorem ixN_seq {n:Nat} {i:Int} {j:Nat} (h:ixN n i=some j):seqIndex? i n=some j/\j < n/\ -(n:Int)<=i/\i < n:=by
 unfold ixN at h
 by_cases h0:0<=i
 ·rw [if_pos h0] at h
  by_cases h1:i < n
  ·rw [if_pos h1] at h
   have e:i.toNat=j:=Option.some.inj h
   exact ⟨by rw [seqIndex_of h0 h1,e],by omega,by omega,h1⟩
  ·rw [if_neg h1] at h; cases h
 ·rw [if_neg h0] at h
  by_cases h1: -(n:Int)<=i
  ·rw [if_pos h1] at h
   have e:(i + n).toNat=j:=Option.some.inj h
   exact ⟨by rw [seqIndex_neg (by omega) h1,e],by omega,h1,by omega⟩
  ·rw [if_neg h1] at h; cases h
theorem atI_get {α :Type} {xs:List α} {i:Int} {v: α} (h:atI xs i=some v): ∃ j,seqIndex? i xs.length=some j/\xs[j]? =some v/\j < xs.length/\ -(xs.length:Int)<=i/\i < xs.length:=by
 unfold atI at h
 cases e:ixN xs.length i with
 | none=>rw [e] at h; cases h
 | some j =>
  rw [e] at h
  obtain ⟨h1,h2,h3,h4⟩:=ixN_seq e
  exact ⟨j,h1,h,h2,h3,h4⟩
theorem atI_nat {α :Type} {xs:List α} {j:Nat} {v: α} (h:xs[j]? =some v):atI xs (j:Int)=some v:=by
 have hj:j < xs.length:=(List.getElem?_eq_some_iff.mp h).1
 have e:ixN xs.length (j:Int)=some j:=by
  unfold ixN
  rw [if_pos (by omega),if_pos (by omega)]; simp
 unfold atI; rw [e]; exact h
def PlainIx (b:Expr):Prop:= ∀ o i,subscripted b false o i=operate [o,i] (getItem o i)
def IxR (X:Cx) (r:R2):Prop :=
 ∀ (value slice:Expr) (pins:List (Addr × Obj)) (s:Shared) (σ :St) (H:Hp) (x y:V) (v u:Value) (Q:VK),Inv X pins σ H s->RelV x v->RelV y u->r x y H Q ->
  subscripted slice false v u=operate [v,u] (getItem v u)->wpAny (model X.prog X.w) X.A (subscriptTail value slice v u) (EP X pins σ Q) X.xe s
def MtR (X:Cx) (id:String) (r:V->List V->Hp->VK->Prop):Prop :=
 ∀ (pins:List (Addr × Obj)) (s:Shared) (σ :St) (H:Hp) (x:V) (xs:List V) (v:Value) (us:List Value) (Q:VK),Inv X pins σ H s->RelV x v->Vals xs us->r x xs H Q ->
  wpAny (model X.prog X.w) X.A (call (.builtin id) (v :: us)) (EP X pins σ Q) X.xe s
section
variable {X:Cx} {a b:Expr} {ta tb:TE} {pos:Pos}
theorem IxR.or {r r':R2} (h:IxR X r) (h':IxR X r'):IxR X (fun x y H Q=>r x y H Q\/r' x y H Q):=by
 intro value slice pins s σ H x y v u Q I rx ry q hs
 rcases q with q | q
 ·exact h value slice pins s σ H x y v u Q I rx ry q hs
 ·exact h' value slice pins s σ H x y v u Q I rx ry q hs
theorem MtR.or {id:String} {r r':V->List V->Hp->VK->Prop} (h:MtR X id r) (h':MtR X id r'):MtR X id (fun x xs H Q=>r x xs H Q\/r' x xs H Q):=by
 intro pins s σ H x xs v us Q I rx rs q
 rcases q with q | q
 ·exact h pins s σ H x xs v us Q I rx rs q
 ·exact h' pins s σ H x xs v us Q I rx rs q
theorem pe_ix {r:R2} (hr:IxR X r) (ha:PE X a ta) (hb:PE X b tb) (hs:PlainIx b):PE X (.Subscript a b pos) (tOp r ta tb):=by
 intro pins s σ H Q I h
 exact Subscript_ (binT ha hb I h fun v u s2 x y H2 I2 rx ry q=>hr a b pins s2 σ H2 x y v u Q I2 rx ry q (hs _ _))
def rIxL (K:Fg):R2:=fun x y H Q=> ∃ p xs i v,x= .ref p/\y= .int i/\SqL K H p xs/\atI xs i=some v/\Q v H
def rIxT (K:Fg):R2:=fun x y H Q=> ∃ p xs i v,x= .ref p/\y= .int i/\SqT K H p xs/\atI xs i=some v/\Q v H
def rIxS:R2:=fun x y H Q=> ∃ z i c,x= .str z/\y= .int i/\z.length<=sizeLine/\atI z.cps.toList i=some c/\Q (.str ⟨#[c]⟩) H
theorem ix_list:IxR X (rIxL X.K):=by
 intro value slice pins s σ H x y v u Q I rx ry h hs
 obtain ⟨p,xs,i,z,rfl,rfl,hq,he,q⟩:=h
 cases rx
 obtain ⟨t,rfl⟩:=ry
 obtain ⟨its,r,pl,hz⟩:=I.list hq
 obtain ⟨j,h1,h2,h3,h4,h5⟩:=atI_get he
 obtain ⟨w,ew,rw'⟩:=r.get h2
 have hl:=r.length
 have hn:=line63
 have fin:EP X pins σ Q w s:=⟨z,H,I,rw',q⟩
 by_cases h0:0<=i
 ·have hj:i.toNat=j:=by
   rw [seqIndex_of h0 h5] at h1
   exact Option.some.inj h1
  exact item_listR pl.isList h0 (by omega) (by rw [hj]; simpa using ew) fin hs
 ·have hj:(i + (its.toArray.size:Int)).toNat=j:=by
   rw [seqIndex_neg (by omega) h4] at h1
   rw [List.size_toArray, <- hl]
   exact Option.some.inj h1
  exact subscriptTail_builtinR (x:=w) pl.isList.typeIs slot_list_getitem.lookup
   (wpAny_getItem_list_neg (Q:=fun r s'=>r=w/\EP X pins σ Q r s') pl.isList (by omega) (by rw [List.size_toArray] <;> omega) (by omega) (by rw [hj]; simpa using ew) ⟨rfl,fin⟩) hs
theorem ix_tup:IxR X (rIxT X.K):=by
 intro value slice pins s σ H x y v u Q I rx ry h hs
 obtain ⟨p,xs,i,z,rfl,rfl,hq,he,q⟩:=h
 cases rx
 obtain ⟨t,rfl⟩:=ry
 obtain ⟨its,r,pl,hz⟩:=I.tuple hq
 obtain ⟨j,h1,h2,h3,h4,h5⟩:=atI_get he
 obtain ⟨w,ew,rw'⟩:=r.get h2
 have hl:=r.length
 have hn:=line63
 have fin:EP X pins σ Q w s:=⟨z,H,I,rw',q⟩
 exact subscriptTail_builtinR (x:=w) pl.typeIs slot_tuple_getitem.lookup
  (getItem_tuple (j:=j) (Q:=fun r s'=>r=w/\EP X pins σ Q r s') pl (by omega) (by omega) (by rw [List.size_toArray, <- hl]; exact h1) (by simpa using ew) ⟨rfl,fin⟩) hs
theorem ix_str:IxR X rIxS:=by
 intro value slice pins s σ H x y v u Q I rx ry h hs
 obtain ⟨z,i,c,rfl,rfl,hz,he,q⟩:=h
 obtain ⟨t,rfl⟩:=rx
 obtain ⟨t',rfl⟩:=ry
 obtain ⟨j,h1,h2,h3,h4,h5⟩:=atI_get he
 have hl:z.cps.toList.length=z.length:=by simp [Str.length]
 rw [hl] at h1 h4 h5
 have hn:=line63
 exact tail_any (typeIs_str s z t) slot_str_getitem.lookup (getItem_str (c:=c) (by
  have e1:decide (i < -(2 ^ 63:Int))=false:=decide_eq_false (by omega)
  have e2:decide (i ≥ 2 ^ 63)=false:=decide_eq_false (by omega)
  rw [e1,e2,Bool.or_false]) (by rw [h1]; simpa using h2) ⟨.str ⟨#[c]⟩,H,I.tok _,⟨_,rfl⟩,q⟩) hs
def rIx (K:Fg):R2:=fun x y H Q=>rIxL K x y H Q\/rIxT K x y H Q\/rIxS x y H Q
theorem ix_seq:IxR X (rIx X.K):=ix_list.or (ix_tup.or ix_str)
theorem Inv.lst {pins:List (Addr × Obj)} {σ :St} {H:Hp} {s:Shared} {p:Addr} {xs:List V} (I:Inv X pins σ H s) (h:H p=some (.lst xs)) :
  ∃ (its:List Value) (n:Nat),Vals xs its/\s.heap.get? p=some { cls:= .type "list",data:= .seq its.toArray n }/\xs.length<=sizeLine:=by
 obtain ⟨z,its,n,r,e⟩:=I.hok p _ h
 exact ⟨its,n,r,e,z⟩
def flatV:V->Bool
 | .non=>true
 | .bl _=>true
 | .int _=>true
 | .str _=>true
 | _=>false
def eqV:V->V->Bool
 | .non,.non=>true
 | .bl a,.bl b=>a == b
 | .bl a,.int b=>(if a then 1 else 0) == b
 | .int a,.bl b=>a == (if b then 1 else 0)
 | .int a,.int b=>a == b
 | .str a,.str b=>a == b
 | _,_=>false
theorem eqAt_V {A:Around} {s:Shared} {y x:V} {u v:Value} (ry:RelV y u) (rx:RelV x v) (fy:flatV y=true) (fx:flatV x=true):SeqAt.EqAt A s u v (eqV y x):=by
 cases y with
 | non =>
  cases ry
  cases x with
  | non=>cases rx; exact SeqAt.EqAt.same _
  | bl b=>cases rx; exact SeqAt.EqAt.none_bool b
  | int b=>obtain ⟨t,rfl⟩:=rx; exact SeqAt.EqAt.none_int b t
  | str b=>obtain ⟨t,rfl⟩:=rx; exact SeqAt.EqAt.none_str b t
  | _=>exact absurd (show false=true from fx) Bool.false_ne_true
 | bl a =>
  cases ry
  cases x with
  | non=>cases rx; exact SeqAt.EqAt.bool_none a
  | bl b=>cases rx; exact SeqAt.EqAt.bool_bool a b
  | int b=>obtain ⟨t,rfl⟩:=rx; exact SeqAt.EqAt.bool_int a b t
  | str b=>obtain ⟨t,rfl⟩:=rx; exact SeqAt.EqAt.bool_str a b t
  | _=>exact absurd (show false=true from fx) Bool.false_ne_true
 | int a =>
  obtain ⟨t',rfl⟩:=ry
  cases x with
  | non=>cases rx; exact SeqAt.EqAt.int_none a t'
  | bl b=>cases rx; exact SeqAt.EqAt.int_bool a t' b
  | int b=>obtain ⟨t,rfl⟩:=rx; exact SeqAt.EqAt.int_int a t' b t
  | str b=>obtain ⟨t,rfl⟩:=rx; exact SeqAt.EqAt.int_str a t' b t
  | _=>exact absurd (show false=true from fx) Bool.false_ne_true
 | str a =>
  obtain ⟨t',rfl⟩:=ry
  cases x with
  | non=>cases rx; exact SeqAt.EqAt.str_none a t'
  | bl b=>cases rx; exact SeqAt.EqAt.str_bool a t' b
  | int b=>obtain ⟨t,rfl⟩:=rx; exact SeqAt.EqAt.str_int a t' b t
  | str b=>obtain ⟨t,rfl⟩:=rx; exact SeqAt.EqAt.str_str a t' b t
  | _=>exact absurd (show false=true from fx) Bool.false_ne_true
 | _=>exact absurd (show false=true from fy) Bool.false_ne_true
def eqU (x:V) (u:Value):Bool:=match u with
 | .none=>eqV .non x
 | .bool b=>eqV (.bl b) x
 | .int i _=>eqV (.int i) x
 | .str z _=>eqV (.str z) x
 | _=>false
theorem eqU_of {x y:V} {u:Value} (r:RelV y u) (f:flatV y=true):eqU x u=eqV y x:=by
 cases y with
 | non=>cases r; rfl
 | bl b=>cases r; rfl
 | int i=>obtain ⟨t,rfl⟩:=r; rfl
 | str z=>obtain ⟨t,rfl⟩:=r; rfl
 | _=>exact absurd (show false=true from f) Bool.false_ne_true
theorem any_eqU {x:V}: ∀ {xs:List V} {us:List Value},Vals xs us->xs.all flatV=true->us.any (eqU x)=xs.any fun y=>eqV y x
 | _,_,.nil,_=>rfl
 | y :: xs,u :: us,.cons r t,f=>by
  rw [List.all_cons,Bool.and_eq_true] at f
  rw [List.any_cons,List.any_cons,eqU_of r f.1,any_eqU t f.2]
theorem mem_eqAt {A:Around} {s:Shared} {x:V} {v:Value} (rx:RelV x v) (fx:flatV x=true): ∀ {xs:List V} {us:List Value},Vals xs us->xs.all flatV=true-> ∀ u ∈ us,SeqAt.EqAt A s u v (eqU x u)
 | _,_,.nil,_=>fun u hu=>by cases hu
 | y :: xs,u :: us,.cons r t,f=>fun u' hu=>by
  rw [List.all_cons,Bool.and_eq_true] at f
  rcases List.mem_cons.mp hu with rfl | hu
  ·rw [eqU_of r f.1]; exact eqAt_V r rx f.1 fx
  ·exact mem_eqAt rx fx t f.2 u' hu
def inV (x:V) (xs:List V):Bool:=xs.any fun y=>eqV y x
def rIn (K:Fg) (neg:Bool):R2:=fun x y H Q=> ∃ p xs,y= .ref p/\(SqL K H p xs\/SqT K H p xs)/\flatV x=true/\xs.all flatV=true/\Q (.bl (if neg then !inV x xs else inV x xs)) H
theorem op_in_seq:OpR X (compareOp .In) (rIn X.K false):=by
 intro pins s σ H x y v u Q I rx ry h
 obtain ⟨p,xs,rfl,hq,fx,fs,q⟩:=h
 cases ry
 rcases hq with hq | hq
 ·obtain ⟨its,r,pl,hz⟩:=I.list hq
  refine SeqAt.in_listAt (eqU x) pl.isList (fun w hw=>mem_eqAt rx fx r fs w (by simpa using hw)) ⟨.bl _,H,I,rfl,?_⟩
  rw [show its.toArray.any (eqU x)=its.any (eqU x) by simp,any_eqU r fs]
  exact q
 ·obtain ⟨its,r,pl,hz⟩:=I.tuple hq
  refine SeqAt.in_tupleAt (eqU x) pl (fun w hw=>mem_eqAt rx fx r fs w (by simpa using hw)) ⟨.bl _,H,I,rfl,?_⟩
  rw [show its.toArray.any (eqU x)=its.any (eqU x) by simp,any_eqU r fs]
  exact q
theorem CallR.or {f:Value} {r r':List V->Hp->VK->Prop} (h:CallR X f r) (h':CallR X f r'):CallR X f (fun xs H Q=>r xs H Q\/r' xs H Q):=by
 intro pins s σ H xs us Q I rs q
 rcases q with q | q
 ·exact h pins s σ H xs us Q I rs q
 ·exact h' pins s σ H xs us Q I rs q
theorem call_list_of:CallR X (.type "list") (fun xs H Q=> ∃ p ys,xs=[.ref p]/\(SqL X.K H p ys\/SqT X.K H p ys)/\ ∀ l,H l=none->Q (.ref l) (upd H l (.lst ys))):=by
 intro pins s σ H xs us Q I r h
 obtain ⟨p,ys,rfl,hq,q⟩:=h
 obtain ⟨u,rfl,rx⟩:=vals1 r
 cases rx
 have fin: ∀ (its:List Value),Vals ys its->ys.length<=sizeLine-> ∀ (h':Heap) (c':Nat),(∀ b o',s.heap.get? b=some o'->h'.get? b=some o') ->
   h'.get? s.heap.objs.size=some { cls:= .type "list",dict:=none,data:= .seq its.toArray c',slots:= #[] }->EP X pins σ Q (.ref s.heap.objs.size) { s with heap:=h' }:=fun its r' hz h' c' kp e =>
  ⟨.ref s.heap.objs.size,_,I.laid (t':=s.toks) kp (Nat.le_refl _) (show ObjOk X.prog X.w _ h' _ (.lst ys) from ⟨hz,its,c',r',e⟩),rfl,q _ (I.hok.fresh (Nat.le_refl _))⟩
 rcases hq with hq | hq
 ·obtain ⟨its,r',pl,hz⟩:=I.list hq
  have hlen:=r'.length
  obtain ⟨o,ho,hc,n,hd⟩:=pl.isList
  exact call_list_seq p (.inl rfl) ho hc hd (fun h' c' kp e=>fin its r' hz h' c' kp e) (by simp only [List.size_toArray] <;> omega)
 ·obtain ⟨its,r',pl,hz⟩:=I.tuple hq
  have hlen:=r'.length
  obtain ⟨o,ho,hc,n,hd⟩:=pl
  exact call_list_seq p (.inr rfl) ho hc hd (fun h' c' kp e=>fin its r' hz h' c' kp e) (by simp only [List.size_toArray] <;> omega)
def tyV (K:Fg) (T:String) (x:V) (H:Hp):Prop:=match x with
 | .str _=>T="str"
 | .int _=>T="int"
 | .ref p=>(T="list"/\ ∃ xs,SqL K H p xs)\/(T="tuple"/\ ∃ o,K.lookup p=some o/\o.cls= .type "tuple"/\o.dict=none) \/
   (T="dict"/\((∃ kvs ep,H p=some (.dK kvs ep))\/ ∃ kvs ep,H p=some (.dT kvs ep)))\/(T="set"/\ ∃ S n,H p=some (.set S n))
 | _=>False
theorem tyV_is {pins:List (Addr × Obj)} {σ :St} {H:Hp} {s:Shared} {T:String} {x:V} {v:Value} (I:Inv X pins σ H s) (r:RelV x v) (ty:tyV X.K T x H) :
  s.TypeIs v T/\ ∀ a,v= .ref a-> ∃ ob,s.heap.get? a=some ob/\ob.dict=none:=by
 cases x with
 | str z =>
  obtain ⟨t,rfl⟩:=r
  cases (show T="str" from ty)
  exact ⟨typeIs_str s z t,fun _ e=>nomatch e⟩
 | int i =>
  obtain ⟨t,rfl⟩:=r
  cases (show T="int" from ty)
  exact ⟨typeIs_int s i t,fun _ e=>nomatch e⟩
 | ref p =>
  cases r
  rcases ty with ⟨rfl,xs,hq⟩ | ⟨rfl,o,hk,hc,hd⟩ | ⟨rfl,hk⟩ | ⟨rfl,S,n,hk⟩
  ·obtain ⟨its,_,pl,_⟩:=I.list hq
   refine ⟨pl.isList.typeIs,fun a e=> ?_⟩
   cases e
   obtain ⟨o,n,e,c,hd,_⟩:=pl
   exact ⟨o,e,hd⟩
  ·refine ⟨⟨o,I.kIn p o hk,hc⟩,fun a e=> ?_⟩
   cases e
   exact ⟨o,I.kIn _ o hk,hd⟩
  ·have z: ∃ o,s.heap.get? p=some o/\o.ExactDict:=by
    rcases hk with ⟨kvs,ep,hk⟩ | ⟨kvs,ep,hk⟩
    ·obtain ⟨_,_,_,_,o,_,e,ex,_⟩:=I.hok p _ hk
     exact ⟨o,e,ex⟩
    ·obtain ⟨_,_,_,_,o,_,e,ex,_⟩:=I.hok p _ hk
     exact ⟨o,e,ex⟩
   obtain ⟨o,e,ex⟩:=z
   refine ⟨⟨o,e,ex.1⟩,fun a e2=> ?_⟩
   cases e2
   exact ⟨o,e,ex.2.1⟩
  ·obtain ⟨o,_,_,_,e,ex,_⟩:=I.hok p _ hk
   refine ⟨⟨o,e,ex.1⟩,fun a e2=> ?_⟩
   cases e2
   exact ⟨o,e,ex.2.1⟩
 | _=>exact False.elim ty
def tBM (K:Fg) (T:String) (r:V->List V->Hp->VK->Prop) (to:TE) (t:TA):TE:=fun σ H Q=>to σ H fun x H1=>tyV K T x H1/\t σ H1 fun xs H2=>r x xs H2 Q
variable {o e:Expr} {es:List Expr} {to:TE} {t:TA} {name:Str} {apos cpos:Pos} {T id:String} {r:V->List V->Hp->VK->Prop}
theorem pe_bm (pa:PlainAttrs T) (slot:Slot T name id) (hty:typeOf (.builtin id)=pure (.type "method_descriptor")) (hm:MtR X id r) (ho:PE X o to) (ha:PA X (e :: es) t)
  (hbase:attributeBase o name X.env (eval o X.env)=eval o X.env:=by rfl)
  (hfew:((backTo cpos (starEach (e :: es) X.env)).all (fun x=> !x.1) && (backToKw cpos (keywordEach [] X.env)).all (fun x=>x.1.isSome)
   && decide ((e :: es).length + ([]:List Keyword).length + (if ([]:List Keyword).isEmpty then 0 else 1) < 30))=true:=by rfl)
  (hline:(apos.endLine == cpos.line)=true:=by rfl) (hs:starEach (e :: es) X.env=(false,eval e X.env) :: starEach es X.env:=by rfl) (hplain:(backTo cpos (starEach es X.env)).any (·.1)=false:=by rfl) :
  PE X (.Call (.Attribute o name apos) (e :: es) [] cpos) (tBM X.K T r to t):=by
 intro pins s σ H Q I h
 refine wpAny_Call_method_late hbase hfew hline rfl (thn (ho pins s σ H _ I h) fun v s1 ⟨x,H1,I1,r1,ty,q1⟩=> ?_)
 obtain ⟨h1,h2⟩:=tyV_is I1 r1 ty
 refine ⟨T,id,pa,slot,hty,h1,h2,?_⟩
 have hA:=ha cpos pins s1 σ H1 _ I1 q1
 rw [hs] at hA ⊢
 refine Calls.callWith_builtin (by show (false || (backTo cpos (starEach es X.env)).any (·.1))=false; rw [hplain] <;> rfl) (Calls.evalArgs_plain ?_)
 exact thn hA fun us s2 ⟨vs,H2,I2,r2,q2⟩=>hm pins s2 σ H2 x vs v us Q I2 r1 r2 q2
end
def MtM (X:Cx) (id:String) (r:V->List V->Hp->VK->Prop):Prop :=
 ∀ (pins:List (Addr × Obj)) (s:Shared) (σ :St) (H:Hp) (x:V) (xs:List V) (v:Value) (us:List Value) (Q:VK),Inv X pins σ H s->RelV x v->Vals xs us->r x xs H Q ->
  wpAny (model X.prog X.w) X.A (call (.builtin id) (v :: us)) (EP X pins σ Q) X.xe s
theorem Vals.one: ∀ {x:V} {us:List Value},Vals [x] us-> ∃ u,us=[u]/\RelV x u
 | _,_,.cons r .nil=>⟨_,rfl,r⟩
theorem Vals.two: ∀ {x y:V} {us:List Value},Vals [x,y] us-> ∃ u v,us=[u,v]/\RelV x u/\RelV y v
 | _,_,_,.cons r (.cons q .nil)=>⟨_,_,rfl,r,q⟩
theorem Vals.zero: ∀ {us:List Value},Vals [] us->us=[]
 | _,.nil=>rfl
theorem Vals.dropLast {xs:List V} {us:List Value} (h:Vals xs us):Vals xs.dropLast us.dropLast:=by
 induction h with
 | nil=>exact .nil
 | cons r t ih =>
  cases t with
  | nil=>exact .nil
  | cons q t'=>exact .cons r ih
theorem Vals.reverse {xs:List V} {us:List Value} (h:Vals xs us):Vals xs.reverse us.reverse:=by
 induction h with
 | nil=>exact .nil
 | cons r t ih=>rw [List.reverse_cons,List.reverse_cons]; exact Vals.append ih (.cons r .nil)
theorem Vals.rep {xs:List V} {us:List Value} (h:Vals xs us): ∀ k:Nat,Vals (List.replicate k xs).flatten (List.replicate k us).flatten
 | 0=> .nil
 | k + 1=>by
  rw [List.replicate_succ,List.replicate_succ,List.flatten_cons,List.flatten_cons]
  exact Vals.append h (Vals.rep h k)
section
variable {X:Cx} {pins:List (Addr × Obj)} {σ :St} {H:Hp} {s:Shared} {l b:Addr} {xs ys zs:List V}
theorem Inv.lset {its its':List Value} {n:Nat} {f:Array Value->Array Value} {t':Nat} (I:Inv X pins σ H s) (hH:H l=some (.lst xs))
  (e:s.heap.get? l=some { cls:= .type "list",data:= .seq its.toArray n }) (hf:f its.toArray=its'.toArray) (hv:Vals ys its') (hz:ys.length<=sizeLine) :
  Inv X pins σ (upd H l (.lst ys)) { s with heap:=s.heap.update l (Obj.mapSeq f),toks:=t' }:=by
 have q:=PySem.IsL.update e f
 rw [hf] at q
 refine I.write (x:=l) (e:=l) (by rw [hH]; exact trivial) (.inl rfl) (fun b' u hb hu=>(Heap.get?_update_other s.heap (Obj.mapSeq f) (Ne.symm hb)).trans hu) ⟨_,q⟩ ?_
 exact ⟨hz,its',_,hv,q⟩
theorem Inv.lnew {its:List Value} {t':Nat} (I:Inv X pins σ H s) (hv:Vals ys its) (hz:ys.length<=sizeLine) :
  Inv X pins σ (upd H s.heap.objs.size (.lst ys)) { s with heap:=s.heap.push { cls:= .type "list",data:= .seq its.toArray },toks:=t' } :=
 I.laid (fun _ _ q=>Heap.get?_push_of_some _ q) (Nat.le_refl _) ⟨hz,its,0,hv,Heap.get?_push_size _ rfl⟩
theorem Inv.fresh (I:Inv X pins σ H s):H s.heap.objs.size=none:=I.hok.fresh (Nat.le_refl _)
theorem Inv.lstM (I:Inv X pins σ H s) (hH:H l=some (.lst xs)):xs.length<=sizeLine/\ ∃ (its:List Value) (n:Nat),Vals xs its/\xs.length=its.length/\s.heap.get? l=some { cls:= .type "list",data:= .seq its.toArray n }:=by
 obtain ⟨z,its,n,r,e⟩:=I.hok l _ hH
 exact ⟨z,its,n,r,r.length,e⟩
end
section
variable {X:Cx}
def rAppend:V->List V->Hp->VK->Prop:=fun x vs H Q=> ∃ l xs y,x= .ref l/\vs=[y]/\H l=some (.lst xs)/\xs.length < sizeLine/\Q .non (upd H l (.lst (xs ++ [y])))
theorem mt_append:MtM X "list.append" rAppend:=by
 intro pins s σ H x vs v us Q I rx rv h
 obtain ⟨l,xs,y,rfl,rfl,hH,hz,q⟩:=h
 cases rx
 obtain ⟨u,rfl,ru⟩:=rv.one
 obtain ⟨z,its,n,r,hl,e⟩:=I.lstM hH
 refine call_meets F.slot_list_append ⟨_,e,rfl⟩ F.entry_list_append (F.args_list_append_2 _ _) (PySem.list_append l its.toArray n u (by rw [List.size_toArray]; omega)) ⟨e,?_⟩
 refine ⟨.non,_,I.lset (its':=its ++ [u]) hH e (by simp) (r.append (.cons ru .nil)) ?_,rfl,q⟩
 rw [List.length_append,List.length_singleton]
 omega
end
section
variable {prog:Program} {w:World} {A:Around} {E:Value->Shared->Prop} {s:Shared}
end
section
variable {X:Cx}
end
end L2
namespace Att
open PySem PySem.W PySem.Calls PyProof.Rows
theorem ints_of_wellAll {P:Params} {h:Heap}: ∀ (ns:List Int) (vs:List Value),WellAll P h vs (ns.map WData.int)->IntsAre vs ns:=by
 intro ns
 induction ns with
 | nil =>
  intro vs w
  rw [List.map_nil] at w
  cases w
  exact .nil
 | cons n ns ih =>
  intro vs w
  rw [List.map_cons] at w
  cases w with
  | cons a b =>
   cases a
   exact .cons _ _ (ih _ b)
theorem script_of {l:OpenLaw} {n:Nat} (hn:l.most=some n) {P:Params} {h:Heap} {args:List WData} {vals:List Value}
  (hpre:l.row.toRowW.claim.pre args=true) (hwl:WellAll P h vals args) :
  ∃ a vs ns,vals=[Value.ref a]/\args=[WData.list (ns.map WData.int)]/\h.get? a=some { cls:= .type "list",data:= .seq vs.toArray }/\IntsAre vs ns/\ns.length<=n:=by
 have hsh:WShape.hasAll [] args [.list .int]=true:=(pre_splitW hpre).1
 have hc:l.pre.holds [] { args:=args }=true:=(pre_splitW hpre).2
 obtain ⟨d,r,rfl,h1,h2⟩:=hasAllW_cons hsh
 obtain rfl:=hasAllW_nil h2
 obtain ⟨xs,rfl,h3⟩:=hasW_list h1
 obtain ⟨ns,rfl⟩:=items_int h3
 have hlen:ns.length<=n:=by
  unfold OpenLaw.pre at hc
  have h4:(WTm.not (.lt (.lit (.int (n:Int))) (.len (.arg 0)))).holds [] { args:=[.list (ns.map .int)] }=true:=by
   have h4:=(holds_andW hc).1
   rw [hn] at h4
   exact h4
  have h5:=condW_of h4 (w_not (w_lt w_lit (w_len_list (w_arg rfl))))
  rw [List.length_map] at h5
  refine Nat.le_of_not_lt fun q=> ?_
  have q':(n:Int) < ((ns.length:Nat):Int):=by omega
  first
   | (rw [decide_eq_true q'] at h5; exact absurd h5 (by decide))
   | (simp at h5; omega)
 cases hwl with
 | cons w1 w2 =>
  cases w2
  cases w1 with
  | list ho hall=>exact ⟨_,_,ns,rfl,rfl,ho,ints_of_wellAll ns _ hall,hlen⟩
theorem post_true (l:OpenLaw) (args:List WData):l.row.toRowW.claim.post args (.bool true) args=true :=
 postW_of (r:=l.row.toRowW) (X:=(true == true))
  (show WShape.has [] (.bool true) .bool=true by first | rfl | decide | simp [WShape.has,WShape.arms,WShape.armsAll])
  (show (WTm.eq .res (.lit (.bool true))).value [] { args:=args,res:=some (.bool true),after:=args }=some (.bool (true == true)) from w_eq_bool (w_res rfl) w_lit) rfl
theorem attach_call {l:OpenLaw} {n:Nat} {q:Program} {loose:List Str} {XP:(Str->Option Value)->Heap->Prop} {YP:World->Heap->Prop} {d:DefRec}
  (hn:l.most=some n) (hdf:d.params.defaults=[])
  (call: ∀ (w:World) (s₀ s₁:Shared) (mg mb:Str->Option Value) (fa:Addr) (o:Obj) (pm cd doc:Value) (a:Addr) (vs:List Value) (ns:List Int),
   Ground q loose [] XP w s₀ mg mb s₁.heap->YP w s₁.heap ->
   s₁.heap.get? fa=some o->o.data= .func (docDef d.name d.params d.body d.scope pm cd doc)->s₁.heap.CodeRec cd d.name->mg d.name=some (.ref fa) ->
   s₁.heap.get? a=some { cls:= .type "list",data:= .seq vs.toArray }->IntsAre vs ns->ns.length<=n->s₁.gens= #[] ->
   codeAny (model l.prog w) callerA (.call (.ref fa) ⟨[.ref a],[]⟩) (fun r s'=>r= .ok (.ret (.bool true))/\OldK s₁.heap s'.heap/\s'.os=s₁.os/\AllBare s'.gens) s₁) :
  WalkO q loose XP YP l.row.toRowW d [] (fun f vs=>PySem.call f vs):=by
 intro w s₀ s₁ mg mb G Y fa o pm cd doc dV kV ho hd hcd hD hmg hg args vals as hpre hlay hrd hwl hlo
 obtain rfl:dV= .none:=Dflts.none hD hdf
 obtain rfl:kV= .none:=Dflts.noKw hD
 obtain ⟨a,vs,ns,rfl,rfl,hobj,hints,hlen⟩:=script_of hn hpre hwl
 refine enter_call (codeAny_mono (call w s₀ s₁ mg mb fa o pm cd doc a vs ns G Y ho (fd_plain hd) hcd hmg hobj hints hlen hg) fun r s' hq=> ?_)
 obtain ⟨rfl,h2,h3,h4⟩:=hq
 exact ⟨.inl ⟨.bool true,.bool true,[],rfl,fun _=>rfl,.bool true,post_true l _,fun _=>⟨List.Pairwise.nil,fun _ hm=>(nomatch hm)⟩⟩,h2,h3,h4⟩
section
variable {prog:Program} {w:World} {A:Around} {E:Value->Shared->Prop} {s:Shared} {K:Frag}
def ledger (h:Heap) (L d:Addr):List (Addr × Obj):=(List.range h.objs.size).filterMap fun a=>if a=L\/a=d then none else (h.get? a).map fun o=>(a,o)
end
end Att
namespace L2
open PySem PySem.Spec PyProof.Rows
theorem vals_ints: ∀ {vs:List Value} {ns:List Int},IntsAre vs ns->Vals (ns.map V.int) vs
 | _,_,.nil=> .nil
 | _,_,.cons n t h=> .cons ⟨t,rfl⟩ (vals_ints h)
def Only (H:Hp):Prop:= ∀ b,H b=none\/(∃ o xs,H b=some (.frz o (.lst xs)))\/H b=some (.tbl 0)
theorem trip0:TriplesOk []:=by first | trivial | constructor | simp [TriplesOk]
theorem among0 (pos:Pos):codeAmong pos []=none:=by first | rfl | simp [codeAmong]
theorem old_of {h₀ h:Heap} (k: ∀ b o,h₀.get? b=some o->h.get? b=some o\/(isCodeTable h₀ b/\o=PySem.W.tabObj #[]/\ ∃ ps,h.get? b=some (PySem.W.tabObj ps))):OldK h₀ h :=
 ⟨fun b o e=>by
  rcases k b o e with z | ⟨ht,rfl,ps,hP⟩
  ·exact .inl z
  ·exact .inr (.inl ⟨ht,rfl, #[],ps,rfl,by rw [Array.empty_append]; exact hP⟩),fun b o e=>by
  rcases k b o e with z | ⟨_,_,ps,hP⟩
  ·exact ⟨o,z⟩
  ·exact ⟨_,hP⟩⟩
open Classical in
noncomputable def withT (ts:List Addr) (H:Hp):Hp:=fun b=>if b ∈ ts then some (.tbl 0) else H b
theorem withT_in {ts:List Addr} {H:Hp} {b:Addr} (h:b ∈ ts):withT ts H b=some (.tbl 0):=if_pos h
theorem withT_out {ts:List Addr} {H:Hp} {b:Addr} (h:b ∉ ts):withT ts H b=H b:=if_neg h
theorem law_call {P:Program} {w:World} {K:Fg} {mg mb:Str->Option Value} {CX:CXT} {k:Nat} {fa a:Addr} {fd:FuncData} {x:Str} {sp:Sp} {s₁:Shared} {vs:List Value} {ns:List Int}
  (KX:K.In s₁.heap) (hns:s₁.heap.Ns mainGlobals mg) (hb:s₁.heap.Ns builtinsNs mb) (hbb: ∀ x:Str,x ≠ "__name__"->mb x=bootBuiltins x) (hlim:s₁.heap.NoLimit) (hbm: ∃ bm ob,mg "__builtins__"=some (.ref bm)/\bm ≠ builtinsNs/\s₁.heap.get? bm=some ob/\ob.cls= .type "module"/\ob.dict=some builtinsNs/\ob.data= .plain) (hg:s₁.gens= #[])
  (ha:s₁.heap.get? a=some { cls:= .type "list",data:= .seq vs.toArray }) (hi:IntsAre vs ns) (hl:ns.length<=sizeLine) (hr:Room k callerA)
  {ts:List Addr} (hts: ∀ P ∈ ts,s₁.heap.get? P=some (PySem.W.tabObj #[])/\isCodeTable s₁.heap P/\K.lookup P=none)
  (F: ∀ base:Bs,K.In base->base.Ns mainGlobals mg->base.tabs=ts->FnOk P w K mg base CX k fa fd [x] sp) (hbind: ∀ (s:Shared) (u:Value),BindsTo s fd ⟨[u],[]⟩ [(x,u)])
  (hsp: ∀ H:Hp,Only H->SqL K H a (ns.map V.int)->sp [.ref a] H (fun v _=>v= .bl true) fun _ _ _=>False)
  (hCX: ∀ H e s',CX [] H s₁ (fun _ _ _=>False) e s'->False) :
  codeAny (model P w) callerA (.call (.ref fa) ⟨[.ref a],[]⟩) (fun r s'=>r= .ok (.ret (.bool true))/\OldK s₁.heap s'.heap/\s'.os=s₁.os/\AllBare s'.gens) s₁:=by
 have rv:=vals_ints hi
 have lenV:=hi.length
 -- from an abstract heap in which nothing but the script may be tracked
 have core: ∀ H:Hp,Only H->SqL K H a (ns.map V.int)->HOk P w H s₁.heap->(∀ b,H b ≠ none->b=a\/b ∈ ts)->(H a ≠ none->K.lookup a=none)->(∀ P ∈ ts,H P=some (.tbl 0)) ->
   codeAny (model P w) callerA (.call (.ref fa) ⟨[.ref a],[]⟩) (fun r s'=>r= .ok (.ret (.bool true))/\OldK s₁.heap s'.heap/\s'.os=s₁.os/\AllBare s'.gens) s₁:=by
  intro H hO hS hok hA hK hTb
  have base_of: ∀ {b:Addr} {o:Obj},s₁.heap.get? b=some o->H b=none->(hidT s₁.heap H).get? b=some o:=fun e n=>hidT_get e n
  have noA: ∀ {b:Addr} {o:Obj} {es:Array DictEntry} {ep:Nat},s₁.heap.get? b=some o->o.data= .dict es ep->H b=none:=fun {b o es ep} e d=>by
   cases q:H b with
   | none=>rfl
   | some u =>
    rcases hA b (by rw [q]; simp) with e' | e'
    case inr=>rw [(hts b e').1] at e; cases e; cases d
    subst e'
    rw [ha] at e; cases e
    have d':Data.seq vs.toArray _=Data.dict es ep:=d
    cases d'
  have nsK: ∀ {b:Addr} {m:Str->Option Value},s₁.heap.Ns b m->(hidT s₁.heap H).Ns b m:=fun {b m} ⟨o,es,ep,e,d,r⟩=>⟨o,es,ep,base_of e (noA e d),d,r⟩
  have hKb:K.In (hidT s₁.heap H):=fun b o e=>base_of (KX b o e) (by
   cases q:H b with
   | none=>rfl
   | some u =>
    rcases hA b (by rw [q]; simp) with e' | e'
    case inr=>rw [(hts b e').2.2] at e; cases e
    subst e'
    rw [hK (by rw [q]; simp)] at e; cases e)
  have hM:Mod K mg (⟨hidT s₁.heap H,ts⟩:Bs):=⟨hKb,nsK hns,⟨mb,nsK hb,hbb⟩,let ⟨mc,h1,h2⟩:=hlim; ⟨mc,nsK h1,h2⟩,let ⟨bm,ob,a1,a2,a3,a4,a5,a6⟩:=hbm; ⟨bm,ob,a1,a2,base_of a3 (by
   cases q:H bm with
   | none=>rfl
   | some u =>
    rcases hA bm (by rw [q]; simp) with e' | e'
    ·rw [e',ha] at a3; cases a3; exact absurd a6 (by simp)
    ·rw [(hts bm e').1] at a3; cases a3; exact absurd a6 (by simp)),a4,a5,a6⟩⟩
  have e0:Env0 P w K mg (⟨hidT s₁.heap H,ts⟩:Bs) callerA [] s₁ H:=⟨rfl,hM,fun b o e=>of_hidT e,Nat.le_of_eq (hidT_size _ _),trivial,fun b hb=>absurd (show b ∈ ([]:List Addr) from hb) (by simp),hok,.of_eq hg,hTb⟩
  refine codeAny_mono ((F ⟨hidT s₁.heap H,ts⟩ hKb (nsK hns) rfl).run callerA [] s₁ H ⟨[.ref a],[]⟩ [.ref a] [.ref a] _ _ hr e0 (hbind s₁ (.ref a)) (.cons rfl .nil) (hsp H hO hS)) fun r s' h=> ?_
  cases r with
  | error e=>exact (hCX H e s' h).elim
  | ok fl =>
   cases fl with
   | next=>exact False.elim h
   | brk=>exact False.elim h
   | cont=>exact False.elim h
   | ret u =>
    obtain ⟨v,H',os,bare,un,hok',r',q⟩:=h
    have q':v= .bl true:=q
    subst q'
    obtain rfl:u=Value.bool true:=r'
    refine ⟨rfl,old_of fun b o e=> ?_,os,bare⟩
    cases q:H b with
    | none=>exact .inl (un.keep b o e q (by intro z; exact absurd (show b ∈ ([]:List Addr) from z) (by simp)) (by simp))
    | some u =>
     rcases hO b with z | ⟨ob,xs,z⟩ | z
     case inr.inr =>
      rcases hA b (by rw [q]; simp) with e' | e'
      case inl =>
       subst e'
       obtain ⟨ps,e1,_⟩:=hok _ _ z
       rw [ha] at e1; cases e1
      obtain ⟨ps,e2,_⟩:=hok' b _ (un.tbls b 0 z)
      rw [(hts b e').1] at e; cases e
      exact .inr ⟨(hts b e').2.1,rfl,ps,e2⟩
     ·rw [q] at z; cases z
     ·have z2:=un.frzs b ob _ z
      obtain ⟨e1,_⟩:=hok b _ z
      obtain ⟨e2,_⟩:=hok' b _ z2
      rw [e] at e1; cases e1
      exact .inl e2
 have haT:a ∉ ts:=fun z=>by have:=(hts a z).1; rw [ha] at this; cases this
 have okT: ∀ b ∈ ts, ∀ H:Hp,ObjOk P w H s₁.heap b (.tbl 0):=fun b hb H=>⟨#[],(hts b hb).1,trip0,fun pos cv z=>by rw [show (#[]:Array Value).toList=[] from rfl,among0] at z; cases z⟩
 cases hk:K.lookup a with
 | some o =>
  have e:=KX a o hk
  rw [ha] at e
  cases e
  refine core (withT ts fun _=>none) (fun b=> ?_) (.inr ⟨_,vs.toArray,_,hk,rfl,rfl,rfl,by rw [List.size_toArray,lenV]; exact hl,by simpa using rv⟩) (fun b u z=> ?_) (fun b z=> ?_) (fun z=> ?_) fun P hP=>withT_in hP
  ·by_cases hb:b ∈ ts
   ·exact .inr (.inr (withT_in hb))
   ·exact .inl (withT_out hb)
  ·by_cases hb:b ∈ ts
   ·rw [withT_in hb] at z; cases z; exact okT b hb _
   ·rw [withT_out hb] at z; cases z
  ·by_cases hb:b ∈ ts
   ·exact .inr hb
   ·exact absurd (withT_out hb) z
  ·exact absurd (withT_out haT) z
 | none =>
  refine core (withT ts fun b=>if b=a then some (.frz { cls:= .type "list",data:= .seq vs.toArray } (.lst (ns.map V.int))) else none) (fun b=> ?_) (.inl (.inr ⟨{ cls:= .type "list",data:= .seq vs.toArray },by rw [withT_out haT]; exact if_pos rfl⟩)) (fun b u z=> ?_) (fun b z=> ?_) (fun _=>hk) fun P hP=>withT_in hP
  ·by_cases hb:b ∈ ts
   ·exact .inr (.inr (withT_in hb))
   ·rw [withT_out hb]
    by_cases hb:b=a
    ·exact .inr (.inl ⟨_,_,if_pos hb⟩)
    ·exact .inl (if_neg hb)
  ·by_cases hT:b ∈ ts
   ·rw [withT_in hT] at z; cases z; exact okT b hT _
   ·rw [withT_out hT] at z
    by_cases hb:b=a
    ·have z':=(if_pos hb).symm.trans z
     cases z'
     subst hb
     exact ⟨ha,by rw [List.length_map]; exact hl,vs,_,rv,ha⟩
    ·have z':=(if_neg hb).symm.trans z
     cases z'
  ·by_cases hT:b ∈ ts
   ·exact .inr hT
   ·rw [withT_out hT] at z
    by_cases hb:b=a
    ·exact .inl hb
    ·exact absurd (if_neg hb) z
theorem walk_of {l:PySem.W.OpenLaw} {n k:Nat} {q:Program} {loose:List Str} {XP:(Str->Option Value)->Heap->Prop} {YP:World->Heap->Prop} {d:DefRec} {K:Params->Fg} {CX:World->CXT} {sp:World->Sp} {x:Str}
  (hn:l.most=some n) (hn2:n<=sizeLine) (hdf:d.params.defaults=[]) (hr:Room k callerA)
  (hY: ∀ (w:World) (h:Heap),YP w h->(K w.params).In h) {ts:List Addr} (hts: ∀ (w:World) (h:Heap),YP w h-> ∀ P ∈ ts,h.get? P=some (PySem.W.tabObj #[])/\isCodeTable h P/\(K w.params).lookup P=none)
  (F: ∀ (w:World) (mg:Str->Option Value) (fa:Addr) (h:Heap),(K w.params).In h->h.Ns mainGlobals mg->mg d.name=some (.ref fa) ->
   ∃ fd:FuncData,(∀ (s:Shared) (u:Value),BindsTo s fd ⟨[u],[]⟩ [(x,u)]) /\
    ∀ base:Bs,(K w.params).In base->base.Ns mainGlobals mg->base.tabs=ts->FnOk l.prog w (K w.params) mg base (CX w) k fa fd [x] (sp w))
  (hsp: ∀ (w:World) (H:Hp) (a:Addr) (ns:List Int),ns.length<=n->Only H->SqL (K w.params) H a (ns.map V.int)->sp w [.ref a] H (fun v _=>v= .bl true) fun _ _ _=>False)
  (hCX: ∀ (w:World) (H:Hp) (s:Shared) (e:Value) (s':Shared),CX w [] H s (fun _ _ _=>False) e s'->False) :
  PySem.W.WalkO q loose XP YP l.row.toRowW d [] (fun f vs=>PySem.call f vs):=by
 refine Att.attach_call hn hdf fun w s₀ s₁ mg mb fa o pm cd doc a vs ns G Y ho hd hcd hmg hobj hints hlen hg=> ?_
 have KX:=hY w _ Y
 obtain ⟨fd,hb,hF⟩:=F w mg fa _ KX G.T.g hmg
 exact law_call KX G.T.g G.T.b G.T.builtins G.T.nolimit G.T.bmain hg hobj hints (Nat.le_trans hlen hn2) hr (hts w _ Y) hF hb (fun H hO hS=>hsp w H a ns hlen hO hS) fun H e s'=>hCX w H s₁ e s'
theorem walk_ofK {l:PySem.W.OpenLaw} {n k:Nat} {q:Program} {loose:List Str} {XP:(Str->Option Value)->Heap->Prop} {YP:World->Heap->Prop} {d:DefRec} {K:Params->Fg} {CX:CXT} {sp:Fg->Sp} {x:Str}
  (hn:l.most=some n) (hn2:n<=sizeLine) (hdf:d.params.defaults=[]) (hr:Room k callerA)
  (hY: ∀ (w:World) (h:Heap),YP w h->(K w.params).In h) {ts:List Addr} (hts: ∀ (w:World) (h:Heap),YP w h-> ∀ P ∈ ts,h.get? P=some (PySem.W.tabObj #[])/\isCodeTable h P/\(K w.params).lookup P=none)
  (F: ∀ (w:World) (mg:Str->Option Value) (fa:Addr) (h:Heap),(K w.params).In h->h.Ns mainGlobals mg->mg d.name=some (.ref fa) ->
   ∃ fd:FuncData,(∀ (s:Shared) (u:Value),BindsTo s fd ⟨[u],[]⟩ [(x,u)]) /\
    ∀ base:Bs,(K w.params).In base->base.Ns mainGlobals mg->base.tabs=ts->FnOk l.prog w (K w.params) mg base CX k fa fd [x] (sp (K w.params)))
  (hsp: ∀ (K:Fg) (H:Hp) (a:Addr) (ns:List Int),ns.length<=n->Only H->SqL K H a (ns.map V.int)->sp K [.ref a] H (fun v _=>v= .bl true) fun _ _ _=>False)
  (hCX: ∀ (H:Hp) (s:Shared) (e:Value) (s':Shared),CX [] H s (fun _ _ _=>False) e s'->False) :
  PySem.W.WalkO q loose XP YP l.row.toRowW d [] (fun f vs=>PySem.call f vs) :=
 walk_of (K:=K) (CX:=fun _=>CX) (sp:=fun w=>sp (K w.params)) hn hn2 hdf hr hY hts F (fun w H a ns h1 h2 h3=>hsp (K w.params) H a ns h1 h2 h3) fun _ H s e s'=>hCX H s e s'
def inClass (s:Stmt) (j:Nat):Stmt:=match s with
 | .ClassDef _ _ _ body _ _ _ _ _ _ _=>body.getD j (.Pass ⟨0,0,0,0⟩)
 | _=> .Pass ⟨0,0,0,0⟩
def defArgs (s:Stmt):Arguments:=match s with
 | .FunctionDef _ a _ _ _ _ _ _ _ _=>a
 | _=>{ posonlyargs:=[],args:=[],vararg:=none,kwonlyargs:=[],kw_defaults:=[],kwarg:=none,defaults:=[] }
def defBody (s:Stmt):List Stmt:=match s with
 | .FunctionDef _ _ b _ _ _ _ _ _ _=>b
 | _=>[]
def defScope (s:Stmt):Scope:=match s with
 | .FunctionDef _ _ _ _ _ _ sc _ _ _=>sc
 | _=>{ kind:= .function,names:=[],isGenerator:=false,isCoroutine:=false }
abbrev CX0:CXT:=fun _ _ _ _ _ _=>False
abbrev E0:XK:=fun _ _ _=>False
theorem pass0 {X:Cx}:Passes CX0 X E0:=fun _ _ _ _ _ _ _ h=>h.elim
structure Fun (K:Fg) (x qual:Str) (st:Stmt) (f:Addr) (fd:FuncData):Prop where
 ex: ∃ (oc:Value) (od:Option Addr) (kV doc pm:Value) (an:Option Addr) (cdv ct:Value) (osl:Array (Option Value)),
  fd=PySem.W.fnOf x qual (defArgs st) (defBody st) (defScope st) .none kV doc pm an cdv ct/\K.lookup f=some ⟨oc,od,.func fd,osl⟩/\PySem.W.codeIn K cdv qual=true
 kp:PySem.W.keepIn K (.ref f)=true
section
variable {P:Program} {w:World} {K:Fg} {mg:Str->Option Value} {base:Bs}
theorem Fun.ok {x qual:Str} {st:Stmt} {f:Addr} {fd:FuncData} {N ps:List Str} {k:Nat} {sp:Sp} (F:Fun K x qual st f fd) (S:FnScope N ps (defScope st)) (len: ∀ vs H Q E,sp vs H Q E->vs.length=ps.length)
  (hbody: ∀ (cdv:Value) (A:Around) (outer:List Env) (s:Shared) (H:Hp) (vs:List V) (Q:VK) (E:XK),Room k (A.deeper (envOfC qual (defScope st) s.heap.objs.size f cdv))->sp vs H Q E ->
   ∃ t,PSs (cxOf CX0 P w K mg base N qual (defScope st) f cdv A outer s H E).nox (defBody st) t/\t { nx:=fun _ H'=>Q .non H',rt:=Q } (start N vs) H):FnOk P w K mg base CX0 (k + 1) f fd ps sp:=by
 obtain ⟨oc,od,kV,doc,pm,an,cdv,ct,osl,rfl,lk,hcd⟩:=F.ex
 refine fn_of lk hcd S len fun A outer s H vs Q E hr hsp=> ?_
 obtain ⟨t,h,q⟩:=hbody cdv A outer s H vs Q E hr hsp
 exact ⟨t,h.nox,q⟩
theorem Fun.binds {x qual:Str} {st:Stmt} {f:Addr} {fd:FuncData} {ps:List Str} (F:Fun K x qual st f fd)
  (h: ∀ (kV doc pm:Value) (an:Option Addr) (cdv ct:Value) (us:List Value),us.length=ps.length->bindArgs (PySem.W.fnOf x qual (defArgs st) (defBody st) (defScope st) .none kV doc pm an cdv ct) ⟨us,[]⟩=pure (ps.zip us)):Binds K fd ps []:=by
 obtain ⟨oc,od,kV,doc,pm,an,cdv,ct,osl,rfl,lk,hcd⟩:=F.ex
 exact .all (h kV doc pm an cdv ct)
theorem fun_mk {x qual:Str} {st:Stmt} {f:Addr} {oc:Value} {od an:Option Addr} {osl:Array (Option Value)} {kV doc pm cdv ct:Value} (l:K.lookup f=some ⟨oc,od,.func (PySem.W.fnOf x qual (defArgs st) (defBody st) (defScope st) .none kV doc pm an cdv ct),osl⟩)
  (c:PySem.W.codeIn K cdv qual=true) (k:PySem.W.keepIn K (.ref f)=true):Fun K x qual st f (PySem.W.fnOf x qual (defArgs st) (defBody st) (defScope st) .none kV doc pm an cdv ct):=⟨⟨oc,od,kV,doc,pm,an,cdv,ct,osl,rfl,l,c⟩,k⟩
end
theorem small1000 {n:Nat} (h:n<=1000):n < sizeLine:=Nat.lt_of_le_of_lt h (by decide)
section
variable {X:Cx}
theorem pv (i:Nat) {x:Str} {pos:Pos} (hN:X.N[i]? =some x:=by rfl) (hv:Vis X.env.scope x:=by first | exact Or.inl rfl | exact Or.inr (Or.inl rfl) | exact Or.inr (Or.inr rfl)) (hd:(x == ("__debug__":Str))=false:=by decide)
  (hcd:(x == ("__classdict__":Str))=false:=by decide):PE X (.Name x pos) (tVar i):=pe_var hN hv hd hcd
end
theorem iteF {A B:Prop} (h:B):if false=true then A else B:=by
 rw [if_neg Bool.false_ne_true]
 exact h
theorem iteT {A B:Prop} (h:A):if true=true then A else B:=by
 rw [if_pos rfl]
 exact h
def Same (H H':Hp):Prop:= ∀ b o,H b=some o->H' b=some o
theorem Same.refl (H:Hp):Same H H:=fun _ _ h=>h
theorem Same.trans {H H1 H2:Hp} (a:Same H H1) (b:Same H1 H2):Same H H2:=fun c o h=>b c o (a c o h)
theorem Same.free {H H':Hp} (e:Same H H') {l:Addr} (h:H' l=Option.none):H l=Option.none:=by
 cases q:H l with
 | none=>rfl
 | some o =>
  rw [e l o q] at h
  cases h
theorem Same.seq {K:Fg} {H H':Hp} {a:Addr} {xs:List V} (e:Same H H') (h:SqL K H a xs):SqL K H' a xs:=by
 rcases h with (h | ⟨o,h⟩) | h
 ·exact .inl (.inl (e _ _ h))
 ·exact .inl (.inr ⟨o,e _ _ h⟩)
 ·exact .inr h
section
variable {κ :Type} [DecidableEq κ]
def valV (kvs:List (κ × V)) (k: κ):Option V:=(kvs.find? fun kv=>decide (kv.1=k)).map (·.2)
def putK (kvs:List (κ × V)) (k: κ) (v:V):List (κ × V) :=
 if (kvs.any fun kv=>decide (kv.1=k))=true then kvs.map (fun kv=>if kv.1=k then (kv.1,v) else kv) else kvs ++ [(k,v)]
def dropK (kvs:List (κ × V)) (k: κ):List (κ × V):=kvs.filter fun kv=>decide (kv.1 ≠ k)
theorem valV_pos {p: κ × V} {r:List (κ × V)} {k: κ} (e:p.1=k):valV (p :: r) k=some p.2:=by simp [valV,List.find?_cons,e]
theorem valV_neg {p: κ × V} {r:List (κ × V)} {k: κ} (e: ¬ p.1=k):valV (p :: r) k=valV r k:=by simp [valV,List.find?_cons,e]
theorem valV_any (k: κ): ∀ kvs:List (κ × V),(kvs.any fun kv=>decide (kv.1=k))=(valV kvs k).isSome
 | []=>rfl
 | p :: r=>by
  rw [List.any_cons]
  by_cases e:p.1=k
  ·simp only [valV_pos e,decide_eq_true e,Bool.true_or,Option.isSome_some]
  ·rw [valV_neg e,decide_eq_false e,Bool.false_or]; exact valV_any k r
theorem RelO.isSome_eq {o:Option V} {u:Option Value} (r:RelO o u):o.isSome=u.isSome:=by
 cases o with
 | none=>cases u with
  | none=>rfl
  | some _=>exact (show False from r).elim
 | some _=>cases u with
  | none=>exact (show False from r).elim
  | some _=>rfl
theorem RelO.getD {o:Option V} {u:Option Value} {d:V} {d':Value} (r:RelO o u) (rd:RelV d d'):RelV (o.getD d) (u.getD d'):=by
 cases o with
 | none=>cases u with
  | none=>exact rd
  | some _=>exact (show False from r).elim
 | some _=>cases u with
  | none=>exact (show False from r).elim
  | some _=>exact r
theorem KV.val {kvs:List (κ × V)} {vs:List (κ × Value)} (r:KV kvs vs) (k: κ):RelO (valV kvs k) (valueAt vs k):=by
 unfold KV at r
 induction r with
 | nil=>exact True.intro
 | @cons p q ps qs h t ih =>
  obtain ⟨h1,h2⟩:=h
  by_cases e:p.1=k
  ·have e':q.1=k:=h1.symm.trans e
   have b:valueAt (q :: qs) k=some q.2:=by simp [valueAt,List.find?_cons,e']
   rw [valV_pos e,b]; exact h2
  ·have e': ¬ q.1=k:=fun z=>e (h1.trans z)
   have b:valueAt (q :: qs) k=valueAt qs k:=by simp [valueAt,List.find?_cons,e']
   rw [valV_neg e,b]; exact ih
theorem KV.any {kvs:List (κ × V)} {vs:List (κ × Value)} (r:KV kvs vs) (k: κ):(kvs.any fun kv=>decide (kv.1=k))=vs.any fun kv=>decide (kv.1=k):=by
 unfold KV at r
 induction r with
 | nil=>rfl
 | cons h t ih=>rw [List.any_cons,List.any_cons,ih,h.1]
theorem KV.repl {kvs:List (κ × V)} {vs:List (κ × Value)} (r:KV kvs vs) (k: κ) {y:V} {u:Value} (ry:RelV y u) :
  KV (kvs.map fun kv=>if kv.1=k then (kv.1,y) else kv) (vs.map fun kv=>if kv.1=k then (kv.1,u) else kv):=by
 unfold KV at r ⊢
 induction r with
 | nil=>exact .nil
 | @cons p q ps qs h t ih =>
  rw [List.map_cons,List.map_cons]
  refine .cons ?_ ih
  obtain ⟨h1,h2⟩:=h
  by_cases e:p.1=k
  ·rw [if_pos e,if_pos (h1.symm.trans e)]; exact ⟨h1,ry⟩
  ·rw [if_neg e,if_neg (fun z=>e (h1.trans z))]; exact ⟨h1,h2⟩
theorem KV.put {kvs:List (κ × V)} {vs:List (κ × Value)} (r:KV kvs vs) (k: κ) {y:V} {u:Value} (ry:RelV y u):KV (putK kvs k y) (stored vs k u):=by
 unfold putK stored
 rw [r.any k]
 by_cases e:(vs.any fun kv=>decide (kv.1=k))=true
 ·rw [if_pos e,if_pos e]; exact r.repl k ry
 ·rw [if_neg e,if_neg e]; exact Paired.snoc r ⟨rfl,ry⟩
theorem KV.drop {kvs:List (κ × V)} {vs:List (κ × Value)} (r:KV kvs vs) (k: κ):KV (dropK kvs k) (without vs k):=by
 unfold KV at r ⊢
 unfold dropK without
 induction r with
 | nil=>exact .nil
 | @cons p q ps qs h t ih =>
  obtain ⟨h1,h2⟩:=h
  rw [List.filter_cons,List.filter_cons]
  by_cases e:p.1=k
  ·have a: ¬ decide (p.1 ≠ k)=true:=by simp [e]
   have b: ¬ decide (q.1 ≠ k)=true:=by simp [h1.symm.trans e]
   rw [if_neg a,if_neg b]; exact ih
  ·have e': ¬ q.1=k:=fun z=>e (h1.trans z)
   have a:decide (p.1 ≠ k)=true:=by simp [e]
   have b:decide (q.1 ≠ k)=true:=by simp [e']
   rw [if_pos a,if_pos b]; exact .cons ⟨h1,h2⟩ ih
theorem KV.keys {kvs:List (κ × V)} {vs:List (κ × Value)} (r:KV kvs vs):kvs.map (·.1)=vs.map (·.1):=by
 unfold KV at r
 induction r with
 | nil=>rfl
 | cons h t ih=>rw [List.map_cons,List.map_cons,ih,h.1]
theorem KV.length {kvs:List (κ × V)} {vs:List (κ × Value)} (r:KV kvs vs):kvs.length=vs.length:=Paired.length r
end
abbrev KT (H:Hp):List (List Key × V)->List (List Key × Addr × Value)->Prop:=Paired fun p q=>p.1=q.1/\H q.2.1=some (.tup (p.1.map kV))/\RelV p.2 q.2.2
theorem KT.val {H:Hp} {kvs:List (List Key × V)} {xs:List (List Key × Addr × Value)} (r:KT H kvs xs) (k:List Key):RelO (valV kvs k) ((atKey xs k).map (·.2)):=by
 induction r with
 | nil=>exact True.intro
 | @cons p q ps qs h t ih =>
  obtain ⟨h1,_,h2⟩:=h
  by_cases e:p.1=k
  ·have e':q.1=k:=h1.symm.trans e
   have b:atKey (q :: qs) k=some q.2:=by simp [atKey,List.find?_cons,e']
   rw [valV_pos e,b]; exact h2
  ·have e': ¬ q.1=k:=fun z=>e (h1.trans z)
   have b:atKey (q :: qs) k=atKey qs k:=by simp [atKey,List.find?_cons,e']
   rw [valV_neg e,b]; exact ih
theorem KT.repl {H:Hp} {kvs:List (List Key × V)} {xs:List (List Key × Addr × Value)} (r:KT H kvs xs) (k:List Key) {y:V} {u:Value} (ry:RelV y u) :
  KT H (kvs.map fun kv=>if kv.1=k then (kv.1,y) else kv) (xs.map (putAt k u)):=by
 induction r with
 | nil=>exact .nil
 | @cons p q ps qs h t ih =>
  rw [List.map_cons,List.map_cons]
  refine .cons ?_ ih
  obtain ⟨h1,h2,h3⟩:=h
  unfold putAt
  by_cases e:p.1=k
  ·rw [if_pos e,if_pos (h1.symm.trans e)]; exact ⟨h1,h2,ry⟩
  ·rw [if_neg e,if_neg (fun z=>e (h1.trans z))]; exact ⟨h1,h2,h3⟩
theorem KT.put {H:Hp} {kvs:List (List Key × V)} {xs:List (List Key × Addr × Value)} (r:KT H kvs xs) (k:List Key) {b:Addr} {y:V} {u:Value} (hb:H b=some (.tup (k.map kV))) (ry:RelV y u) :
  KT H (putK kvs k y) (storedH xs k b u):=by
 have e:(kvs.any fun kv=>decide (kv.1=k))=(atKey xs k).isSome:=by
  rw [valV_any,(r.val k).isSome_eq,Option.isSome_map]
 unfold putK storedH
 rw [e]
 by_cases q:(atKey xs k).isSome=true
 ·rw [if_pos q,if_pos q]; exact r.repl k ry
 ·rw [if_neg q,if_neg q]; exact Paired.snoc r ⟨rfl,hb,ry⟩
theorem KT.keeps {H H':Hp} {kvs:List (List Key × V)} {xs:List (List Key × Addr × Value)} (r:KT H kvs xs) (ht: ∀ b ys,H b=some (.tup ys)->H' b=some (.tup ys)):KT H' kvs xs :=
 Paired.mapP r fun _ _ z=>⟨z.1,ht _ _ z.2.1,z.2.2⟩
section
variable {P:Program} {w:World} {H:Hp} {h:Heap} {a:Addr}
end
def DGet (H:Hp) (a:Addr) (y:V) (r:Option V):Prop :=
 (∃ kvs k ep,Rd H a (.dK kvs ep)/\y=kV k/\r=valV kvs k)\/ ∃ kvs k b ep,Rd H a (.dT kvs ep)/\y= .ref b/\H b=some (.tup (k.map kV))/\r=valV kvs k
def DPut (H:Hp) (a:Addr) (y v:V) (R:Hp->Prop):Prop :=
 (∃ kvs k ep,H a=some (.dK kvs ep)/\y=kV k/\kvs.length < sizeLine/\ ∀ ep',R (upd H a (.dK (putK kvs k v) ep'))) \/
 ∃ kvs k b ep,H a=some (.dT kvs ep)/\y= .ref b/\H b=some (.tup (k.map kV))/\kvs.length < sizeLine/\ ∀ ep',R (upd H a (.dT (putK kvs k v) ep'))
theorem DGet.k {H:Hp} {a:Addr} {kvs:List (Key × V)} {k:Key} {ep:Nat} (e:H a=some (.dK kvs ep)):DGet H a (kV k) (valV kvs k):= .inl ⟨kvs,k,ep,.inl e,rfl,rfl⟩
theorem DGet.t {H:Hp} {a b:Addr} {kvs:List (List Key × V)} {k:List Key} {ep:Nat} (e:H a=some (.dT kvs ep)) (eb:H b=some (.tup (k.map kV))):DGet H a (.ref b) (valV kvs k):= .inr ⟨kvs,k,b,ep,.inl e,rfl,eb,rfl⟩
theorem DPut.k {H:Hp} {a:Addr} {kvs:List (Key × V)} {k:Key} {v:V} {ep:Nat} {R:Hp->Prop} (e:H a=some (.dK kvs ep)) (hl:kvs.length < sizeLine) (q: ∀ ep',R (upd H a (.dK (putK kvs k v) ep'))):DPut H a (kV k) v R:= .inl ⟨kvs,k,ep,e,rfl,hl,q⟩
theorem DPut.t {H:Hp} {a b:Addr} {kvs:List (List Key × V)} {k:List Key} {v:V} {ep:Nat} {R:Hp->Prop} (e:H a=some (.dT kvs ep)) (eb:H b=some (.tup (k.map kV))) (hl:kvs.length < sizeLine) (q: ∀ ep',R (upd H a (.dT (putK kvs k v) ep'))) :
  DPut H a (.ref b) v R:= .inr ⟨kvs,k,b,ep,e,rfl,eb,hl,q⟩
section
variable {X:Cx} {pins:List (Addr × Obj)} {σ :St} {H:Hp} {s:Shared} {a:Addr} {y v:V} {u r:Value} {o:Option V} {A:Around} {E:Value->Shared->Prop}
end
section
variable {X:Cx} {pins:List (Addr × Obj)} {σ :St} {H:Hp} {s:Shared} {a:Addr} {kvs:List (Key × V)} {k:Key} {u:Value} {A:Around} {E:Value->Shared->Prop}
end
section
variable {X:Cx} {o i e value:Expr} {pos pos' tpos:Pos} {td ty tv:TE}
end
section
variable {X:Cx} {pos:Pos}
end
structure M1 (X:Cx) (o:Expr) (m:Str) (apos:Pos) (e:Expr) (cpos:Pos):Prop where
 base:attributeBase o m X.env (eval o X.env)=eval o X.env
 few:((backTo cpos (starEach [e] X.env)).all (fun x=> !x.1) && (backToKw cpos (keywordEach [] X.env)).all (fun x=>x.1.isSome)
  && decide (([e]:List Expr).length + ([]:List Keyword).length + (if ([]:List Keyword).isEmpty then 0 else 1) < 30))=true
 line:(apos.endLine == cpos.line)=true
 trees:backTo cpos (starEach [e] X.env)=[(false,eval e X.env)]
structure M2 (X:Cx) (o:Expr) (m:Str) (apos:Pos) (e f:Expr) (cpos:Pos):Prop where
 base:attributeBase o m X.env (eval o X.env)=eval o X.env
 few:((backTo cpos (starEach [e,f] X.env)).all (fun x=> !x.1) && (backToKw cpos (keywordEach [] X.env)).all (fun x=>x.1.isSome)
  && decide (([e,f]:List Expr).length + ([]:List Keyword).length + (if ([]:List Keyword).isEmpty then 0 else 1) < 30))=true
 line:(apos.endLine == cpos.line)=true
 trees:backTo cpos (starEach [e,f] X.env)=[(false,eval e X.env),(false,eval f X.env)]
section
variable {X:Cx} {pins:List (Addr × Obj)} {σ :St} {H:Hp} {s:Shared} {a:Addr} {y d:V} {u r:Value} {o:Option V} {A:Around} {E:Value->Shared->Prop}
end
section
variable {X:Cx} {o e f:Expr} {apos cpos:Pos} {td ty tx:TE}
end
section
variable {X:Cx} {pins:List (Addr × Obj)} {σ :St} {H:Hp} {s:Shared} {a:Addr} {kvs:List (Key × V)} {A:Around} {E:Value->Shared->Prop}
end
section
variable {X:Cx} {pins:List (Addr × Obj)} {σ :St} {H:Hp} {s:Shared} {a:Addr} {y:V} {u:Value} {A:Around} {E:Value->Shared->Prop}
end
section
variable {X:Cx}
end
section
variable {κ :Type} [DecidableEq κ]
end
structure MethAt (P:Program) (w:World) (K:Fg) (mg:Str->Option Value) (base:Bs) (CX:CXT) (k:Nat) (C:Addr) (m:Str) (sp:Sp):Prop where
 cl:Cls K C
 ex: ∃ (f:Addr) (fd:FuncData) (ps:List Str),Meth K C m f/\FnOk P w K mg base CX k f fd ps sp/\Binds K fd ps []
theorem MethAt.mono {P:Program} {w:World} {K:Fg} {mg:Str->Option Value} {base:Bs} {CX:CXT} {j k:Nat} {C:Addr} {m:Str} {sp:Sp} (h:MethAt P w K mg base CX j C m sp) (hk:j<=k):MethAt P w K mg base CX k C m sp :=
 ⟨h.cl,let ⟨f,fd,ps,a,b,c⟩:=h.ex; ⟨f,fd,ps,a,b.mono hk,c⟩⟩
section
variable {X:Cx} {CX:CXT} {k:Nat} {E:XK} {m:Str} {pos apos:Pos} {e o:Expr} {es:List Expr} {ta:TE} {t:TA}
def tMethD {ι :Type} (R: ι ->Addr) (m:Str) (sp: ι ->Sp) (E:XK) (ta:TE) (t:TA):TE:=fun σ H Q=>ta σ H fun x H1=> ∃ i a dx fs,x= .ref a/\H1 a=some (.ins (R i) dx fs)/\fs.lookup m=none /\
 t σ H1 fun vs H2=>sp i (x :: vs) H2 Q E
theorem pe_methD {ι :Type} {R: ι ->Addr} {sp: ι ->Sp} {pl:Sem Bool} (he:PE X o ta) (hR: ∀ i,MethAt X.prog X.w X.K X.mg X.base CX k (R i) m (sp i)) (hr:Room k X.A) (hx:Passes CX X E) (ha:PA X (e :: es) t)
  (hst:starEach (e :: es) X.env=(false,eval e X.env) :: starEach es X.env:=by rfl) (hpl:(backTo pos (starEach es X.env)).any (·.1)=false:=by rfl)
  (ht:eval (.Call (.Attribute o m apos) (e :: es) [] pos) X.env=(do
   let ov <- eval o X.env
   standAt apos.atName
   let (f,first) <- holding [ov] (getMethod ov m pl)
   callWith pos f first (backTo pos (starEach (e :: es) X.env)) (backToKw pos (keywordEach [] X.env))):=by rfl) :
  PE X (.Call (.Attribute o m apos) (e :: es) [] pos) (tMethD R m sp E ta t):=by
 intro pins s σ H Q I h
 refine PySem.W.methodCall_KW (pl:=pl) (thn (he pins s σ H _ I h) fun u s1 ⟨x,H1,I1,rx,i,a,dx,fs,ex,ea,l,q⟩=> ?_) ht
 subst ex
 obtain rfl:u=Value.ref a:=rx
 obtain ⟨c,f,fd,ps,hm,F,hb⟩:=hR i
 refine getmeth_ok I1 ea c hm l ?_
 refine PySem.W.callWith_K (first:=[.ref a]) (h₀:=X.base) I.ok.mod.kin hm.kp (thn (ha pos pins s1 σ H1 _ I1 q) fun us s2 ⟨vs,H2,I2,r,q2⟩=>⟨I2.kIn,?_⟩) hst hpl
 exact run_fn (us:= .ref a :: us) (vs:= .ref a :: vs) (dvs:=[]) (ds:=[]) F hr hb .nil hx I2 (.cons rfl r) (by rw [List.append_nil]; exact q2)
theorem pe_methD0 {ι :Type} {R: ι ->Addr} {sp: ι ->Sp} {pl:Sem Bool} (he:PE X o ta) (hR: ∀ i,MethAt X.prog X.w X.K X.mg X.base CX k (R i) m (sp i)) (hr:Room k X.A) (hx:Passes CX X E)
  (ht:eval (.Call (.Attribute o m apos) [] [] pos) X.env=(do
   let ov <- eval o X.env
   standAt apos.atName
   let (f,first) <- holding [ov] (getMethod ov m pl)
   callWith pos f first (backTo pos (starEach [] X.env)) (backToKw pos (keywordEach [] X.env))):=by rfl) :
  PE X (.Call (.Attribute o m apos) [] [] pos) (tMethD R m sp E ta tNil):=by
 intro pins s σ H Q I h
 refine PySem.W.methodCall_KW (pl:=pl) (thn (he pins s σ H _ I h) fun u s1 ⟨x,H1,I1,rx,i,a,dx,fs,ex,ea,l,q⟩=> ?_) ht
 subst ex
 obtain rfl:u=Value.ref a:=rx
 obtain ⟨c,f,fd,ps,hm,F,hb⟩:=hR i
 refine getmeth_ok I1 ea c hm l ?_
 exact PySem.W.callWith_K0 (first:=[.ref a]) I1.kIn hm.kp (run_fn (us:=[.ref a]) (vs:=[.ref a]) (dvs:=[]) (ds:=[]) F hr hb .nil hx I1 (.cons rfl .nil) (by rw [List.append_nil]; exact q))
end
section
variable {X:Cx}
theorem pe_type {x:Str} {n:String} {pos:Pos} (hg:Gl X x) (hm:X.mg x=none) (hv:bootBuiltins x=some (.type n)) (hn:x ≠ "__name__":=by decide) (hd:(x == ("__debug__":Str))=false:=by decide):PE X (.Name x pos) (tC (.ty n)) :=
 pe_bltn hg hm hv rfl hn hd
end
structure Mk0 (K:Fg) (C:Addr):Prop where
 makes:PySem.W.makesIn K C=true
 init:PySem.W.findIn K (.ref C) "__init__"=some (some (.builtin "object.__init__"))
 kp:PySem.W.keepIn K (.ref C)=true
section
variable {X:Cx} {C:Addr} {x:Str} {p pos:Pos}
def tMake0 (C:Addr):TE:=fun _ H Q=> ∀ x dx,H x=none->H dx=none->dx ≠ x->Q (.ref x) (upd (upd H dx (.own x)) x (.ins C dx []))
theorem run_make0 {pins:List (Addr × Obj)} {σ :St} {H:Hp} {s:Shared} {Q:VK} (M:Mk0 X.K C) (I:Inv X pins σ H s)
  (h: ∀ x dx,H x=none->H dx=none->dx ≠ x->Q (.ref x) (upd (upd H dx (.own x)) x (.ins C dx []))) :
  wpAny (model X.prog X.w) X.A (call (.ref C) []) (EP X pins σ Q) X.xe s:=by
 have hq:=h (s.heap.objs.size + 1) s.heap.objs.size (I.hok.fresh (Nat.le_succ _)) (I.hok.fresh (Nat.le_refl _)) (Nat.ne_of_lt (Nat.lt_succ_self _))
 have I2:=Inv.made (C:=C) I
 have Y:=PySem.W.makes_of (M:=model X.prog X.w) I.kIn M.makes
 refine wpAny_call (make_map0 I.kIn M.makes M.init (fun self=>PySem.W.Looks.of_pure (PySem.W.oi_bind self)) ?_)
 have e2:((s.heap.push PySem.W.emptyDict).push (PySem.W.instObj C s.heap.objs.size)).get? (s.heap.objs.size + 1)=some (PySem.W.instObj C s.heap.objs.size):=by
  have:=Heap.get?_push_size (s.heap.push PySem.W.emptyDict) (o:=PySem.W.instObj C s.heap.objs.size) rfl
  rwa [Heap.size_push] at this
 have t1:PySem.W.Looks (model X.prog X.w) ((s.heap.push PySem.W.emptyDict).push (PySem.W.instObj C s.heap.objs.size)) (typeOf (.ref (s.heap.objs.size + 1))) (.ref C):=(PySem.W.Looks.ld e2).andThen .now
 have t2:PySem.W.Looks (model X.prog X.w) ((s.heap.push PySem.W.emptyDict).push (PySem.W.instObj C s.heap.objs.size)) (isInstance (.ref (s.heap.objs.size + 1)) (.type "object")) true:=t1.andThen (Y.top.keeps fun b o e=>Heap.get?_push_of_some _ (Heap.get?_push_of_some _ e))
 refine codeAny_call_builtin PySem.W.oi_plain PySem.W.entry_oi (@PySem.W.check_slot (model X.prog X.w) _ _ _ "object.__init__" "object" "__init__" (.ref (s.heap.objs.size + 1)) [] [] _ PySem.W.oi_kind PySem.W.oi_split t2 (PySem.W.oi_args (.ref (s.heap.objs.size + 1))) ?_)
 rw [PySem.W.oi_run]
 exact wpAny_pure (And.intro rfl ⟨V.ref (s.heap.objs.size + 1),_,I2,rfl,hq⟩)
theorem pe_make00 (M:Mk0 X.K C) (hg:Gl X x) (hm:X.mg x=some (.ref C)) (hdb:(x == ("__debug__":Str))=false:=by decide):PE X (.Call (.Name x p) [] [] pos) (tMake0 C):=by
 intro pins s σ H Q I h
 refine wpAny_Call_Name_kw (ld_glob I hg hm ?_ hdb)
 exact PySem.W.callWith_K0 I.kIn M.kp (run_make0 M I h)
end
def clos (env:Env):List (Str × NameKind)->List (Str × Addr)->List (Str × Addr)
 | [],cs=>cs
 | (n,k) :: r,cs=>clos env r (if k == .free then (match env.cells.lookup n with | some a=>(n,a) :: cs | none=>cs) else cs)
theorem clos_eq (env:Env): ∀ (ns:List (Str × NameKind)) (cs:List (Str × Addr)),(∀ y ∈ ns,y.2= .free-> ∃ c,env.cells.lookup y.1=some c) ->
  (forIn ns cs fun (x:Str × NameKind) (r:List (Str × Addr))=>(if (x.2 == .free)=true then do let a <- cellOf env x.1; pure (ForInStep.yield ((x.1,a) :: r)) else pure (ForInStep.yield r):Sem (ForInStep (List (Str × Addr)))))=pure (clos env ns cs)
 | [],cs,_=>rfl
 | (n,k) :: r,cs,h=>by
  have ih:=clos_eq env r
  rw [List.forIn_cons]
  by_cases hk:k= .free
  ·subst hk
   obtain ⟨c,e⟩:=h (n,.free) List.mem_cons_self rfl
   have e':env.cells.lookup n=some c:=e
   simp only [beq_self_eq_true,if_true,cellOf,e',pure_bind,clos]
   exact ih _ fun y hy=>h y (List.mem_cons_of_mem _ hy)
  ·have hb:(k == NameKind.free)=false:=by simpa using hk
   simp only [hb,Bool.false_eq_true,if_false,pure_bind,clos]
   exact ih _ fun y hy=>h y (List.mem_cons_of_mem _ hy)
theorem closureFor_eq {scope:Scope} {env:Env} (h: ∀ y ∈ scope.names,y.2= .free-> ∃ c,env.cells.lookup y.1=some c):closureFor scope env=pure (clos env scope.names []):=by
 have q:=clos_eq env scope.names [] h
 simp only [closureFor]
 first
  | (rw [q]; rfl)
  | (refine Eq.trans (congrArg (fun z=>z >>= fun cs=>pure cs) q) ?_; rfl)
theorem clos_sub {env:Env} {x:Str} {c:Addr}: ∀ {ns:List (Str × NameKind)} {cs:List (Str × Addr)},(clos env ns cs).lookup x=some c->cs.lookup x=some c\/env.cells.lookup x=some c
 | [],cs,h=> .inl h
 | (n,k) :: r,cs,h=>by
  have ih:=clos_sub (ns:=r) h
  rcases ih with ih | ih
  ·by_cases hk:(k == NameKind.free)=true
   ·rw [if_pos hk] at ih
    cases e:env.cells.lookup n with
    | none=>rw [e] at ih; exact .inl ih
    | some a =>
     rw [e] at ih
     by_cases hx:x == n
     ·have hx':x=n:=by simpa using hx
      subst hx'
      simp at ih
      subst ih
      exact .inr e
     ·simp only [List.lookup_cons,hx] at ih
      exact .inl ih
   ·rw [if_neg hk] at ih
    exact .inl ih
  ·exact .inr ih
theorem clos_keeps {env:Env} {x:Str} {c:Addr} (hc:env.cells.lookup x=some c): ∀ {ns:List (Str × NameKind)} {cs:List (Str × Addr)},cs.lookup x=some c->(clos env ns cs).lookup x=some c
 | [],cs,h=>h
 | (n,k) :: r,cs,h=>by
  refine clos_keeps hc (ns:=r) ?_
  by_cases hk:(k == NameKind.free)=true
  ·rw [if_pos hk]
   cases e:env.cells.lookup n with
   | none=>exact h
   | some a =>
    by_cases hx:x == n
    ·have hx':x=n:=by simpa using hx
     subst hx'
     rw [hc] at e
     cases e
     simp
    ·simp only [List.lookup_cons,hx]
     exact h
  ·rw [if_neg hk]
   exact h
theorem clos_has {env:Env} {x:Str} {c:Addr} (hc:env.cells.lookup x=some c): ∀ {ns:List (Str × NameKind)} {cs:List (Str × Addr)},(x,NameKind.free) ∈ ns->(clos env ns cs).lookup x=some c
 | [],cs,h=>by simp at h
 | (n,k) :: r,cs,h=>by
  rcases List.mem_cons.mp h with h | h
  ·cases h
   refine clos_keeps hc (ns:=r) ?_
   simp [hc]
  ·exact clos_has hc (ns:=r) h
theorem relabel_cell {scope:Scope} {env:Env} {x:Str}: ∀ {ns:List (Str × NameKind)} {k:NameKind},
  (ns.map fun (n,k)=>if (k == NameKind.free && env.scope.kind == .function && env.kindOf n == some .cell) then (n,NameKind.cell) else (n,k)).lookup x=some k->(k= .cell\/k= .free)->(∀ y ∈ ns,y.2 ≠ .cell)->(x,NameKind.free) ∈ ns
 | [],_,h,_,_=>by simp at h
 | (n,j) :: r,k,h,hk,nc=>by
  by_cases hx:x == n
  ·have hx':x=n:=by simpa using hx
   subst hx'
   have hj:j ≠ .cell:=nc _ List.mem_cons_self
   by_cases hc:(j == NameKind.free && env.scope.kind == .function && env.kindOf x == some .cell)=true
   ·have:j= .free:=by
     have:=(Bool.and_eq_true_iff.mp (Bool.and_eq_true_iff.mp hc).1).1
     simpa using this
    subst this
    exact List.mem_cons_self
   ·simp only [List.map_cons,hc,if_neg,Bool.false_eq_true,not_false_eq_true,List.lookup_cons,beq_self_eq_true] at h
    have:j=k:=by simpa using h
    subst this
    rcases hk with hk | hk
    ·exact absurd hk hj
    ·subst hk; exact List.mem_cons_self
  ·refine List.mem_cons_of_mem _ (relabel_cell (scope:=scope) (env:=env) (ns:=r) (k:=k) ?_ hk fun y hy=>nc y (List.mem_cons_of_mem _ hy))
   simp only [List.map_cons] at h
   by_cases hc:(j == NameKind.free && env.scope.kind == .function && env.kindOf n == some .cell)=true
   ·rw [if_pos hc] at h
    simpa only [List.lookup_cons,hx] using h
   ·rw [if_neg hc] at h
    simpa only [List.lookup_cons,hx] using h
theorem relabel_free {env:Env} {x:Str}: ∀ {ns:List (Str × NameKind)},ns.lookup x=some .free ->
  (ns.map fun (n,k)=>if (k == NameKind.free && env.scope.kind == .function && env.kindOf n == some .cell) then (n,NameKind.cell) else (n,k)).lookup x=some .cell \/
  (ns.map fun (n,k)=>if (k == NameKind.free && env.scope.kind == .function && env.kindOf n == some .cell) then (n,NameKind.cell) else (n,k)).lookup x=some .free
 | [],h=>by simp at h
 | (n,j) :: r,h=>by
  by_cases hx:x == n
  ·have hx':x=n:=by simpa using hx
   subst hx'
   have:j= .free:=by simpa using h
   subst this
   by_cases hc:(NameKind.free == NameKind.free && env.scope.kind == .function && env.kindOf x == some .cell)=true
   ·left; simp only [List.map_cons]; rw [if_pos hc]; simp
   ·right; simp only [List.map_cons]; rw [if_neg hc]; simp
  ·have h':r.lookup x=some .free:=by simpa only [List.lookup_cons,hx] using h
   have ih:=relabel_free (env:=env) (ns:=r) h'
   simp only [List.map_cons]
   by_cases hc:(j == NameKind.free && env.scope.kind == .function && env.kindOf n == some .cell)=true
   ·rw [if_pos hc]; simpa only [List.lookup_cons,hx] using ih
   ·rw [if_neg hc]; simpa only [List.lookup_cons,hx] using ih
abbrev cxB (X:Cx) (scope:Scope) (C:Addr) (N':List Str) (s₀:Shared) (H₀:Hp) (fp:List Addr):Cx :=
 { X with N:=N',s₀:=s₀,H₀:=H₀,env:=compEnvC scope (clos X.env scope.names []) C X.env,outer:=X.stack,stack:=X.stack,ex:=fp,fn:=fun _=>false,cw:=fun _=>false,pn:=[],xe:=fun _ _=>False }
def CapsOk (X:Cx) (scope:Scope):List (Str × Nat)->Prop
 | []=>True
 | p :: r=>(scope.names.lookup p.1=some .free/\X.N[p.2]? =some p.1/\(X.env.scope.names.lookup p.1=some .cell\/X.env.scope.names.lookup p.1=some .free))/\CapsOk X scope r
theorem CapsOk.mem {X:Cx} {scope:Scope}: ∀ {l:List (Str × Nat)},CapsOk X scope l-> ∀ p ∈ l,scope.names.lookup p.1=some .free/\X.N[p.2]? =some p.1/\(X.env.scope.names.lookup p.1=some .cell\/X.env.scope.names.lookup p.1=some .free)
 | [],_,p,h=>by simp at h
 | q :: r,h,p,hp=>by
  rcases List.mem_cons.mp hp with e | e
  ·rw [e]; exact h.1
  ·exact CapsOk.mem h.2 p e
def FreesOk (X:Cx) (names:List (Str × NameKind)):Prop:=(names.all fun y=>y.2 != .free || X.env.scope.names.lookup y.1 == some .cell || X.env.scope.names.lookup y.1 == some .free)=true
theorem FreesOk.mem {X:Cx} {l:List (Str × NameKind)} (h:FreesOk X l): ∀ y ∈ l,y.2= .free->(X.env.scope.names.lookup y.1=some .cell\/X.env.scope.names.lookup y.1=some .free):=fun y hy e=>by
 have q:=List.all_eq_true.mp h y hy
 rw [e] at q
 have q':((X.env.scope.names.lookup y.1 == some .cell) || (X.env.scope.names.lookup y.1 == some .free))=true:=q
 rcases Bool.or_eq_true_iff.mp q' with z | z
 ·exact .inl (eq_of_beq z)
 ·exact .inr (eq_of_beq z)
structure CompScope (X:Cx) (scope:Scope) (own:List Str) (caps:List (Str × Nat)):Prop where
 kind:scope.kind= .function
 nocell: ∀ y ∈ scope.names,y.2 ≠ .cell
 names: ∀ y ∈ scope.names,y.2= .local->scope.names.lookup y.1=some .local
 caps:CapsOk X scope caps
 frees:FreesOk X scope.names
abbrev capN (own:List Str) (caps:List (Str × Nat)):List Str:=own ++ caps.map (·.1)
abbrev capS (own:List Str) (caps:List (Str × Nat)) (σ :St):St:=List.replicate own.length none ++ caps.map fun p=>(σ[p.2]?).getD none
theorem compLoop_any {prog:Program} {w:World} {A:Around} {R:Result->Shared->Prop} {s:Shared} {elt target iter:Expr} {ifs:List Expr} {scope:Scope} {pos:Pos} {it acc:Value} {env:Env} (I:Nat->Shared->Prop)
  (turn: ∀ n s,I n s->wpAny (model prog w) A (pyNext it) (fun r s₁=>match r with
   | none=>R (.ok .next) s₁
   | some v=>wpAny (model prog w) A (letOwnedTupleGo target it v) (fun _ s₁'=>wpAny (model prog w) A (assign target env v) (fun _ s₂ =>
     wpAny (model prog w) A (forIn ifs true fun c r=>if r=true then do let ok <- isTrue c env (eval c env); pure (ForInStep.yield ok) else pure (ForInStep.yield r)) (fun ok s₃ =>
      if ok=true then wpAny (model prog w) A (eval elt env) (fun x s₄ =>
       wpAny (model prog w) A (call (.builtin "list.append") [acc,x]) (fun _ s₅ => ∃ m,m < n/\I m s₅) (fun _ _=>False) s₄) (fun _ _=>False) s₃
      else ∃ m,m < n/\I m s₃) (fun _ _=>False) s₂) (fun _ _=>False) s₁') (fun _ _=>False) s₁) (fun _ _=>False) s)
  (n:Nat) (h:I n s) :
  codeAny (model prog w) A (.compLoop (.ListComp elt [⟨target,iter,ifs,0⟩] scope pos) 0 it acc env) R s:=by
 refine codeAny_loop rfl I (fun n s hI=> ?_) n h
 show wpAny _ A ((compTurn (.ListComp elt [⟨target,iter,ifs,0⟩] scope pos) 0 it acc env).onRaise (fun x=>do noteFrame x env; theTreesLotGoes x)) _ _ s
 refine wpAny_noted ?_
 rw [compTurn_list]
 refine wpAny_bind (wpAny_standAt (wpAny_bind (wpAny_mono (turn n s hI) (fun r s₁ h₁=> ?_) fun _ _ h'=>h'.elim)))
 cases r with
 | none=>exact wpAny_pure h₁
 | some v =>
  refine wpAny_bind (wpAny_mono h₁ (fun _ s₁' h₁'=> ?_) fun _ _ h'=>h'.elim)
  refine wpAny_bind (wpAny_mono h₁' (fun _ s₂ h₂=>wpAny_bind (wpAny_mono h₂ (fun ok s₃ h₃ => ?_) fun _ _ h'=>h'.elim)) fun _ _ h'=>h'.elim)
  cases ok with
  | false=>exact wpAny_pure ⟨rfl,h₃⟩
  | true =>
   exact wpAny_bind (wpAny_bind (wpAny_mono h₃ (fun x s₄ h₄ =>wpAny_bind (wpAny_mono h₄ (fun _ s₅ h₅ =>wpAny_pure (wpAny_pure ⟨rfl,h₅⟩)) fun _ _ h'=>h'.elim)) fun _ _ h'=>h'.elim))
section
variable {X:Cx} {pins:List (Addr × Obj)} {σ :St} {H:Hp} {s s1:Shared} {scope:Scope} {own:List Str} {caps:List (Str × Nat)} {fp:List Addr}
theorem Inv.block {h1:Heap} {tk:Nat} (I:Inv X pins σ H s) (S:CompScope X scope own caps) (hf: ∀ b ∈ fp,FpOk X pins H b)
  (hns:h1.Ns s.heap.objs.size fun _=>none) (hk: ∀ b o,s.heap.get? b=some o->h1.get? b=some o) (hfl: ∀ b ∈ fp,b < s.heap.objs.size) :
  Inv (cxB X scope s.heap.objs.size (capN own caps) s H fp) [] (capS own caps σ) H { s with heap:=h1,toks:=tk }:=by
 have hfree: ∀ y ∈ scope.names,y.2= .free-> ∃ c,X.env.cells.lookup y.1=some c:=fun y hy e=>I.ok.has _ (S.frees.mem y hy e)
 have sub: ∀ x c,(clos X.env scope.names []).lookup x=some c->X.env.cells.lookup x=some c:=fun x c e=>by
  rcases clos_sub e with z | z
  ·simp at z
  ·exact z
 have celT: ∀ {c:Addr} {v:Option Value},s.heap.IsCell c v->h1.IsCell c v:=fun {c v} ⟨o,ho,hd⟩=>⟨o,hk _ _ ho,hd⟩
 refine ⟨⟨I.ok.mod,?_,I.ok.glob,I.ok.blt,Nat.le_refl _,fun y z c e1 e2=>I.ok.inj y z c (sub _ _ e1) (sub _ _ e2),fun y hy=> ?_,(fun y c e=>(nomatch e)),I.ok.hd,I.ok.frames,.inl rfl,fun b hb=>⟨Nat.ne_of_lt (hfl b hb),fun x c e=>(hf b hb).2.2.2.2.1 x c (sub x c e)⟩,
   I.bs,Nat.le_trans I.ok.bsz I.sz,fun b o e hb=> ?_,fun b hb z=> ?_,I.stack,I.stkFree,fun P z=>I.base.tbls P 0 (I.ok.tab P z),fun _ z=>z⟩,
  rfl,I.bare,Un.kept hk,⟨_,hns,fun i y v e1 e2 e3=> ?_⟩,fun y c e=> ?_,I.hok.fresh (Nat.le_refl _),fun y c e=>(I.freeC y c (sub y c e)).imp id fun ⟨_,z⟩=>⟨rfl,z⟩,fun p hp=>absurd (show p ∈ ([]:List (Addr × Obj)) from hp) (by simp),I.hok.kept hk,?_⟩
 ·exact S.kind
 ·have hy:(relabel scope X.env).names.lookup y=some .cell\/(relabel scope X.env).names.lookup y=some .free:=hy
  have m:(y,NameKind.free) ∈ scope.names:=by
   rcases hy with z | z
   ·exact relabel_cell (scope:=scope) (env:=X.env) z (.inl rfl) S.nocell
   ·exact relabel_cell (scope:=scope) (env:=X.env) z (.inr rfl) S.nocell
  obtain ⟨c,e⟩:=hfree _ m rfl
  exact ⟨c,clos_has e m⟩
 ·rcases (hf b hb).2.2.2.1 with z | z
  ·exact I.ok.noex b o e z
  ·exact absurd (Nat.lt_of_lt_of_le (Heap.lt_size e) (Nat.le_trans I.ok.bsz z)) (Nat.lt_irrefl _)
 ·rcases List.mem_cons.mp (I.stkSub b z) with q | q
  ·exact (hf b hb).2.1 q
  ·exact (hf b hb).2.2.1 q
 ·-- a captured name
  have hi:own.length<=i:=by
   rcases Nat.lt_or_ge i own.length with q | q
   ·rw [List.getElem?_append_left (by simpa using q),List.getElem?_replicate,if_pos q] at e2
    cases e2
   ·exact q
  rw [List.getElem?_append_right hi,List.getElem?_map] at e1
  rw [List.getElem?_append_right (by simpa using hi),List.length_replicate,List.getElem?_map] at e2
  cases ep:caps[i - own.length]? with
  | none=>rw [ep] at e1; cases e1
  | some p =>
   rw [ep] at e1 e2
   have ey:p.1=y:=Option.some.inj e1
   subst ey
   obtain ⟨f1,f2,f3⟩:=S.caps.mem p (List.mem_of_getElem? ep)
   have eσ : σ[p.2]? =some (some v):=by
    have e2':(σ[p.2]?).getD none=some v:=Option.some.inj e2
    cases q: σ[p.2]? with
    | none=>rw [q] at e2'; cases e2'
    | some o=>rw [q] at e2'; exact congrArg some e2'
   obtain ⟨m,_,hl⟩:=I.loc
   obtain ⟨u,ru,L⟩:=hl p.2 p.1 v f2 eσ (f3.elim (fun z=> .inr (.inl z)) fun z=> .inr (.inr z))
   refine ⟨u,ru,.inr ⟨relabel_free f1,?_⟩⟩
   rcases L with ⟨L,_⟩ | ⟨_,c,e,ic⟩
   ·have L:X.env.scope.names.lookup p.1=some .local:=L
    rcases f3 with z | z <;> (rw [z] at L; cases L)
   ·exact ⟨c,clos_has e (PySem.mem_of_lookup f1),celT ic⟩
 ·obtain ⟨v,z⟩:=I.cell y c (sub y c e)
  exact ⟨v,celT z⟩
 ·show (capS own caps σ).length=(capN own caps).length
  simp
def PTs (X:Cx) (ifs:List Expr) (t:TT):Prop:= ∀ (pins:List (Addr × Obj)) (s:Shared) (σ :St) (H:Hp) (Q:Bool->Hp->Prop),Inv X pins σ H s->t σ H Q ->
 wpAny (model X.prog X.w) X.A (forIn ifs true fun c r=>if r=true then do let ok <- isTrue c X.env (eval c X.env); pure (ForInStep.yield ok) else pure (ForInStep.yield r)) (TP X pins σ Q) X.xe s
theorem pts_one {X:Cx} {c:Expr} {t:TT} (h:PT X c t):PTs X [c] t:=fun pins s σ H Q I hq=>wpAny_tests_one (h pins s σ H Q I hq)
def CompGo (own:List Str) (caps:List (Str × Nat)) (g:TG) (tc:TT) (te:TE) (σ :St) (Q:VK) (J:It) (H1:Hp):Prop:= ∀ D,H1 D=none-> ∃ W:Nat->Nat->St->Hp->Prop,(∃ m,W 0 m (capS own caps σ) (upd H1 D (.lst [])))/\ ∀ i m σ' H',W i m σ' H' ->
 (J.stop i H'/\Q (.ref D) H')\/(J.go i H'/\ ∃ N:St->Hp->Prop,(∀ σ2 H2,N σ2 H2-> ∃ m',m' < m/\W (i + 1) m' σ2 H2)/\ ∀ x H2,J.yld i H' x H2->g x σ' H2 fun σ3 H3=>tc σ3 H3 fun b H4 =>
  if b=true then te σ3 H4 fun y H5=> ∃ ys,H5 D=some (.lst ys)/\ys.length < sizeLine/\N σ3 (upd H5 D (.lst (ys ++ [y]))) else N σ3 H4)
def tComp (own:List Str) (caps:List (Str × Nat)) (wi:TI) (g:TG) (tc:TT) (te:TE):TE:=fun σ H Q=>wi σ H (CompGo own caps g tc te σ Q)
end
inductive D where
 | at (v:V)
 | tup (ds:List D)
mutual
def DatAt (K:Fg) (H:Hp):D->V->Prop
 | .at x,v=>v=x/\flatV x=true
 | .tup ds,v=> ∃ a xs,v= .ref a/\SqT K H a xs/\DatsAt K H ds xs
def DatsAt (K:Fg) (H:Hp):List D->List V->Prop
 | [],xs=>xs=[]
 | d :: ds,xs=> ∃ x r,xs=x :: r/\DatAt K H d x/\DatsAt K H ds r
end
mutual
def D.depth:D->Nat
 | .at _=>0
 | .tup ds=>depths ds + 1
def depths:List D->Nat
 | []=>0
 | d :: ds=>max d.depth (depths ds)
end
theorem Same.tup {K:Fg} {H H':Hp} {a:Addr} {xs:List V} (e:Same H H') (h:SqT K H a xs):SqT K H' a xs:=by
 rcases h with (h | ⟨o,h⟩) | h
 ·exact .inl (.inl (e _ _ h))
 ·exact .inl (.inr ⟨o,e _ _ h⟩)
 ·exact .inr h
mutual
theorem DatAt.same {K:Fg} {H H':Hp} (e:Same H H'): ∀ {d:D} {v:V},DatAt K H d v->DatAt K H' d v
 | .at x,v,h=>h
 | .tup ds,v,h=>by
  obtain ⟨a,xs,e1,e2,e3⟩:=h
  exact ⟨a,xs,e1,e.tup e2,DatsAt.same e e3⟩
theorem DatsAt.same {K:Fg} {H H':Hp} (e:Same H H'): ∀ {ds:List D} {xs:List V},DatsAt K H ds xs->DatsAt K H' ds xs
 | [],xs,h=>h
 | d :: ds,xs,h=>by
  obtain ⟨x,r,e1,e2,e3⟩:=h
  exact ⟨x,r,e1,DatAt.same e e2,DatsAt.same e e3⟩
end
section
variable {X:Cx} {pins:List (Addr × Obj)} {σ :St} {H:Hp} {s:Shared}
end
end L2
end
section
namespace PySem.SeqAt
open AutoSeq1 (wpAny_loadPart')
open MeetsSeq MeetsSeq2 MeetsSeq3 SeqRoads2
theorem wpAny_forIn_upto {M:Model} {A:Around} {E:Value->Shared->Prop} {s:Shared} {β :Type} {n:Nat} (f:Nat-> β ->Sem (ForInStep β)) (I:Nat-> β ->Shared->Prop) (Q: β ->Shared->Prop)
  (turn: ∀ i b s,i < n->I i b s->wpAny M A (f i b) (fun r s'=>match r with | .yield b'=>I (i + 1) b' s' | .done b'=>Q b' s') E s)
  (fin: ∀ b s,I n b s->Q b s) (b: β) (h:I 0 b s):wpAny M A (forIn ([:n]:Std.Legacy.Range) b f) Q E s:=by
 rw [Std.Legacy.Range.forIn_eq_forIn_range']
 simp only [Std.Legacy.Range.size,Nat.sub_zero,Nat.add_sub_cancel,Nat.div_one]
 refine wpAny_forIn_list f (fun rest b s'=> ∃ i,rest=List.range' i (n - i)/\i<=n/\I i b s') Q ?_ ?_ _ _ ⟨0,by simp,Nat.zero_le _,h⟩
 ·rintro x rest b s' ⟨i,hr,hi,hI⟩
  have hlt:i < n:=by
   rcases Nat.lt_or_ge i n with q | q
   ·exact q
   ·rw [Nat.sub_eq_zero_of_le q] at hr; simp at hr
  obtain ⟨rfl,hrest⟩:x=i/\rest=List.range' (i + 1) (n - (i + 1)):=by
   rw [show n - i=(n - (i + 1)) + 1 by omega,List.range'_succ] at hr
   injection hr with h1 h2
   exact ⟨h1,h2⟩
  refine wpAny_mono (turn x b s' hlt hI) (fun r s2 hr2=> ?_) fun _ _ z=>z
  cases r with
  | done b'=>exact hr2
  | yield b'=>exact ⟨x + 1,hrest,hlt,hr2⟩
 ·rintro b s' ⟨i,hr,hi,hI⟩
  have:i=n:=by
   rcases Nat.lt_or_ge i n with q | q
   ·rw [show n - i=(n - (i + 1)) + 1 by omega,List.range'_succ] at hr; cases hr
   ·omega
  subst this
  exact fin _ _ hI
theorem tuple_indexAt (l:Addr) (items:Array Value) (n:Nat) (dd:Option Addr) (sl:Array (Option Value)) (x:Value) (e:Value->Bool) (j:Nat) (hj:j < items.size)
  (hit:e items[j]=true) (hno: ∀ m (hm:m < items.size),m < j->e items[m]=false) :
  Meets (Builtin.«tuple.index» ⟨[.ref l,x],[]⟩)
   (fun A R s=>s.heap.get? l=some { cls:= .type "tuple",dict:=dd,data:= .seq items n,slots:=sl }/\(∀ y,y ∈ items->EqAt A.in1 s y x (e y))/\R (.ok (.ret (.int j s.toks))) { s with toks:=s.toks + 1 }) :=
 .of_wp fun prog w A R s h=>by
  obtain ⟨hp,g,d,tk,os⟩:=s; obtain ⟨hl,he,h⟩:=h
  wp_walk using wpAny_loadPart' hl,wpAny_forIn_upto (n:=min items.size items.size) _ (fun i b s'=>b.1=none/\i<=j/\s'=⟨hp,g,d,tk,os⟩) _
  case turn =>
   rintro i b s' hi ⟨hb,hij,rfl⟩
   have hi':i < items.size:=by omega
   rw [Array.getElem?_eq_getElem hi']
   refine wpAny_bind (he _ (Array.getElem_mem hi') prog w _ _ ?_)
   by_cases ij:i=j
   ·subst ij
    rw [hit]
    wp_walk
    exact ⟨_,rfl,h⟩
   ·rw [hno i hi' (by omega)]
    wp_walk
    exact ⟨rfl,by omega,rfl⟩
  case fin =>
   rintro b s' ⟨hb,hij,rfl⟩
   omega
  case h =>
   exact ⟨rfl,Nat.zero_le _,rfl⟩
end PySem.SeqAt
namespace L2
open PySem PySem.Spec PyProof.Rows
section
variable {X:Cx}
def rIndexT (K:Fg):V->List V->Hp->VK->Prop:=fun x vs H Q=> ∃ a xs y j z,x= .ref a/\vs=[y]/\SqT K H a xs/\flatV y=true/\xs.all flatV=true/\xs[j]? =some z/\eqV z y=true/\(∀ i z,i < j->xs[i]? =some z->eqV z y=false)/\Q (.int (j:Nat)) H
theorem mt_indexT:MtR X "tuple.index" (rIndexT X.K):=by
 intro pins s σ H x vs v us Q I rx rv h
 obtain ⟨a,xs,y,j,z,rfl,rfl,hS,fy,fs,ej,ez,hno,q⟩:=h
 obtain rfl:v=Value.ref a:=rx
 obtain ⟨u,rfl,ru⟩:=rv.one
 obtain ⟨its,r,pl,_⟩:=I.tuple hS
 have eqs:=mem_eqAt (A:=X.A.in1) (s:=s) ru fy r fs
 obtain ⟨w,ew,rw'⟩:=r.get ej
 have hj:j < its.length:=(List.getElem?_eq_some_iff.mp ew).1
 obtain ⟨ob,eo,hc,nn,hd⟩:=pl
 obtain ⟨cls,dd,data,sl⟩:=ob
 simp only at hc hd
 subst hc hd
 have flat_at: ∀ {i:Nat} {z:V},xs[i]? =some z->flatV z=true:=fun {i z} e=>by
  exact List.all_eq_true.mp fs z (List.mem_of_getElem? e)
 refine call_meets F.slot_tuple_index ⟨_,eo,rfl⟩ F.entry_tuple_index (F.args_tuple_index_2 _ _) (SeqAt.tuple_indexAt a its.toArray nn dd sl u (eqU y) j (by simpa using hj) ?_ ?_) ⟨eo,fun w hw=>eqs w (by simpa using hw),?_⟩
 ·have:its[j]=w:=(List.getElem?_eq_some_iff.mp ew).2
  show eqU y its[j]=true
  rw [this,eqU_of rw' (flat_at ej)]
  exact ez
 ·intro m hm hmj
  have hm':m < its.length:=by simpa using hm
  have hx:m < xs.length:=by rw [r.length]; exact hm'
  obtain ⟨w',ew',r'⟩:=r.get (List.getElem?_eq_getElem hx)
  have:its[m]=w':=(List.getElem?_eq_some_iff.mp ew').2
  show eqU y its[m]=false
  rw [this,eqU_of r' (flat_at (List.getElem?_eq_getElem hx))]
  exact hno m _ hmj (List.getElem?_eq_getElem hx)
 ·exact ⟨.int (j:Nat),H,I.tok _,⟨_,rfl⟩,q⟩
end
structure FnAt (P:Program) (w:World) (K:Fg) (mg:Str->Option Value) (base:Bs) (CX:CXT) (k:Nat) (x:Str) (sp:Sp):Prop where
 ex: ∃ (f:Addr) (fd:FuncData) (ps:List Str),mg x=some (.ref f)/\PySem.W.keepIn K (.ref f)=true/\FnOk P w K mg base CX k f fd ps sp/\Binds K fd ps []
theorem FnAt.mono {P:Program} {w:World} {K:Fg} {mg:Str->Option Value} {base:Bs} {CX:CXT} {j k:Nat} {x:Str} {sp:Sp} (h:FnAt P w K mg base CX j x sp) (hk:j<=k):FnAt P w K mg base CX k x sp :=
 ⟨let ⟨f,fd,ps,a,b,c,d⟩:=h.ex; ⟨f,fd,ps,a,b,c.mono hk,d⟩⟩
theorem FnAt.imp {P:Program} {w:World} {K:Fg} {mg:Str->Option Value} {base:Bs} {CX:CXT} {k:Nat} {x:Str} {sp sp':Sp} (h:FnAt P w K mg base CX k x sp) (hs: ∀ vs H Q E,sp' vs H Q E->sp vs H Q E):FnAt P w K mg base CX k x sp' :=
 ⟨let ⟨f,fd,ps,a,b,c,d⟩:=h.ex; ⟨f,fd,ps,a,b,c.imp hs,d⟩⟩
def tFn (sp:Sp) (E:XK) (t:TA):TE:=fun σ H Q=>t σ H fun vs H1=>sp vs H1 Q E
section
variable {X:Cx} {CX:CXT} {k:Nat} {sp:Sp} {E:XK} {x:Str} {p pos:Pos} {e:Expr} {es:List Expr} {t:TA}
theorem pe_fn (h:FnAt X.prog X.w X.K X.mg X.base CX k x sp) (hr:Room k X.A) (hg:Gl X x) (hx:Passes CX X E) (ha:PA X (e :: es) t) (hdb:(x == ("__debug__":Str))=false:=by decide)
  (he:starEach (e :: es) X.env=(false,eval e X.env) :: starEach es X.env:=by rfl) (hpl:(backTo pos (starEach es X.env)).any (·.1)=false:=by rfl):PE X (.Call (.Name x p) (e :: es) [] pos) (tFn sp E t):=by
 obtain ⟨f,fd,ps,hm,hk,F,hb⟩:=h.ex
 intro pins s σ H Q I hq
 refine pe_call (dvs:=[]) (ds:=[]) F hr hg hm hk hb .nil hx ha hdb he hpl pins s σ H Q I ?_
 have e0:(fun (vs:List V) (H1:Hp)=>sp (vs ++ []) H1 Q E)=fun vs H1=>sp vs H1 Q E:=by funext vs H1; rw [List.append_nil]
 show t σ H (fun vs H1=>sp (vs ++ []) H1 Q E)
 rw [e0]
 exact hq
end
theorem pe_globR {X:Cx} {x:Str} {a:Addr} {pos:Pos} (hg:Gl X x) (hm:X.mg x=some (.ref a)) (hd:(x == ("__debug__":Str))=false:=by decide):PE X (.Name x pos) (tC (.ref a)):=pe_glob (v:= .ref a) hg hm rfl hd
def TopT (K:Fg) (a:Addr) (xs:List V):Prop:= ∃ (o:Obj) (its:Array Value) (n:Nat),K.lookup a=some o/\o.cls= .type "tuple"/\o.dict=none/\o.data= .seq its n/\its.size<=sizeLine/\Vals xs its.toList
theorem TopT.sq {K:Fg} {a:Addr} {xs:List V} (h:TopT K a xs) (H:Hp):SqT K H a xs:=let ⟨o,its,n,h1,h2,_,h3,h4,h5⟩:=h; .inr ⟨o,its,n,h1,h2,h3,h4,h5⟩
theorem TopT.ty {K:Fg} {a:Addr} {xs:List V} (h:TopT K a xs) (H:Hp):tyV K "tuple" (.ref a) H:=let ⟨o,its,n,h1,h2,h0,h3,h4,h5⟩:=h; .inr (.inl ⟨rfl,o,h1,h2,h0⟩)
def newI (H:Hp) (x dx C:Addr) (fs:List (Str × V)):Hp:=upd (upd H dx (.own x)) x (.ins C dx fs)
theorem newI_at {H:Hp} {x dx C:Addr} {fs:List (Str × V)}:newI H x dx C fs x=some (.ins C dx fs):=upd_same
theorem newI_same {H:Hp} {x dx C:Addr} {fs:List (Str × V)} (hx:H x=none) (hd:H dx=none):Same H (newI H x dx C fs):=fun b o e=>by
 unfold newI
 rw [upd_ne (ne_of_none e hx),upd_ne (ne_of_none e hd)]
 exact e
theorem same_upd {H:Hp} {p:Addr} (h:H p=none) (o:HO):Same H (upd H p o):=fun b u q=>by rw [upd_ne (ne_of_none q h)]; exact q
def tNew (C:Addr) (fs:List Str) (t:TA):TE:=fun σ H Q=>t σ H fun vs H1=>vs.length=fs.length/\ ∀ x dx,H1 x=none->H1 dx=none->dx ≠ x->Q (.ref x) (newI H1 x dx C (fs.zip vs))
def spNew (C:Addr) (fs:List Str):Sp:=fun vs H Q _=> ∃ p dx r,vs= .ref p :: r/\r.length=fs.length/\H p=some (.ins C dx [])/\Q .non (upd H p (.ins C dx (fs.zip r)))
structure NewAt (P:Program) (w:World) (K:Fg) (mg:Str->Option Value) (base:Bs) (x:Str) (C:Addr) (fs:List Str):Prop where
 glob:mg x=some (.ref C)
 cl:Cls K C
 ex: ∃ (f:Addr) (fd:FuncData) (ps:List Str),Mk K C f/\FnOk P w K mg base CX0 1 f fd ps (spNew C fs)/\Binds K fd ps []
section
variable {X:Cx} {C:Addr} {fs:List Str} {x:Str} {p pos:Pos} {e:Expr} {es:List Expr} {t:TA} {k:Nat}
theorem pe_new (h:NewAt X.prog X.w X.K X.mg X.base x C fs) (hr:Room (k + 2) X.A) (hg:Gl X x) (ha:PA X (e :: es) t) (hdb:(x == ("__debug__":Str))=false:=by decide)
  (he:starEach (e :: es) X.env=(false,eval e X.env) :: starEach es X.env:=by rfl) (hpl:(backTo pos (starEach es X.env)).any (·.1)=false:=by rfl):PE X (.Call (.Name x p) (e :: es) [] pos) (tNew C fs t):=by
 obtain ⟨f,fd,ps,M,F,hb⟩:=h.ex
 intro pins s σ H Q I hq
 refine wpAny_Call_Name_kw (ld_glob I hg h.glob ?_ hdb)
 refine PySem.W.callWith_K (h₀:=X.base) I.ok.mod.kin M.kp (thn (ha pos pins s σ H _ I hq) fun us s1 ⟨vs,H1,I1,r,hl,q⟩=>⟨I1.kIn,?_⟩) he hpl
 refine run_make (dvs:=[]) (ds:=[]) (E:=E0) M F (hr.mono (Nat.le_add_left 2 k)) hb .nil pass0 I1 r fun x dx n1 n2 ne=> ?_
 refine ⟨x,dx,vs ++ [],rfl,by rw [List.append_nil]; exact hl,upd_same,rfl,?_⟩
 rw [List.append_nil,upd_upd]
 exact q x dx n1 n2 ne
end
section
variable {P:Program} {w:World} {K:Fg} {mg:Str->Option Value} {base:Bs} {C f:Addr} {fd:FuncData} {qual:Str} {st:Stmt}
theorem init_ok1 {a:Str} {p1 p2 p3 p4:Pos} (F:Fun K "__init__" qual st f fd) (hb:defBody st=[.Assign [.Attribute (.Name "self" p1) a p2] (.Name a p3) p4]) (S:FnScope ["self",a] ["self",a] (defScope st))
  (cl:Cls K C) (na:NoAttr K C a) (hd:(a == ("__debug__":Str))=false) (hcd:(a == ("__classdict__":Str))=false):FnOk P w K mg base CX0 1 f fd ["self",a] (spNew C [a]):=by
 refine F.ok S (fun vs H Q E h=> ?_) (fun cdv A outer s H vs Q E hr h=> ?_)
 ·obtain ⟨p,dx,r,rfl,hl,_⟩:=h
  match r,hl with | [_],_=>rfl
 ·obtain ⟨p,dx,r,rfl,hl,hp,q⟩:=h
  match r,hl with
  | [v],_ =>
   have vis: ∀ x ∈ (["self",a]:List Str),Vis (defScope st) x:=fun x hx=>(S.par x hx).elim (fun z=> .inl z) fun z=> .inr (.inl z)
   rw [hb]
   refine ⟨_,pss_one (ps_fld (pe_var (i:=0) rfl (vis "self" (by simp))) (pe_var (i:=1) rfl (vis a (by simp)) hd hcd) rfl),?_⟩
   exact ⟨v,rfl,_,rfl,p,C,dx,[],rfl,hp,cl,na,by show 0 < 1000; decide,q⟩
theorem init_ok2 {a b:Str} {p1 p2 p3 p4 q1 q2 q3 q4:Pos} (F:Fun K "__init__" qual st f fd) (hb:defBody st=[.Assign [.Attribute (.Name "self" p1) a p2] (.Name a p3) p4,.Assign [.Attribute (.Name "self" q1) b q2] (.Name b q3) q4])
  (S:FnScope ["self",a,b] ["self",a,b] (defScope st)) (cl:Cls K C) (na:NoAttr K C a) (nb:NoAttr K C b) (hd:(a == ("__debug__":Str))=false) (hcd:(a == ("__classdict__":Str))=false)
  (hd':(b == ("__debug__":Str))=false) (hcd':(b == ("__classdict__":Str))=false) (ab: ¬ a=b):FnOk P w K mg base CX0 1 f fd ["self",a,b] (spNew C [a,b]):=by
 refine F.ok S (fun vs H Q E h=> ?_) (fun cdv A outer s H vs Q E hr h=> ?_)
 ·obtain ⟨p,dx,r,rfl,hl,_⟩:=h
  match r,hl with | [_,_],_=>rfl
 ·obtain ⟨p,dx,r,rfl,hl,hp,q⟩:=h
  match r,hl with
  | [v,u],_ =>
   have vis: ∀ x ∈ (["self",a,b]:List Str),Vis (defScope st) x:=fun x hx=>(S.par x hx).elim (fun z=> .inl z) fun z=> .inr (.inl z)
   rw [hb]
   refine ⟨_,pss_cons (ps_fld (pe_var (i:=0) rfl (vis "self" (by simp))) (pe_var (i:=1) rfl (vis a (by simp)) hd hcd) rfl) (pss_one (ps_fld (pe_var (i:=0) rfl (vis "self" (by simp))) (pe_var (i:=2) rfl (vis b (by simp)) hd' hcd') rfl)),?_⟩
   refine ⟨v,rfl,_,rfl,p,C,dx,[],rfl,hp,cl,na,(by show 0 < 1000; decide),u,rfl,_,rfl,p,C,dx,_,rfl,upd_same,cl,nb,(by show 1 < 1000; decide),?_⟩
   have e:putF b u (putF a v [])=[(a,v),(b,u)]:=by
    show (if a=b then _ else (a,v) :: putF b u [])=_
    rw [if_neg ab]
    rfl
   rw [upd_upd,e]
   exact q
theorem init_ok3 {a b c:Str} {p1 p2 p3 p4 q1 q2 q3 q4 r1 r2 r3 r4:Pos} (F:Fun K "__init__" qual st f fd) (hb:defBody st=[.Assign [.Attribute (.Name "self" p1) a p2] (.Name a p3) p4,.Assign [.Attribute (.Name "self" q1) b q2] (.Name b q3) q4,.Assign [.Attribute (.Name "self" r1) c r2] (.Name c r3) r4])
  (S:FnScope ["self",a,b,c] ["self",a,b,c] (defScope st)) (cl:Cls K C) (na:NoAttr K C a) (nb:NoAttr K C b) (nc:NoAttr K C c) (hd:(a == ("__debug__":Str))=false) (hcd:(a == ("__classdict__":Str))=false)
  (hd':(b == ("__debug__":Str))=false) (hcd':(b == ("__classdict__":Str))=false) (hd'':(c == ("__debug__":Str))=false) (hcd'':(c == ("__classdict__":Str))=false) (ab: ¬ a=b) (ac: ¬ a=c) (bc: ¬ b=c):FnOk P w K mg base CX0 1 f fd ["self",a,b,c] (spNew C [a,b,c]):=by
 refine F.ok S (fun vs H Q E h=> ?_) (fun cdv A outer s H vs Q E hr h=> ?_)
 ·obtain ⟨p,dx,r,rfl,hl,_⟩:=h
  match r,hl with | [_,_,_],_=>rfl
 ·obtain ⟨p,dx,r,rfl,hl,hp,q⟩:=h
  match r,hl with
  | [v,u,z],_ =>
   have vis: ∀ x ∈ (["self",a,b,c]:List Str),Vis (defScope st) x:=fun x hx=>(S.par x hx).elim (fun z=> .inl z) fun z=> .inr (.inl z)
   have e:putF b u (putF a v [])=[(a,v),(b,u)]:=by
    show (if a=b then _ else (a,v) :: putF b u [])=_
    rw [if_neg ab]
    rfl
   rw [hb]
   refine ⟨_,pss_cons (ps_fld (pe_var (i:=0) rfl (vis "self" (by simp))) (pe_var (i:=1) rfl (vis a (by simp)) hd hcd) rfl) (pss_cons (ps_fld (pe_var (i:=0) rfl (vis "self" (by simp))) (pe_var (i:=2) rfl (vis b (by simp)) hd' hcd') rfl) (pss_one (ps_fld (pe_var (i:=0) rfl (vis "self" (by simp))) (pe_var (i:=3) rfl (vis c (by simp)) hd'' hcd'') rfl))),?_⟩
   refine ⟨v,rfl,_,rfl,p,C,dx,[],rfl,hp,cl,na,(by show 0 < 1000; decide),u,rfl,_,rfl,p,C,dx,_,rfl,upd_same,cl,nb,(by show 1 < 1000; decide),z,rfl,_,rfl,p,C,dx,_,rfl,upd_same,cl,nc,?_,?_⟩
   ·rw [e]; show 2 < 1000; decide
   ·have e':putF c z [(a,v),(b,u)]=[(a,v),(b,u),(c,z)]:=by
     show (if a=c then _ else (a,v) :: (if b=c then _ else (b,u) :: putF c z []))=_
     rw [if_neg ac,if_neg bc]
     rfl
    rw [upd_upd,upd_upd,e,e']
    exact q
end
structure Walks1 (J:It) (H1:Hp) (xs:List V):Prop where
 go: ∀ i x H',xs[i]? =some x->Same H1 H'->J.go i H'
 yld: ∀ i x y H' H2,xs[i]? =some x->Same H1 H'->J.yld i H' y H2->H2=H'/\y=x
 stop: ∀ H',Same H1 H'->J.stop xs.length H'
def rngV (lo:Int) (n:Nat):List V:=(List.range n).map fun (i:Nat)=>V.int (lo + (i:Int))
theorem rngV_at {lo:Int} {n i:Nat} (h:i < n):(rngV lo n)[i]? =some (.int (lo + (i:Int))):=by
 unfold rngV
 rw [List.getElem?_map,List.getElem?_range h]
 rfl
theorem rngV_len {lo:Int} {n:Nat}:(rngV lo n).length=n:=by unfold rngV; simp
structure ClsF (K:Fg) (C:Addr):Prop where
 pg:PySem.W.plainGet K C Str.empty=true
 hd:PySem.W.hasDictIn K C=true
 po:PySem.W.plainOver K C=true
 sa:PySem.W.findIn K (.ref C) "__setattr__"=some (some (.builtin "object.__setattr__"))
 ca:PySem.W.findIn K (.ref C) "__class__"=some (some (.builtin "object.__class__"))
 cs:PySem.W.specialIn K (.builtin "object.__class__") "__get__"=some (some (.builtin "getset_descriptor.__get__"))
 ct:PySem.W.takesIn K (.builtin "object.__class__")=some true
 cm:PySem.W.mroIn K C (.type "object")=some true
 mks:PySem.W.makesIn K C=true
 kp:PySem.W.keepIn K (.ref C)=true
theorem ClsF.cls {K:Fg} {C:Addr} (h:ClsF K C):Cls K C:=⟨h.pg,h.hd,h.po,h.sa⟩
theorem ClsF.ty {K:Fg} {C:Addr} (h:ClsF K C) {H:Hp} {a dx:Addr} {fs:List (Str × V)} (e:H a=some (.ins C dx fs)):TyOf K H (.ref a) (.ref C):= .ins e h.cls h.ca h.cs h.ct h.cm
def FnF (K:Fg) (f:Addr) (x qual:Str) (st:Stmt):Prop:= ∃ fd,Fun K x qual st f fd
theorem fnf_mk {K:Fg} {x qual:Str} {st:Stmt} {f:Addr} {oc:Value} {od an:Option Addr} {osl:Array (Option Value)} {kV doc pm cdv ct:Value} (l:K.lookup f=some ⟨oc,od,.func (PySem.W.fnOf x qual (defArgs st) (defBody st) (defScope st) .none kV doc pm an cdv ct),osl⟩)
  (c:PySem.W.codeIn K cdv qual=true) (k:PySem.W.keepIn K (.ref f)=true):FnF K f x qual st:=⟨_,fun_mk l c k⟩
theorem topT_mk {K:Fg} {a:Addr} {its:Array Value} {n:Nat} {sl:Array (Option Value)} {xs:List V} (l:K.lookup a=some ⟨.type "tuple",none,.seq its n,sl⟩) (hs:its.size<=sizeLine) (hv:Vals xs its.toList):TopT K a xs :=
 ⟨_,its,n,l,rfl,rfl,rfl,hs,hv⟩
theorem fn_none {P:Program} {w:World} {K:Fg} {mg:Str->Option Value} {base:Bs} {CX:CXT} {k:Nat} {f:Addr} {fd:FuncData} {ps:List Str} {sp:Sp} (no: ∀ vs H Q E, ¬ sp vs H Q E):FnOk P w K mg base CX k f fd ps sp :=
 ⟨fun vs H Q E h=>absurd h (no vs H Q E),fun A outer s H args us vs Q E _ _ _ _ h=>absurd h (no vs H Q E)⟩
structure DefF (K:Fg) (mg:Str->Option Value) (x:Str) (st:Stmt) (ps:List Str) (f:Addr) (fd:FuncData):Prop where
 F:Fun K x x st f fd
 b:Binds K fd ps []
 m:mg x=some (.ref f)
theorem DefF.at {P:Program} {w:World} {K:Fg} {mg:Str->Option Value} {base:Bs} {k:Nat} {x:Str} {st:Stmt} {ps:List Str} {f:Addr} {fd:FuncData} {sp:Sp} (h:DefF K mg x st ps f fd) (G:FnOk P w K mg base CX0 k f fd ps sp) :
  FnAt P w K mg base CX0 k x sp:=⟨f,fd,ps,h.m,h.F.kp,G,h.b⟩
section
variable {X:Cx}
theorem pe_globI {x:Str} {i:Int} {tk:Tok} {pos:Pos} (hg:Gl X x) (hm:X.mg x=some (.int i tk)) (hd:(x == ("__debug__":Str))=false:=by decide):PE X (.Name x pos) (tC (.int i)):=pe_glob (v:= .int i) hg hm ⟨_,rfl⟩ hd
end
structure Nst where
 params:Arguments
 body:FuncBody
 scope:Scope
 free:List Str
abbrev fnY (n:Nst) (nm qual:Str) (cl:List (Str × Addr)) (doc pm cdv ct:Value):FuncData :=
 { name:=nm,qualname:=qual,params:=n.params,body:=n.body,scope:=n.scope,globals:=mainGlobals,closure:=cl,defaults:= .none,kwdefaults:= .none,doc:=doc,pyModule:=pm,annotations:=none,code:=cdv,closureTuple:=ct,builtins:=builtinsNs }
def CloAt (n:Nst) (H:Hp) (q:Addr) (cl:List (Str × Addr)):Prop :=
 ∃ (o:Obj) (u:HO) (nm qual:Str) (doc pm:Value) (cc:Addr) (ct:Value) (oc:Obj) (u2:HO),H q=some (.frz o u)/\o.cls= .type "function"/\o.data= .func (fnY n nm qual cl doc pm (.ref cc) ct)/\H cc=some (.frz oc u2)/\CodeO oc
structure CellsAt (H:Hp) (free:List Str) (cl:List (Str × Addr)) (vs:List V):Prop where
 len:free.length=vs.length
 val: ∀ (i:Nat) x v,free[i]? =some x->vs[i]? =some v-> ∃ c ob u w,cl.lookup x=some c/\H c=some (.frz ob u)/\ob.data= .cell (some w)/\RelV v w
 sub: ∀ x c,cl.lookup x=some c->x ∈ free
 inj: ∀ x y c,cl.lookup x=some c->cl.lookup y=some c->x=y
theorem CloAt.keep {n:Nst} {H H':Hp} {q:Addr} {cl:List (Str × Addr)} (h:CloAt n H q cl) (k: ∀ a o u,H a=some (.frz o u)->H' a=some (.frz o u)):CloAt n H' q cl :=
 let ⟨o,u,nm,qual,doc,pm,cc,ct,oc,u2,e1,e2,e3,e4,e5⟩:=h
 ⟨o,u,nm,qual,doc,pm,cc,ct,oc,u2,k _ _ _ e1,e2,e3,k _ _ _ e4,e5⟩
theorem CellsAt.keep {H H':Hp} {fr:List Str} {cl:List (Str × Addr)} {vs:List V} (h:CellsAt H fr cl vs) (k: ∀ a o u,H a=some (.frz o u)->H' a=some (.frz o u)):CellsAt H' fr cl vs :=
 ⟨h.len,fun i x v e1 e2=>let ⟨c,ob,u,w,a1,a2,a3,a4⟩:=h.val i x v e1 e2; ⟨c,ob,u,w,a1,k _ _ _ a2,a3,a4⟩,h.sub,h.inj⟩
theorem CellsAt.some {H:Hp} {fr:List Str} {cl:List (Str × Addr)} {vs:List V} (h:CellsAt H fr cl vs) {x:Str} (hx:x ∈ fr): ∃ c ob u w,cl.lookup x=some c/\H c=some (.frz ob u)/\ob.data= .cell (some w):=by
 obtain ⟨i,hi,e⟩:=List.getElem_of_mem hx
 have hi':i < vs.length:=by rw [<- h.len]; exact hi
 obtain ⟨c,ob,u,w,a1,a2,a3,_⟩:=h.val i x vs[i] (by rw [List.getElem?_eq_getElem hi,e]) (List.getElem?_eq_getElem hi')
 exact ⟨c,ob,u,w,a1,a2,a3⟩
structure NScope (N P F:List Str) (sc:Scope):Prop where
 kind:sc.kind= .function
 co:sc.isCoroutine=false
 gen:sc.isGenerator=false
 nd:N.Nodup
 pre:N.take (P ++ F).length=P ++ F
 par: ∀ x ∈ P,sc.names.lookup x=some .local
 fre: ∀ x ∈ F,sc.names.lookup x=some .free
 nocell: ∀ y ∈ sc.names,y.2 ≠ .cell
 allf: ∀ y ∈ sc.names,y.2= .free->y.1 ∈ F
section
variable {P:Program} {w:World} {A:Around} {s:Shared} {R:Result->Shared->Prop} {a:Addr} {args:Args} {o oc:Obj} {fd:FuncData} {cc:Addr} {fv:Array Value} {q:Str} {tq:Tok}
end
abbrev SpN:=List V->List V->Hp->VK->XK->Prop
structure ClOk (P:Program) (w:World) (K:Fg) (mg:Str->Option Value) (base:Bs) (CX:CXT) (k:Nat) (n:Nst) (sp:SpN):Prop where
 run: ∀ (A:Around) (outer:List Env) (s:Shared) (H:Hp) (q:Addr) (cl:List (Str × Addr)) (us:List Value) (vs cv:List V) (Q:VK) (E:XK),Room k A->Env0 P w K mg base A outer s H->CloAt n H q cl->CellsAt H n.free cl cv->Vals vs us->sp vs cv H Q E ->
  codeAny (model P w) A (.call (.ref q) ⟨us,[]⟩) (CR CX outer P w H s Q E) s
section
variable {CX:CXT} {P:Program} {w:World} {K:Fg} {mg:Str->Option Value} {base:Bs} {k:Nat} {n:Nst} {N ps:List Str} {sp:SpN}
end
section
variable {X:Cx} {CX:CXT} {k:Nat} {E:XK} {x m:Str} {p pos apos:Pos} {e o:Expr} {es:List Expr} {ta:TE} {t:TA} {ι :Type} {nn: ι ->Nst} {sp: ι ->SpN}
theorem CloAt.fn {pins:List (Addr × Obj)} {σ :St} {H:Hp} {s:Shared} {n:Nst} {q:Addr} {cl:List (Str × Addr)} (I:Inv X pins σ H s) (h:CloAt n H q cl):PySem.W.FnAt q s.heap:=by
 obtain ⟨o,u,nm,qual,doc,pm,cc,ct,oc,u2,e1,e2,e3,_⟩:=h
 obtain ⟨g,_⟩:=I.hok q _ e1
 obtain ⟨c,d,dt,sl⟩:=o
 exact ⟨c,d,_,sl,by rw [g]; exact congrArg (fun z=>some (Obj.mk c d z sl)) e3⟩
end
section
variable {X:Cx} {pins:List (Addr × Obj)} {σ :St} {H:Hp} {s:Shared}
structure MkX (X:Cx) (c P:Addr):Prop where
 code:X.env.code= .ref c
 hd:PySem.W.codeHdIn X.K c P=true
 tab:P ∈ X.base.tabs
structure Takes (X:Cx) (n:Nst) (js:List Nat):Prop where
 len:n.free.length=js.length
 at_: ∀ (i:Nat) x j,n.free[i]? =some x->js[i]? =some j->X.N[j]? =some x/\X.env.kindOf x=some .cell/\X.fn x=false/\X.cw x=true/\(x,NameKind.free) ∈ n.scope.names
 all: ∀ y ∈ n.scope.names,y.2= .free->y.1 ∈ n.free
theorem Takes.mem {n:Nst} {js:List Nat} (T:Takes X n js) {x:Str} (hx:x ∈ n.free): ∃ (i j:Nat),n.free[i]? =some x/\js[i]? =some j:=by
 obtain ⟨i,hi,e⟩:=List.getElem_of_mem hx
 have:i < js.length:=by rw [<- T.len]; exact hi
 exact ⟨i,js[i],by rw [List.getElem?_eq_getElem hi,e],List.getElem?_eq_getElem this⟩
end
end L2
end
section
namespace DN
open PySem L2
inductive PV where
 | non | bl (b:Bool) | int (i:Int) | str (x:Str)
 | tup (xs:List PV) | lst (xs:List PV) | obj (k:Nat) (xs:List PV) | dic (ks:List Key) (xs:List PV) | clo (f:Nat) (xs:List PV) | dit (ks:List (List Key)) (xs:List PV)
  | dbo (ks:List Key) (xs:List PV)
  | exn (k:Nat)
inductive Rx (α :Type) where
 | ok (a: α) | bad | exc (c:Nat)
def Rx.bind {α β :Type}:Rx α ->(α ->Rx β)->Rx β
 | .ok a,f=>f a
 | .bad,_=> .bad
 | .exc c,_=> .exc c
theorem bind_ok {α β :Type} {m:Rx α} {f: α ->Rx β} {b: β} (h:m.bind f= .ok b): ∃ a,m= .ok a/\f a= .ok b:=by
 cases m with
 | ok a=>exact ⟨a,rfl,h⟩
 | bad=>cases h
 | exc c=>cases h
@[simp] theorem ok_bind {α β :Type} (a: α) (f: α ->Rx β):(Rx.ok a).bind f=f a:=rfl
@[simp] theorem bad_bind {α β :Type} (f: α ->Rx β):(Rx.bad:Rx α).bind f= .bad:=rfl
@[simp] theorem exc_bind {α β :Type} (c:Nat) (f: α ->Rx β):(Rx.exc c:Rx α).bind f= .exc c:=rfl
structure Pg where
 cA:Nat->Addr
 fN:Nat->List Str
 nF:Nat->Nst
abbrev Av:=Addr->Prop
def RdL (K:Fg) (H:Hp) (A:Av) (a:Addr) (vs:List V):Prop :=
 (H a=some (.lst vs)/\ ¬ A a)\/(∃ o,H a=some (.frz o (.lst vs))) \/
  ∃ (o:Obj) (its:Array Value) (n:Nat),K.lookup a=some o/\o.cls= .type "list"/\o.dict=none/\o.data= .seq its n/\its.size<=sizeLine/\Vals vs its.toList
theorem RdL.sq {K:Fg} {H:Hp} {A:Av} {a:Addr} {vs:List V} (h:RdL K H A a vs):SqL K H a vs:=by
 rcases h with ⟨h,_⟩ | ⟨o,h⟩ | h
 ·exact .inl (.inl h)
 ·exact .inl (.inr ⟨o,h⟩)
 ·exact .inr h
mutual
def Rep (K:Fg) (G:Pg) (H:Hp) (A:Av):PV->V->Prop
 | .non,v=>v= .non
 | .bl b,v=>v= .bl b
 | .int i,v=>v= .int i
 | .str x,v=>v= .str x
 | .tup xs,v=> ∃ a vs,v= .ref a/\H a=some (.tup vs)/\Reps K G H A xs vs
 | .lst xs,v=> ∃ a vs,v= .ref a/\RdL K H A a vs/\Reps K G H A xs vs
 | .obj k xs,v=> ∃ a dx vs,v= .ref a/\H a=some (.ins (G.cA k) dx ((G.fN k).zip vs))/\(G.fN k).length=vs.length/\ ¬ A a/\Reps K G H A xs vs
 | .dic ks xs,v=> ∃ a vs ep,v= .ref a/\H a=some (.dK (ks.zip vs) ep)/\ks.length=vs.length/\ ¬ A a/\Reps K G H A xs vs
 | .dit ks xs,v=> ∃ a vs ep,v= .ref a/\H a=some (.dT (ks.zip vs) ep)/\ks.length=vs.length/\ ¬ A a/\Reps K G H A xs vs
 | .dbo _ _,_=>False
 | .exn k,v=> ∃ a o u,v= .ref a/\H a=some (.frz o u)/\o.cls= .ref (G.cA (1000 + k))
 | .clo f xs,v=> ∃ q cl vs,v= .ref q/\CloAt (G.nF f) H q cl/\CellsAt H (G.nF f).free cl vs/\Reps K G H A xs vs
def Reps (K:Fg) (G:Pg) (H:Hp) (A:Av):List PV->List V->Prop
 | [],vs=>vs=[]
 | x :: xs,vs=> ∃ v r,vs=v :: r/\Rep K G H A x v/\Reps K G H A xs r
end
abbrev Mt (o:HO):Prop:=(∀ xs,o ≠ .tup xs)/\ ∀ o' u,o ≠ .frz o' u
structure Kp (K:Fg) (G:Pg) (H:Hp) (A:Av) (H':Hp) (A':Av):Prop where
 rd: ∀ a o,H a=some o-> ¬ A a->H' a=some o
 tp: ∀ a vs,H a=some (.tup vs)->H' a=some (.tup vs)
 fz: ∀ a o u,H a=some (.frz o u)->H' a=some (.frz o u)
 av: ∀ a,H a ≠ none->A' a->A a
section
variable {K:Fg} {G:Pg} {H H' H2:Hp} {A A' A2:Av}
theorem Kp.rdL (k:Kp K G H A H' A') {a:Addr} {vs:List V} (h:RdL K H A a vs):RdL K H' A' a vs:=by
 rcases h with ⟨h,n⟩ | ⟨o,h⟩ | h
 ·exact .inl ⟨k.rd _ _ h n,fun z=>n (k.av _ (by rw [h]; simp) z)⟩
 ·exact .inr (.inl ⟨o,k.fz _ _ _ h⟩)
 ·exact .inr (.inr h)
mutual
theorem Kp.rep (k:Kp K G H A H' A'): ∀ {w:PV} {v:V},Rep K G H A w v->Rep K G H' A' w v
 | .non,_,h=>h
 | .bl _,_,h=>h
 | .int _,_,h=>h
 | .str _,_,h=>h
 | .tup xs,v,h=>by
  obtain ⟨a,vs,e,s,r⟩:=h
  exact ⟨a,vs,e,k.tp _ _ s,Kp.reps k r⟩
 | .lst xs,v,h=>by
  obtain ⟨a,vs,e,s,r⟩:=h
  exact ⟨a,vs,e,k.rdL s,Kp.reps k r⟩
 | .obj c xs,v,h=>by
  obtain ⟨a,dx,vs,e,s,l,n,r⟩:=h
  exact ⟨a,dx,vs,e,k.rd _ _ s n,l,fun z=>n (k.av _ (by rw [s]; simp) z),Kp.reps k r⟩
 | .dic ks xs,v,h=>by
  obtain ⟨a,vs,ep,e,s,l,n,r⟩:=h
  exact ⟨a,vs,ep,e,k.rd _ _ s n,l,fun z=>n (k.av _ (by rw [s]; simp) z),Kp.reps k r⟩
 | .dit ks xs,v,h=>by
  obtain ⟨a,vs,ep,e,s,l,n,r⟩:=h
  exact ⟨a,vs,ep,e,k.rd _ _ s n,l,fun z=>n (k.av _ (by rw [s]; simp) z),Kp.reps k r⟩
 | .dbo _ _,v,h=>h.elim
 | .exn _,v,h=>by
  obtain ⟨a,o,u,e,s,c⟩:=h
  exact ⟨a,o,u,e,k.fz _ _ _ s,c⟩
 | .clo f xs,v,h=>by
  obtain ⟨q,cl,vs,e,hc,hce,r⟩:=h
  exact ⟨q,cl,vs,e,hc.keep k.fz,hce.keep k.fz,Kp.reps k r⟩
theorem Kp.reps (k:Kp K G H A H' A'): ∀ {ws:List PV} {vs:List V},Reps K G H A ws vs->Reps K G H' A' ws vs
 | [],vs,h=>h
 | w :: ws,vs,h=>by
  obtain ⟨v,r,e,h1,h2⟩:=h
  exact ⟨v,r,e,Kp.rep k h1,Kp.reps k h2⟩
end
theorem Kp.of_same (s:Same H H'):Kp K G H A H' A:=⟨fun a o h _=>s _ _ h,fun a vs h=>s _ _ h,fun a o u h=>s _ _ h,fun a _ h=>h⟩
theorem Kp.weak (h: ∀ a,A' a->A a):Kp K G H A H A':=⟨fun a o h _=>h,fun a vs h=>h,fun a o u h=>h,fun a _ z=>h a z⟩
theorem Kp.trans (k:Kp K G H A H' A') (k2:Kp K G H' A' H2 A2):Kp K G H A H2 A2 :=
 ⟨fun a o h n=>k2.rd _ _ (k.rd _ _ h n) fun z=>n (k.av _ (by rw [h]; simp) z),fun a vs h=>k2.tp _ _ (k.tp _ _ h),fun a o u h=>k2.fz _ _ _ (k.fz _ _ _ h),
  fun a n z=>by
   by_cases q:A a
   ·exact q
   ·cases e:H a with
    | none=>exact absurd e n
    | some o=>exact k.av a n (k2.av a (by rw [k.rd _ _ e q]; simp) z)⟩
theorem Kp.own {p:Addr} {o u:HO} (hA:A p) (hp:H p=some o) (m:Mt o):Kp K G H A (upd H p u) A :=
 ⟨fun a x h n=>by
   rw [upd_ne (by intro z; subst z; exact n hA)]; exact h,
  fun a vs h=>by
   rw [upd_ne (by intro z; subst z; rw [hp] at h; exact m.1 _ (Option.some.inj h))]; exact h,
  fun a o' u' h=>by
   rw [upd_ne (by intro z; subst z; rw [hp] at h; exact m.2 _ _ (Option.some.inj h))]; exact h,
  fun a _ h=>h⟩
theorem Kp.take {p:Addr} (hp:H p=none) (hs:Same H H') (h: ∀ a,A' a->a=p\/A a):Kp K G H A H' A' :=
 ⟨fun a o h _=>hs _ _ h,fun a vs h=>hs _ _ h,fun a o u h=>hs _ _ h,fun a n z=>by
  rcases h a z with e | e
  ·subst e; exact absurd hp n
  ·exact e⟩
theorem Rep.same {w:PV} {v:V} (h:Rep K G H A w v) (s:Same H H'):Rep K G H' A w v:=(Kp.of_same s).rep h
theorem Reps.same {ws:List PV} {vs:List V} (h:Reps K G H A ws vs) (s:Same H H'):Reps K G H' A ws vs:=(Kp.of_same s).reps h
theorem Reps.len: ∀ {ws:List PV} {vs:List V},Reps K G H A ws vs->ws.length=vs.length
 | [],vs,h=>by have h:vs=[]:=h; rw [h]; rfl
 | w :: ws,vs,h=>by
  obtain ⟨v,r,e,_,h2⟩:=h
  subst e
  rw [List.length_cons,List.length_cons,Reps.len h2]
theorem Reps.get: ∀ {ws:List PV} {vs:List V} {i:Nat} {w:PV},Reps K G H A ws vs->ws[i]? =some w-> ∃ v,vs[i]? =some v/\Rep K G H A w v
 | [],vs,i,w,h,e=>by simp at e
 | x :: ws,vs,0,w,h,e=>by
  obtain ⟨v,r,e',h1,h2⟩:=h
  subst e'
  simp at e; subst e
  exact ⟨v,by simp,h1⟩
 | x :: ws,vs,i + 1,w,h,e=>by
  obtain ⟨v,r,e',h1,h2⟩:=h
  subst e'
  obtain ⟨u,q1,q2⟩:=Reps.get (i:=i) h2 (by simpa using e)
  exact ⟨u,by simpa using q1,q2⟩
theorem Reps.app: ∀ {ws ws':List PV} {vs vs':List V},Reps K G H A ws vs->Reps K G H A ws' vs'->Reps K G H A (ws ++ ws') (vs ++ vs')
 | [],ws',vs,vs',h,h'=>by have h:vs=[]:=h; subst h; exact h'
 | w :: ws,ws',vs,vs',h,h'=>by
  obtain ⟨v,r,e,h1,h2⟩:=h
  subst e
  exact ⟨v,r ++ vs',rfl,h1,Reps.app h2 h'⟩
theorem Reps.one {w:PV} {v:V} (h:Rep K G H A w v):Reps K G H A [w] [v]:=⟨v,[],rfl,h,rfl⟩
theorem Reps.snoc {ws:List PV} {vs:List V} {w:PV} {v:V} (h:Reps K G H A ws vs) (h':Rep K G H A w v):Reps K G H A (ws ++ [w]) (vs ++ [v]):=h.app (.one h')
theorem Reps.take: ∀ {ws:List PV} {vs:List V} (n:Nat),Reps K G H A ws vs->Reps K G H A (ws.take n) (vs.take n)
 | ws,vs,0,h=>by simp [Reps]
 | [],vs,n + 1,h=>by have h:vs=[]:=h; subst h; rfl
 | w :: ws,vs,n + 1,h=>by
  obtain ⟨v,r,e,h1,h2⟩:=h
  subst e
  exact ⟨v,r.take n,rfl,h1,Reps.take n h2⟩
theorem Reps.drop: ∀ {ws:List PV} {vs:List V} (n:Nat),Reps K G H A ws vs->Reps K G H A (ws.drop n) (vs.drop n)
 | ws,vs,0,h=>by simpa using h
 | [],vs,n + 1,h=>by have h:vs=[]:=h; subst h; rfl
 | w :: ws,vs,n + 1,h=>by
  obtain ⟨v,r,e,h1,h2⟩:=h
  subst e
  exact Reps.drop n h2
theorem Reps.set: ∀ {ws:List PV} {vs:List V} {w:PV} {v:V} (i:Nat),Reps K G H A ws vs->Rep K G H A w v->Reps K G H A (ws.set i w) (vs.set i v)
 | [],vs,w,v,i,h,h'=>by have h:vs=[]:=h; subst h; rfl
 | x :: ws,vs,w,v,0,h,h'=>by
  obtain ⟨u,r,e,h1,h2⟩:=h
  subst e
  exact ⟨v,r,rfl,h',h2⟩
 | x :: ws,vs,w,v,i + 1,h,h'=>by
  obtain ⟨u,r,e,h1,h2⟩:=h
  subst e
  exact ⟨u,r.set i v,rfl,h1,Reps.set i h2 h'⟩
theorem Reps.ints: ∀ (ns:List Int),Reps K G H A (ns.map PV.int) (ns.map V.int)
 | []=>rfl
 | n :: ns=>⟨_,_,rfl,rfl,Reps.ints ns⟩
end
inductive Ow where
 | lst (xs:List PV) | dic (ks:List Key) (xs:List PV) | obj (k:Nat) (xs:List PV) | dit (ks:List (List Key)) (xs:List PV)
inductive Sl where
 | no | v (w:PV) | own (o:Ow) | bor (w:PV) | ino (o:Ow) | ini (k:Nat) (xs:List PV)
  | dol (ks:List Key) (xss:List (List PV)) | als (d j:Nat)
abbrev PSt:=List Sl
def Ow.pv:Ow->PV
 | .lst xs=> .lst xs
 | .dic ks xs=> .dic ks xs
 | .obj k xs=> .obj k xs
 | .dit ks xs=> .dit ks xs
def RepO (K:Fg) (G:Pg) (H:Hp) (A:Av):Ow->Addr->Prop
 | .lst xs,p=> ∃ vs,H p=some (.lst vs)/\Reps K G H A xs vs
 | .dic ks xs,p=> ∃ vs ep,H p=some (.dK (ks.zip vs) ep)/\ks.length=vs.length/\Reps K G H A xs vs
 | .dit ks xs,p=> ∃ vs ep,H p=some (.dT (ks.zip vs) ep)/\ks.length=vs.length/\Reps K G H A xs vs
 | .obj k xs,p=> ∃ dx vs,H p=some (.ins (G.cA k) dx ((G.fN k).zip vs))/\(G.fN k).length=vs.length/\Reps K G H A xs vs
def RepI (K:Fg) (G:Pg) (H:Hp) (A:Av) (k:Nat) (xs:List PV) (p:Addr):Prop:= ∃ dx vs,H p=some (.ins (G.cA k) dx (((G.fN k).take xs.length).zip vs))/\xs.length<=(G.fN k).length/\Reps K G H A xs vs
structure Fr where
 H0:Hp
 A0:Av
 B0:Av
 lx:Option Addr
def SmL (c:Fr) (H:Hp):Prop:= ∀ a o,c.H0 a=some o->c.lx ≠ some a->H a=some o
theorem SmL.trans {c:Fr} {H H':Hp} (h:SmL c H) (s:Same H H'):SmL c H':=fun a o e n=>s _ _ (h a o e n)
theorem SmL.free {c:Fr} {H:Hp} {p:Addr} (h:SmL c H) (hp:H p=none) (n:c.lx ≠ some p):c.H0 p=none:=by
 cases e:c.H0 p with
 | none=>rfl
 | some o=>rw [h p o e n] at hp; cases hp
theorem SmL.same {c:Fr} {H:Hp} (h:SmL c H) (n:c.lx=none):Same c.H0 H:=fun a o e=>h a o e (by rw [n]; simp)
theorem SmL.of {c:Fr} {H:Hp} (s:Same c.H0 H):SmL c H:=fun a o e _=>s a o e
abbrev Ows:=Nat->Option Addr
def av (c:Fr) (ow:Ows):Av:=fun a=>c.A0 a\/ ∃ i,ow i=some a
def RepD (K:Fg) (G:Pg) (H:Hp) (A B:Av) (w:PV) (v:V):Prop:= ∃ (ks:List Key) (xss:List (List PV)) (p:Addr) (qs:List Addr) (ep:Nat),w= .dbo ks (xss.map PV.lst)/\v= .ref p/\H p=some (.dK (ks.zip (qs.map V.ref)) ep)/\B p/\ks.length=qs.length/\xss.length=qs.length/\ ∀ (j:Nat) q xs,qs[j]? =some q->xss[j]? =some xs->RepO K G H A (.lst xs) q/\B q
def RepB (K:Fg) (G:Pg) (H:Hp) (A:Av) (w:PV) (v:V):Prop:=Rep K G H A w v\/(∃ x p,w=x.pv/\v= .ref p/\RepO K G H A x p)\/RepD K G H A (fun _=>True) w v
def vx (n d j:Nat):Nat:=n + (1000 * d + j)
def SlAt (K:Fg) (G:Pg) (c:Fr) (n:Nat) (H:Hp) (A:Av) (ow:Ows) (i:Nat):Sl->Option V->Prop
 | .no,_=>ow i=none
 | .v w,o=>ow i=none/\ ∃ v,o=some v/\Rep K G H A w v
 | .own x,o=> ∃ p,ow i=some p/\o=some (.ref p)/\RepO K G H A x p
 | .bor w,o=>ow i=none/\ ∃ v,o=some v/\(Rep K G H A w v\/(∃ x p,w=x.pv/\v= .ref p/\RepO K G H A x p/\c.B0 p)\/RepD K G H A c.B0 w v)
 | .ino x,o=>ow i=none/\i=0/\ ∃ p,o=some (.ref p)/\c.lx=some p/\RepO K G H A x p
 | .ini k xs,o=>ow i=none/\i=0/\ ∃ p,o=some (.ref p)/\c.lx=some p/\RepI K G H A k xs p
 | .dol ks xss,o=> ∃ (p:Addr) (qs:List Addr),ow i=some p/\o=some (.ref p)/\(∃ ep,H p=some (.dK (ks.zip (qs.map V.ref)) ep))/\ks.length=qs.length/\xss.length=qs.length/\qs.length<=1000/\ ∀ j q xs,qs[j]? =some q->xss[j]? =some xs->ow (vx n i j)=some q/\RepO K G H A (.lst xs) q
 | .als d j,o=>ow i=none/\ ∃ q,o=some (.ref q)/\ow (vx n d j)=some q
structure RepS (K:Fg) (G:Pg) (c:Fr) (H:Hp) (ow:Ows) (ps:PSt) (σ :St):Prop where
 len:ps.length= σ.length
 same:SmL c H
 lent: ∀ p,c.lx=some p->c.A0 p/\H p ≠ none
 a0: ∀ a,c.A0 a->c.H0 a ≠ none
 b0: ∀ a,c.B0 a->c.H0 a ≠ none/\c.lx ≠ some a
 fresh: ∀ i p,ow i=some p->c.H0 p=none
 inj: ∀ i j p,ow i=some p->ow j=some p->i=j
 out: ∀ i p,ow i=some p->i < ps.length\/H p ≠ none
 slot: ∀ i s o,ps[i]? =some s-> σ[i]? =some o->SlAt K G c ps.length H (av c ow) ow i s o
section
variable {K:Fg} {G:Pg} {H H':Hp} {A A':Av} {c:Fr} {ow:Ows} {ps:PSt} {σ :St}
theorem RepO.at {x:Ow} {p:Addr} (h:RepO K G H A x p): ∃ o,H p=some o/\Mt o:=by
 cases x with
 | lst xs=>obtain ⟨vs,e,_⟩:=h; exact ⟨_,e,And.intro (fun _ z=>by cases z) (fun _ _ z=>by cases z)⟩
 | dic ks xs=>obtain ⟨vs,ep,e,_⟩:=h; exact ⟨_,e,And.intro (fun _ z=>by cases z) (fun _ _ z=>by cases z)⟩
 | dit ks xs=>obtain ⟨vs,ep,e,_⟩:=h; exact ⟨_,e,And.intro (fun _ z=>by cases z) (fun _ _ z=>by cases z)⟩
 | obj k xs=>obtain ⟨dx,vs,e,_⟩:=h; exact ⟨_,e,And.intro (fun _ z=>by cases z) (fun _ _ z=>by cases z)⟩
theorem RepI.at {k:Nat} {xs:List PV} {p:Addr} (h:RepI K G H A k xs p): ∃ o,H p=some o/\Mt o:=by
 obtain ⟨dx,vs,e,_⟩:=h; exact ⟨_,e,And.intro (fun _ z=>by cases z) (fun _ _ z=>by cases z)⟩
theorem RepI.keep {k:Nat} {xs:List PV} {p:Addr} (h:RepI K G H A k xs p) (kp:Kp K G H A H' A') (e:H' p=H p):RepI K G H' A' k xs p:=by
 obtain ⟨dx,vs,q,l,r⟩:=h; exact ⟨dx,vs,by rw [e]; exact q,l,kp.reps r⟩
theorem RepO.keep {x:Ow} {p:Addr} (h:RepO K G H A x p) (k:Kp K G H A H' A') (e:H' p=H p):RepO K G H' A' x p:=by
 cases x with
 | lst xs=>obtain ⟨vs,q,r⟩:=h; exact ⟨vs,by rw [e]; exact q,k.reps r⟩
 | dic ks xs=>obtain ⟨vs,ep,q,l,r⟩:=h; exact ⟨vs,ep,by rw [e]; exact q,l,k.reps r⟩
 | dit ks xs=>obtain ⟨vs,ep,q,l,r⟩:=h; exact ⟨vs,ep,by rw [e]; exact q,l,k.reps r⟩
 | obj c xs=>obtain ⟨dx,vs,q,l,r⟩:=h; exact ⟨dx,vs,by rw [e]; exact q,l,k.reps r⟩
theorem RepO.freeze {x:Ow} {p:Addr} (h:RepO K G H A x p) (n: ¬ A p):Rep K G H A x.pv (.ref p):=by
 cases x with
 | lst xs=>obtain ⟨vs,q,r⟩:=h; exact ⟨p,vs,rfl,.inl ⟨q,n⟩,r⟩
 | dic ks xs=>obtain ⟨vs,ep,q,l,r⟩:=h; exact ⟨p,vs,ep,rfl,q,l,n,r⟩
 | dit ks xs=>obtain ⟨vs,ep,q,l,r⟩:=h; exact ⟨p,vs,ep,rfl,q,l,n,r⟩
 | obj c xs=>obtain ⟨dx,vs,q,l,r⟩:=h; exact ⟨p,dx,vs,rfl,q,l,n,r⟩
theorem RepS.get (R:RepS K G c H ow ps σ) {i:Nat} {s:Sl} (e:ps[i]? =some s): ∃ o, σ[i]? =some o/\SlAt K G c ps.length H (av c ow) ow i s o:=by
 have hi:i < ps.length:=(List.getElem?_eq_some_iff.mp e).1
 have hi':i < σ.length:=by rw [<- R.len]; exact hi
 exact ⟨σ[i],List.getElem?_eq_getElem hi',R.slot i s _ e (List.getElem?_eq_getElem hi')⟩
theorem RepS.getV (R:RepS K G c H ow ps σ) {i:Nat} {w:PV} (e:ps[i]? =some (.v w)): ∃ v, σ[i]? =some (some v)/\Rep K G H (av c ow) w v:=by
 obtain ⟨o,eo,_,v,rfl,r⟩:=R.get e
 exact ⟨v,eo,r⟩
theorem RepS.getO (R:RepS K G c H ow ps σ) {i:Nat} {x:Ow} (e:ps[i]? =some (.own x)): ∃ p,ow i=some p/\ σ[i]? =some (some (.ref p))/\RepO K G H (av c ow) x p:=by
 obtain ⟨o,eo,p,e1,rfl,r⟩:=R.get e
 exact ⟨p,e1,eo,r⟩
theorem RepS.used (R:RepS K G c H ow ps σ): ∀ a,av c ow a->H a ≠ none:=by
 intro a h
 rcases h with h | ⟨i,h⟩
 ·by_cases hl:c.lx=some a
  ·exact (R.lent a hl).2
  ·cases e:c.H0 a with
   | none=>exact absurd e (R.a0 a h)
   | some o=>rw [R.same _ _ e hl]; simp
 ·rcases R.out i a h with hi | hv
  case inr=>exact hv
  obtain ⟨o,eo,q⟩:=R.get (List.getElem?_eq_getElem hi)
  cases e:ps[i] with
  | no=>rw [e] at q; rw [show ow i=none from q] at h; cases h
  | v w=>rw [e] at q; rw [q.1] at h; cases h
  | bor w=>rw [e] at q; rw [q.1] at h; cases h
  | ino x=>rw [e] at q; rw [q.1] at h; cases h
  | ini k xs=>rw [e] at q; rw [q.1] at h; cases h
  | als d j=>rw [e] at q; rw [q.1] at h; cases h
  | dol ks xss =>
   rw [e] at q
   obtain ⟨p,qs,e1,_,⟨_,hp⟩,_⟩:=q
   rw [e1] at h; cases h
   rw [hp]; simp
  | own x =>
   rw [e] at q
   obtain ⟨p,e1,_,r⟩:=q
   rw [e1] at h; cases h
   obtain ⟨o',e',_⟩:=r.at
   rw [e']; simp
theorem RepD.keep {B:Av} {w:PV} {v:V} (h:RepD K G H A B w v) (k:Kp K G H A H' A') (e: ∀ p,B p->H p ≠ none->H' p=H p):RepD K G H' A' B w v:=by
 obtain ⟨ks,xss,p,qs,ep,e1,e2,e3,b,l1,l2,h⟩:=h
 refine ⟨ks,xss,p,qs,ep,e1,e2,by rw [e p b (by rw [e3]; simp)]; exact e3,b,l1,l2,fun j q xs h1 h2=> ?_⟩
 obtain ⟨r,b⟩:=h j q xs h1 h2
 obtain ⟨o,eo,_⟩:=r.at
 exact ⟨r.keep k (e q b (by rw [eo]; simp)),b⟩
theorem RepD.mono {B B':Av} {w:PV} {v:V} (h:RepD K G H A B w v) (f: ∀ a,B a->H a ≠ none->B' a):RepD K G H A B' w v:=by
 obtain ⟨ks,xss,p,qs,ep,e1,e2,e3,b,l1,l2,h⟩:=h
 refine ⟨ks,xss,p,qs,ep,e1,e2,e3,f p b (by rw [e3]; simp),l1,l2,fun j q xs h1 h2=> ?_⟩
 obtain ⟨r,b⟩:=h j q xs h1 h2
 obtain ⟨o,eo,_⟩:=r.at
 exact ⟨r,f q b (by rw [eo]; simp)⟩
theorem bor_keep {w:PV} {v:V} {A A':Av} (b0: ∀ a,c.B0 a->c.H0 a ≠ none/\c.lx ≠ some a) (s:SmL c H) (s':SmL c H') (k:Kp K G H A H' A') (h:Rep K G H A w v\/(∃ x p,w=x.pv/\v= .ref p/\RepO K G H A x p/\c.B0 p)\/RepD K G H A c.B0 w v) :
  Rep K G H' A' w v\/(∃ x p,w=x.pv/\v= .ref p/\RepO K G H' A' x p/\c.B0 p)\/RepD K G H' A' c.B0 w v:=by
 have st: ∀ p,c.B0 p->H' p=H p:=fun p n=>by
  cases q:c.H0 p with
  | none=>exact absurd q (b0 p n).1
  | some o=>rw [s _ _ q (b0 p n).2,s' _ _ q (b0 p n).2]
 rcases h with h | ⟨x,p,e1,e2,r,n⟩ | h
 ·exact .inl (k.rep h)
 ·exact .inr (.inl ⟨x,p,e1,e2,r.keep k (st p n),n⟩)
 ·exact .inr (.inr (h.keep k fun p b _=>st p b))
theorem SlAt.keep {n i:Nat} {x:Sl} {o:Option V} {ow':Ows} {A A':Av} (q:SlAt K G c n H A ow i x o) (b0: ∀ a,c.B0 a->c.H0 a ≠ none/\c.lx ≠ some a) (s:SmL c H) (s':SmL c H') (k:Kp K G H A H' A') (hr:ow' i=ow i) (hv: ∀ d j q,ow (vx n d j)=some q->ow' (vx n d j)=some q)
  (ho: ∀ p,ow i=some p->H' p=H p) (hw: ∀ j p,j < 1000->ow (vx n i j)=some p->H' p=H p) (el: ∀ p,c.lx=some p->H' p=H p):SlAt K G c n H' A' ow' i x o:=by
 cases x with
 | no=>show ow' i=none; rw [hr]; exact q
 | v w=>obtain ⟨z,v,e3,r⟩:=q; exact ⟨by rw [hr]; exact z,v,e3,k.rep r⟩
 | own y=>obtain ⟨p,e3,e4,r⟩:=q; exact ⟨p,by rw [hr]; exact e3,e4,r.keep k (ho p e3)⟩
 | bor w=>obtain ⟨z,v,e3,r⟩:=q; exact ⟨by rw [hr]; exact z,v,e3,bor_keep b0 s s' k r⟩
 | ino y=>obtain ⟨z,z2,p,e3,e4,r⟩:=q; exact ⟨by rw [hr]; exact z,z2,p,e3,e4,r.keep k (el p e4)⟩
 | ini c xs=>obtain ⟨z,z2,p,e3,e4,r⟩:=q; exact ⟨by rw [hr]; exact z,z2,p,e3,e4,r.keep k (el p e4)⟩
 | dol ks xss =>
  obtain ⟨p,qs,e1,e2,hp,l1,l2,l3,h⟩:=q
  refine ⟨p,qs,by rw [hr]; exact e1,e2,by rw [ho p e1]; exact hp,l1,l2,l3,fun j q xs h1 h2=> ?_⟩
  obtain ⟨h3,h4⟩:=h j q xs h1 h2
  exact ⟨hv i j q h3,h4.keep k (hw j q (Nat.lt_of_lt_of_le (List.getElem?_eq_some_iff.mp h1).1 l3) h3)⟩
 | als d j=>obtain ⟨z,q',e3,e4⟩:=q; exact ⟨by rw [hr]; exact z,q',e3,hv d j q' e4⟩
theorem RepS.keep (R:RepS K G c H ow ps σ) (s:SmL c H') (k:Kp K G H (av c ow) H' (av c ow)) (e: ∀ i p,ow i=some p->H' p=H p) (el: ∀ p,c.lx=some p->H' p=H p):RepS K G c H' ow ps σ :=by
 refine ⟨R.len,s,fun p h=>⟨(R.lent p h).1,by rw [el p h]; exact (R.lent p h).2⟩,R.a0,R.b0,R.fresh,R.inj,fun i p h=> ?_,fun i x o e1 e2=> ?_⟩
 ·rcases R.out i p h with q | q
  ·exact .inl q
  ·right; rw [e i p h]; exact q
 ·exact (R.slot i x o e1 e2).keep R.b0 R.same s k rfl (fun _ _ _ h=>h) (fun p h=>e i p h) (fun j p _ h=>e _ p h) el
theorem RepS.grow (R:RepS K G c H ow ps σ) (s:Same H H'):RepS K G c H' ow ps σ :=
 R.keep (R.same.trans s) (Kp.of_same s) (fun i p e=>by
  cases q:H p with
  | none=>exact absurd q (R.used p (.inr ⟨i,e⟩))
  | some o=>exact s _ _ q) fun p e=>by
  cases q:H p with
  | none=>exact absurd q (R.lent p e).2
  | some o=>exact s _ _ q
def offW (n:Nat) (ow:Ows) (i:Nat):Ows:=fun j=>if j=i/\i < n then none else ow j
def onW (ow:Ows) (i:Nat) (p:Addr):Ows:=fun j=>if j=i then some p else ow j
theorem av_off {n i:Nat}: ∀ a,av c (offW n ow i) a->av c ow a:=by
 intro a h
 rcases h with h | ⟨j,h⟩
 ·exact .inl h
 ·unfold offW at h
  split at h
  ·cases h
  ·exact .inr ⟨j,h⟩
theorem off_vx {n i:Nat}: ∀ d j q,ow (vx n d j)=some q->offW n ow i (vx n d j)=some q:=by
 intro d j q h
 unfold offW
 rw [if_neg (by rintro ⟨z,hi⟩; unfold vx at z; omega)]
 exact h
theorem RepS.setV (R:RepS K G c H ow ps σ) {i:Nat} {w:PV} {v:V} (r:Rep K G H (av c ow) w v):RepS K G c H (offW ps.length ow i) (ps.set i (.v w)) (σ.set i (some v)):=by
 have k:Kp K G H (av c ow) H (av c (offW ps.length ow i)):=Kp.weak av_off
 refine ⟨by simp [R.len],R.same,R.lent,R.a0,R.b0,fun j p e=> ?_,fun j j' p e e'=> ?_,fun j p h=> ?_,fun j x o e1 e2=> ?_⟩
 ·unfold offW at e; split at e
  ·cases e
  ·exact R.fresh j p e
 ·unfold offW at e e'
  split at e
  ·cases e
  ·split at e'
   ·cases e'
   ·exact R.inj j j' p e e'
 ·unfold offW at h; split at h
  ·cases h
  ·rw [List.length_set]; exact R.out j p h
 ·rw [List.length_set]
  by_cases hj:j=i
  ·subst hj
   have hl:j < ps.length:=by
    have:=(List.getElem?_eq_some_iff.mp e1).1
    simpa using this
   rw [List.getElem?_set_self hl] at e1
   rw [List.getElem?_set_self (by rw [<- R.len]; exact hl)] at e2
   cases e1; cases e2
   exact ⟨by unfold offW; rw [if_pos ⟨rfl,hl⟩],v,rfl,k.rep r⟩
  ·rw [List.getElem?_set_ne (fun z=>hj z.symm)] at e1 e2
   have eo:offW ps.length ow i j=ow j:=by unfold offW; rw [if_neg (fun z=>hj z.1)]
   exact (R.slot j x o e1 e2).keep R.b0 R.same R.same k eo off_vx (fun _ _=>rfl) (fun _ _ _ _=>rfl) (fun _ _=>rfl)
theorem on_vx {n i:Nat} {p:Addr} (hi:i < n): ∀ d j q,ow (vx n d j)=some q->onW ow i p (vx n d j)=some q:=by
 intro d j q h
 unfold onW
 rw [if_neg (by intro z; unfold vx at z; omega)]
 exact h
theorem RepS.setN (R:RepS K G c H ow ps σ) {i:Nat} {x:Sl} {p:Addr} (hi:i < ps.length) (hs:Same H H') (hp:H p=none) (hp':H' p ≠ none) (r:SlAt K G c ps.length H' (av c (onW ow i p)) (onW ow i p) i x (some (.ref p))) :
  RepS K G c H' (onW ow i p) (ps.set i x) (σ.set i (some (.ref p))):=by
 have hav: ∀ a,av c (onW ow i p) a->av c ow a\/a=p:=by
  intro a h
  rcases h with h | ⟨j,h⟩
  ·exact .inl (.inl h)
  ·unfold onW at h
   split at h
   ·cases h; exact .inr rfl
   ·exact .inl (.inr ⟨j,h⟩)
 have k:Kp K G H (av c ow) H' (av c (onW ow i p)):=Kp.take hp hs fun a h=>(hav a h).symm
 have nl:c.lx ≠ some p:=fun z=>(R.lent p z).2 hp
 have us: ∀ j q,ow j=some q->H' q=H q:=fun j q e=>by
  cases h:H q with
  | none=>exact absurd h (R.used q (.inr ⟨j,e⟩))
  | some o=>exact hs _ _ h
 refine ⟨by simp [R.len],R.same.trans hs,fun q h=>⟨(R.lent q h).1,fun z=>(R.lent q h).2 (hs.free z)⟩,R.a0,R.b0,fun j q e=> ?_,fun j j' q e e'=> ?_,fun j q h=> ?_,fun j y o e1 e2=> ?_⟩
 ·unfold onW at e; split at e
  ·cases e; exact R.same.free hp nl
  ·exact R.fresh j q e
 ·unfold onW at e e'
  split at e
  ·cases e
   split at e'
   ·rename_i h1 h2; rw [h1,h2]
   ·exact absurd hp (R.used _ (.inr ⟨j',e'⟩))
  ·split at e'
   ·cases e'
    exact absurd hp (R.used _ (.inr ⟨j,e⟩))
   ·exact R.inj j j' q e e'
 ·unfold onW at h; split at h
  ·rename_i z; cases h; left; rw [List.length_set,z]; exact hi
  ·rw [List.length_set]
   rcases R.out j q h with z | z
   ·exact .inl z
   ·right; rw [us j q h]; exact z
 ·rw [List.length_set]
  by_cases hj:j=i
  ·subst hj
   rw [List.getElem?_set_self hi] at e1
   rw [List.getElem?_set_self (by rw [<- R.len]; exact hi)] at e2
   cases e1; cases e2
   exact r
  ·rw [List.getElem?_set_ne (fun z=>hj z.symm)] at e1 e2
   have eo:onW ow i p j=ow j:=by unfold onW; rw [if_neg hj]
   refine (R.slot j y o e1 e2).keep R.b0 R.same (R.same.trans hs) k eo (on_vx hi) (fun q h=>us j q h) (fun _ q _ h=>us _ q h) (fun q h=> ?_)
   cases z:H q with
   | none=>exact absurd z (R.lent q h).2
   | some o=>exact hs _ _ z
theorem RepS.setO (R:RepS K G c H ow ps σ) {i:Nat} {x:Ow} {p:Addr} (hi:i < ps.length) (hs:Same H H') (hp:H p=none) (r:RepO K G H' (fun a=>av c ow a\/a=p) x p) :
  RepS K G c H' (onW ow i p) (ps.set i (.own x)) (σ.set i (some (.ref p))):=by
 have hav: ∀ a,av c (onW ow i p) a->av c ow a\/a=p:=by
  intro a h
  rcases h with h | ⟨j,h⟩
  ·exact .inl (.inl h)
  ·unfold onW at h
   split at h
   ·cases h; exact .inr rfl
   ·exact .inl (.inr ⟨j,h⟩)
 have k2:Kp K G H' (fun a=>av c ow a\/a=p) H' (av c (onW ow i p)):=Kp.weak hav
 obtain ⟨o,ho,_⟩:=r.at
 exact R.setN hi hs hp (by rw [ho]; simp) ⟨p,by unfold onW; rw [if_pos rfl],rfl,r.keep k2 rfl⟩
theorem RepS.frz (R:RepS K G c H ow ps σ) {i:Nat} {x:Ow} (e:ps[i]? =some (.own x)): ∃ p, σ[i]? =some (some (.ref p))/\RepS K G c H (offW ps.length ow i) (ps.set i (.v x.pv)) σ /\Rep K G H (av c (offW ps.length ow i)) x.pv (.ref p)/\Kp K G H (av c ow) H (av c (offW ps.length ow i)):=by
 obtain ⟨p,e1,e2,r1⟩:=R.getO e
 have hl:i < ps.length:=(List.getElem?_eq_some_iff.mp e).1
 have k:Kp K G H (av c ow) H (av c (offW ps.length ow i)):=Kp.weak av_off
 have np: ¬ av c (offW ps.length ow i) p:=by
  rintro (h | ⟨j,h⟩)
  ·exact absurd (R.fresh i p e1) (R.a0 p h)
  ·unfold offW at h
   split at h
   ·cases h
   ·rename_i hj; exact hj ⟨R.inj j i p h e1,hl⟩
 have rp:Rep K G H (av c (offW ps.length ow i)) x.pv (.ref p):=(r1.keep k rfl).freeze np
 refine ⟨p,e2,⟨by simp [R.len],R.same,R.lent,R.a0,R.b0,fun j p e=> ?_,fun j j' p e e'=> ?_,fun j q h=> ?_,fun j z o h1 h2=> ?_⟩,rp,k⟩
 ·unfold offW at e; split at e
  ·cases e
  ·exact R.fresh j p e
 ·unfold offW at e e'
  split at e
  ·cases e
  ·split at e'
   ·cases e'
   ·exact R.inj j j' p e e'
 ·unfold offW at h; split at h
  ·cases h
  ·rw [List.length_set]; exact R.out j q h
 ·rw [List.length_set]
  by_cases hj:j=i
  ·subst hj
   rw [List.getElem?_set_self hl] at h1
   cases h1
   rw [e2] at h2; cases h2
   exact ⟨by unfold offW; rw [if_pos ⟨rfl,hl⟩],_,rfl,rp⟩
  ·rw [List.getElem?_set_ne (fun z=>hj z.symm)] at h1
   have eo:offW ps.length ow i j=ow j:=by unfold offW; rw [if_neg (fun z=>hj z.1)]
   exact (R.slot j z o h1 h2).keep R.b0 R.same R.same k eo off_vx (fun _ _=>rfl) (fun _ _ _ _=>rfl) (fun _ _=>rfl)
theorem RepS.chgL (R:RepS K G c H ow ps σ) {s s':Sl} {p:Addr} {o u:HO} (e:ps[0]? =some s) (hl:c.lx=some p) (hp:H p=some o) (m:Mt o) (r: ∀ v, σ[0]? =some v->SlAt K G c ps.length (upd H p u) (av c ow) ow 0 s' v) :
  RepS K G c (upd H p u) ow (ps.set 0 s') σ /\Kp K G H (av c ow) (upd H p u) (av c ow):=by
 have hA:=(R.lent p hl).1
 have k:Kp K G H (av c ow) (upd H p u) (av c ow):=Kp.own (.inl hA) hp m
 have sm:SmL c (upd H p u):=fun b o' h n=>by
  rw [upd_ne (by intro z; subst z; exact n hl)]
  exact R.same _ _ h n
 have us: ∀ j q,ow j=some q->upd H p u q=H q:=fun j q h=>upd_ne (by intro z; subst z; exact absurd (R.fresh j q h) (R.a0 q hA))
 refine ⟨⟨by simp [R.len],sm,fun q h=>⟨(R.lent q h).1,?_⟩,R.a0,R.b0,R.fresh,R.inj,fun j q h=> ?_,fun j z o' h1 h2=> ?_⟩,k⟩
 ·rw [hl] at h; cases h; rw [upd_same]; simp
 ·rw [List.length_set]
  rcases R.out j q h with z | z
  ·exact .inl z
  ·right; rw [us j q h]; exact z
 ·rw [List.length_set]
  by_cases hj:j=0
  ·subst hj
   have hlt:0 < ps.length:=(List.getElem?_eq_some_iff.mp e).1
   rw [List.getElem?_set_self hlt] at h1
   cases h1
   exact r o' h2
  ·rw [List.getElem?_set_ne (fun z=>hj z.symm)] at h1
   have q:=R.slot j z o' h1 h2
   cases z with
   | no=>exact q
   | v w'=>obtain ⟨z,v',e3,r'⟩:=q; exact ⟨z,v',e3,k.rep r'⟩
   | own y'=>obtain ⟨p',e3,e4,r'⟩:=q; exact ⟨p',e3,e4,r'.keep k (us j p' e3)⟩
   | bor w=>obtain ⟨z,v',e3,r'⟩:=q; exact ⟨z,v',e3,bor_keep R.b0 R.same sm k r'⟩
   | ino y=>exact absurd q.2.1 hj
   | ini kk xs=>exact absurd q.2.1 hj
   | dol ks xss =>
    obtain ⟨p',qs,e1,e2,hp',l1,l2,l3,h⟩:=q
    refine ⟨p',qs,e1,e2,by rw [us j p' e1]; exact hp',l1,l2,l3,fun jj q xs h1 h2=> ?_⟩
    obtain ⟨h3,h4⟩:=h jj q xs h1 h2
    exact ⟨h3,h4.keep k (us _ q h3)⟩
   | als d jj=>exact q
end
end DN
end
section
namespace DN
open PySem PySem.Spec PyProof.Rows L2
abbrev DP:=PSt->Rx PV
abbrev DA:=PSt->Rx (List PV)
abbrev DT:=PSt->Rx Bool
abbrev DM:=PSt->Rx (PV × PSt)
abbrev DMA:=PSt->Rx (List PV × PSt)
def tPv (K:Fg) (G:Pg) (d:DP):TE:=fun σ H Q=> ∃ (c:Fr) (ow:Ows) (ps:PSt) (w:PV),RepS K G c H ow ps σ /\d ps= .ok w/\ ∀ v H',Same H H'->Rep K G H' (av c ow) w v->Q v H'
def tPb (K:Fg) (G:Pg) (d:DP):TE:=fun σ H Q=> ∃ (c:Fr) (ow:Ows) (ps:PSt) (w:PV),RepS K G c H ow ps σ /\d ps= .ok w/\ ∀ v H',Same H H'->RepB K G H' (av c ow) w v->Q v H'
def tPt (K:Fg) (G:Pg) (d:DT):TT:=fun σ H Q=> ∃ (c:Fr) (ow:Ows) (ps:PSt) (b:Bool),RepS K G c H ow ps σ /\d ps= .ok b/\ ∀ H',Same H H'->Q b H'
def RepM (K:Fg) (G:Pg) (H:Hp) (A:Av):List Bool->List PV->List V->Prop
 | [],ws,vs=>ws=[]/\vs=[]
 | m :: ms,ws,vs=> ∃ w wr v vr,ws=w :: wr/\vs=v :: vr/\(if m=true then RepB K G H A w v else Rep K G H A w v)/\RepM K G H A ms wr vr
def tPa (K:Fg) (G:Pg) (ms:List Bool) (d:DA):TA:=fun σ H Q=> ∃ (c:Fr) (ow:Ows) (ps:PSt) (ws:List PV),RepS K G c H ow ps σ /\d ps= .ok ws/\ ∀ vs H',Same H H'->RepM K G H' (av c ow) ms ws vs->Q vs H'
def tPn (K:Fg) (G:Pg) (d:DA):TE:=fun σ H Q=> ∃ (c:Fr) (ow:Ows) (ps:PSt) (ws:List PV),RepS K G c H ow ps σ /\d ps= .ok ws/\ ∀ p vs H',Same H H'->H p=none->H' p=some (.lst vs)->Reps K G H' (fun a=>av c ow a\/a=p) ws vs->Q (.ref p) H'
def tMv (K:Fg) (G:Pg) (d:DM):TE:=fun σ H Q=> ∃ (c:Fr) (ow:Ows) (ps:PSt) (w:PV) (ps':PSt),RepS K G c H ow ps σ /\d ps= .ok (w,ps') /\
 ∀ v H' ow',RepS K G c H' ow' ps' σ ->Kp K G H (av c ow) H' (av c ow')->Rep K G H' (av c ow') w v->Q v H'
abbrev JP (X:Cx) (G:Pg) (e:Expr) (d:DP):Prop:=PE X e (tPv X.K G d)
abbrev JB (X:Cx) (G:Pg) (e:Expr) (d:DP):Prop:=PE X e (tPb X.K G d)
abbrev JT (X:Cx) (G:Pg) (e:Expr) (d:DT):Prop:=PT X e (tPt X.K G d)
abbrev JW (X:Cx) (G:Pg) (e:Expr) (d:DT):Prop:=PW X e (tPt X.K G d)
abbrev JA (X:Cx) (G:Pg) (ms:List Bool) (es:List Expr) (d:DA):Prop:=PA X es (tPa X.K G ms d)
abbrev JN (X:Cx) (G:Pg) (e:Expr) (d:DA):Prop:=PE X e (tPn X.K G d)
abbrev JM (X:Cx) (G:Pg) (e:Expr) (d:DM):Prop:=PE X e (tMv X.K G d)
theorem imp {X:Cx} {e:Expr} {t t':TE} (h:PE X e t) (f: ∀ σ H Q,t' σ H Q->t σ H Q):PE X e t':=fun pins s σ H Q I q=>h pins s σ H Q I (f σ H Q q)
theorem impT {X:Cx} {e:Expr} {t t':TT} (h:PT X e t) (f: ∀ σ H Q,t' σ H Q->t σ H Q):PT X e t':=fun pins s σ H Q I q=>h pins s σ H Q I (f σ H Q q)
theorem impW {X:Cx} {e:Expr} {t t':TT} (h:PW X e t) (f: ∀ σ H Q,t' σ H Q->t σ H Q):PW X e t':=fun wh pins s σ H Q I q=>h wh pins s σ H Q I (f σ H Q q)
theorem impA {X:Cx} {es:List Expr} {t t':TA} (h:PA X es t) (f: ∀ σ H Q,t' σ H Q->t σ H Q):PA X es t':=fun pos pins s σ H Q I q=>h pos pins s σ H Q I (f σ H Q q)
section
variable {K:Fg} {G:Pg} {H H':Hp} {A A':Av}
theorem RepB.same {w:PV} {v:V} (h:RepB K G H A w v) (s:Same H H'):RepB K G H' A w v:=by
 rcases h with h | ⟨x,p,e1,e2,r⟩ | h
 ·exact .inl (h.same s)
 ·obtain ⟨o,eo,_⟩:=r.at
  exact .inr (.inl ⟨x,p,e1,e2,r.keep (Kp.of_same s) (by rw [s _ _ eo,eo])⟩)
 ·exact .inr (.inr (h.keep (Kp.of_same s) fun p _ n=>by
   cases e:H p with
   | none=>exact absurd e n
   | some o=>exact s _ _ e))
theorem RepM.same: ∀ {ms:List Bool} {ws:List PV} {vs:List V},RepM K G H A ms ws vs->Same H H'->RepM K G H' A ms ws vs
 | [],ws,vs,h,s=>h
 | m :: ms,ws,vs,h,s=>by
  obtain ⟨w,wr,v,vr,e1,e2,r,rr⟩:=h
  refine ⟨w,wr,v,vr,e1,e2,?_,RepM.same rr s⟩
  cases m with
  | true=>rw [if_pos rfl] at r ⊢; exact r.same s
  | false=>rw [if_neg Bool.false_ne_true] at r ⊢; exact r.same s
theorem RepB.lst {xs:List PV} {v:V} (h:RepB K G H A (.lst xs) v): ∃ a vs,v= .ref a/\SqL K H a vs/\Reps K G H A xs vs:=by
 rcases h with ⟨a,vs,e,r,q⟩ | ⟨x,p,e1,e2,r⟩ | ⟨_,_,_,_,_,e1,_⟩
 ·exact ⟨a,vs,e,r.sq,q⟩
 ·cases x with
  | lst ys=>cases e1; obtain ⟨vs,q,r⟩:=r; exact ⟨p,vs,e2,SqL.of q,r⟩
  | dic ks ys=>cases e1
  | dit ks ys=>cases e1
  | obj k ys=>cases e1
 ·cases e1
theorem RepB.tup {xs:List PV} {v:V} (h:RepB K G H A (.tup xs) v): ∃ a vs,v= .ref a/\SqT K H a vs/\Reps K G H A xs vs:=by
 rcases h with ⟨a,vs,e,s,r⟩ | ⟨x,p,e1,e2,r⟩ | ⟨_,_,_,_,_,e1,_⟩
 ·exact ⟨a,vs,e,SqT.of s,r⟩
 ·cases x <;> cases e1
 ·cases e1
theorem RepB.int {i:Int} {v:V} (h:RepB K G H A (.int i) v):v= .int i:=by
 rcases h with h | ⟨x,p,e1,e2,r⟩ | ⟨_,_,_,_,_,e1,_⟩
 ·exact h
 ·cases x <;> cases e1
 ·cases e1
theorem RepB.str {i:Str} {v:V} (h:RepB K G H A (.str i) v):v= .str i:=by
 rcases h with h | ⟨x,p,e1,e2,r⟩ | ⟨_,_,_,_,_,e1,_⟩
 ·exact h
 ·cases x <;> cases e1
 ·cases e1
theorem RepB.bl {i:Bool} {v:V} (h:RepB K G H A (.bl i) v):v= .bl i:=by
 rcases h with h | ⟨x,p,e1,e2,r⟩ | ⟨_,_,_,_,_,e1,_⟩
 ·exact h
 ·cases x <;> cases e1
 ·cases e1
theorem RepB.non {v:V} (h:RepB K G H A .non v):v= .non:=by
 rcases h with h | ⟨x,p,e1,e2,r⟩ | ⟨_,_,_,_,_,e1,_⟩
 ·exact h
 ·cases x <;> cases e1
 ·cases e1
theorem RepB.obj {k:Nat} {xs:List PV} {v:V} (h:RepB K G H A (.obj k xs) v): ∃ a dx vs,v= .ref a/\H a=some (.ins (G.cA k) dx ((G.fN k).zip vs))/\(G.fN k).length=vs.length/\Reps K G H A xs vs:=by
 rcases h with ⟨a,dx,vs,e,q,l,n,r⟩ | ⟨x,p,e1,e2,r⟩ | ⟨_,_,_,_,_,e1,_⟩
 ·exact ⟨a,dx,vs,e,q,l,r⟩
 ·cases x with
  | lst ys=>cases e1
  | dic ks ys=>cases e1
  | dit ks ys=>cases e1
  | obj k' ys=>cases e1; obtain ⟨dx,vs,q,l,r⟩:=r; exact ⟨p,dx,vs,e2,q,l,r⟩
 ·cases e1
theorem RepB.dic {ks:List Key} {xs:List PV} {v:V} (h:RepB K G H A (.dic ks xs) v): ∃ a vs ep,v= .ref a/\H a=some (.dK (ks.zip vs) ep)/\ks.length=vs.length/\Reps K G H A xs vs:=by
 rcases h with ⟨a,vs,ep,e,q,l,n,r⟩ | ⟨x,p,e1,e2,r⟩ | ⟨_,_,_,_,_,e1,_⟩
 ·exact ⟨a,vs,ep,e,q,l,r⟩
 ·cases x with
  | lst ys=>cases e1
  | dic ks' ys=>cases e1; obtain ⟨vs,ep,q,l,r⟩:=r; exact ⟨p,vs,ep,e2,q,l,r⟩
  | dit ks ys=>cases e1
  | obj k ys=>cases e1
 ·cases e1
theorem RepB.dit {ks:List (List Key)} {xs:List PV} {v:V} (h:RepB K G H A (.dit ks xs) v): ∃ a vs ep,v= .ref a/\H a=some (.dT (ks.zip vs) ep)/\ks.length=vs.length/\Reps K G H A xs vs:=by
 rcases h with ⟨a,vs,ep,e,q,l,n,r⟩ | ⟨x,p,e1,e2,r⟩ | ⟨_,_,_,_,_,e1,_⟩
 ·exact ⟨a,vs,ep,e,q,l,r⟩
 ·cases x with
  | lst ys=>cases e1
  | dic ks ys=>cases e1
  | dit ks' ys=>cases e1; obtain ⟨vs,ep,q,l,r⟩:=r; exact ⟨p,vs,ep,e2,q,l,r⟩
  | obj k ys=>cases e1
 ·cases e1
theorem RepB.dbo {ks:List Key} {xs:List PV} {v:V} (h:RepB K G H A (.dbo ks xs) v): ∃ (a:Addr) (qs:List Addr) (xss:List (List PV)) (ep:Nat),v= .ref a/\xs=xss.map PV.lst/\H a=some (.dK (ks.zip (qs.map V.ref)) ep)/\ks.length=qs.length/\xss.length=qs.length/\ ∀ (j:Nat) q l,qs[j]? =some q->xss[j]? =some l->RepO K G H A (.lst l) q:=by
 rcases h with h | ⟨x,p,e1,e2,r⟩ | ⟨ks',xss,p,qs,ep,e1,e2,hp,_,l1,l2,h⟩
 ·exact h.elim
 ·cases x <;> cases e1
 ·cases e1
  exact ⟨p,qs,xss,ep,e2,rfl,hp,l1,l2,fun j q l h1 h2=>(h j q l h1 h2).1⟩
theorem RepB.exn {k:Nat} {v:V} (h:RepB K G H A (.exn k) v):Rep K G H A (.exn k) v:=by
 rcases h with h | ⟨x,p,e1,e2,r⟩ | ⟨_,_,_,_,_,e1,_⟩
 ·exact h
 ·cases x <;> cases e1
 ·cases e1
theorem RepB.clo {f:Nat} {xs:List PV} {v:V} (h:RepB K G H A (.clo f xs) v):Rep K G H A (.clo f xs) v:=by
 rcases h with h | ⟨x,p,e1,e2,r⟩ | ⟨_,_,_,_,_,e1,_⟩
 ·exact h
 ·cases x <;> cases e1
 ·cases e1
theorem RepM.reps: ∀ {ws:List PV} {vs:List V} {n:Nat},RepM K G H A (List.replicate n false) ws vs->Reps K G H A ws vs
 | ws,vs,0,h=>by obtain ⟨rfl,rfl⟩:=h; rfl
 | ws,vs,n + 1,h=>by
  obtain ⟨w,wr,v,vr,rfl,rfl,r,rr⟩:=h
  rw [if_neg Bool.false_ne_true] at r
  exact ⟨v,vr,rfl,r,RepM.reps rr⟩
theorem RepM.len: ∀ {ms:List Bool} {ws:List PV} {vs:List V},RepM K G H A ms ws vs->ws.length=ms.length/\vs.length=ms.length
 | [],ws,vs,h=>by obtain ⟨rfl,rfl⟩:=h; exact ⟨rfl,rfl⟩
 | m :: ms,ws,vs,h=>by
  obtain ⟨w,wr,v,vr,rfl,rfl,r,rr⟩:=h
  have:=RepM.len rr
  simp [this]
theorem RepM.weak: ∀ {ms:List Bool} {ws:List PV} {vs:List V},Reps K G H A ws vs->ws.length=ms.length->RepM K G H A ms ws vs
 | [],[],vs,h,_=>⟨rfl,h⟩
 | [],_ :: _,vs,h,l=>by simp at l
 | m :: ms,[],vs,h,l=>by simp at l
 | m :: ms,w :: ws,vs,h,l=>by
  obtain ⟨v,r,e,h1,h2⟩:=h
  refine ⟨w,ws,v,r,rfl,e,?_,RepM.weak h2 (by simpa using l)⟩
  cases m with
  | true=>rw [if_pos rfl]; exact .inl h1
  | false=>rw [if_neg Bool.false_ne_true]; exact h1
end
section
variable {X:Cx} {G:Pg} {e a b:Expr} {da db:DP} {pos:Pos}
theorem b_of (h:JP X G e da):JB X G e da:=imp h fun σ H Q ⟨c,ow,ps,w,R,e,q⟩=>⟨c,ow,ps,w,R,e,fun v H' s r=>q v H' s (.inl r)⟩
def dOfN (d:DA):DP:=fun ps=>(d ps).bind fun ws=> .ok (.lst ws)
theorem p_of_n {d:DA} (h:JN X G e d):JP X G e (dOfN d):=imp h fun σ H Q ⟨c,ow,ps,w,R,e,q⟩=>by
 obtain ⟨ws,e1,e2⟩:=bind_ok e
 cases e2
 refine ⟨c,ow,ps,ws,R,e1,fun p vs H' s hp hv r=>q (.ref p) H' s ⟨p,vs,rfl,.inl ⟨hv,fun z=>R.used p z hp⟩,(Kp.weak fun a z=>Or.inl z).reps r⟩⟩
def dLift (d:DP):DM:=fun ps=>(d ps).bind fun w=> .ok (w,ps)
theorem m_of (h:JP X G e da):JM X G e (dLift da):=imp h fun σ H Q ⟨c,ow,ps,w,ps',R,e,q⟩=>by
 obtain ⟨w1,e1,e2⟩:=bind_ok e
 cases e2
 exact ⟨c,ow,ps,w,R,e1,fun v H' s r=>q v H' ow (R.grow s) (Kp.of_same s) r⟩
def dVar (i:Nat):DP:=fun ps=>match ps[i]? with | some (.v w)=> .ok w | _=> .bad
def dSee (i:Nat):DP:=fun ps=>match ps[i]? with | some (.v w)=> .ok w | some (.own x)=> .ok x.pv | some (.bor w)=> .ok w | some (.dol ks xss)=> .ok (.dbo ks (xss.map PV.lst)) | _=> .bad
theorem p_var (i:Nat) {x:Str} {pos:Pos} (hN:X.N[i]? =some x:=by rfl) (hv:Vis X.env.scope x:=by first | exact Or.inl rfl | exact Or.inr (Or.inl rfl) | exact Or.inr (Or.inr rfl)) (hd:(x == ("__debug__":Str))=false:=by decide)
  (hcd:(x == ("__classdict__":Str))=false:=by decide):JP X G (.Name x pos) (dVar i):=imp (pe_var hN hv hd hcd) fun σ H Q ⟨c,ow,ps,w,R,e,q⟩=>by
 unfold dVar at e
 split at e
 ·rename_i w' h
  cases e
  obtain ⟨v,ev,r⟩:=R.getV h
  exact ⟨v,ev,q v H (Same.refl H) r⟩
 ·cases e
theorem b_var (i:Nat) {x:Str} {pos:Pos} (hN:X.N[i]? =some x:=by rfl) (hv:Vis X.env.scope x:=by first | exact Or.inl rfl | exact Or.inr (Or.inl rfl) | exact Or.inr (Or.inr rfl)) (hd:(x == ("__debug__":Str))=false:=by decide)
  (hcd:(x == ("__classdict__":Str))=false:=by decide):JB X G (.Name x pos) (dSee i):=imp (pe_var hN hv hd hcd) fun σ H Q ⟨c,ow,ps,w,R,e,q⟩=>by
 unfold dSee at e
 split at e
 ·rename_i w' h
  cases e
  obtain ⟨v,ev,r⟩:=R.getV h
  exact ⟨v,ev,q v H (Same.refl H) (.inl r)⟩
 ·rename_i x' h
  cases e
  obtain ⟨p,e1,e2,r⟩:=R.getO h
  exact ⟨_,e2,q _ H (Same.refl H) (.inr (.inl ⟨x',p,rfl,rfl,r⟩))⟩
 ·rename_i w' h
  cases e
  obtain ⟨o,eo,_,v,rfl,r⟩:=R.get h
  refine ⟨v,eo,q v H (Same.refl H) ?_⟩
  rcases r with r | ⟨x,p,e1,e2,r,_⟩ | r
  ·exact .inl r
  ·exact .inr (.inl ⟨x,p,e1,e2,r⟩)
  ·exact .inr (.inr (r.mono fun _ _ _=>trivial))
 ·rename_i ks xss h
  cases e
  obtain ⟨o,eo,p,qs,_,rfl,⟨ep,hp⟩,l1,l2,_,h⟩:=R.get h
  exact ⟨_,eo,q _ H (Same.refl H) (.inr (.inr ⟨ks,xss,p,qs,ep,rfl,rfl,hp,trivial,l1,l2,fun j q xs h1 h2=>⟨(h j q xs h1 h2).2,trivial⟩⟩))⟩
 ·cases e
def dC (w:PV):DP:=fun _=> .ok w
theorem p_con {t:V} {w:PV} (h:PE X e (tC t)) (hr: ∀ H A,Rep X.K G H A w t):JP X G e (dC w):=imp h fun σ H Q ⟨c,ow,ps,w,R,e,q⟩=>by
 cases e
 exact q _ H (Same.refl H) (hr _ _)
theorem p_int {i j pos}:JP X G (.Constant (.int i) j pos) (dC (.int i)):=p_con pe_int fun _ _=>rfl
theorem p_bl {i j pos}:JP X G (.Constant (.bool i) j pos) (dC (.bl i)):=p_con pe_bl fun _ _=>rfl
theorem p_non {j pos}:JP X G (.Constant .none j pos) (dC .non):=p_con pe_non fun _ _=>rfl
theorem p_str {i j pos}:JP X G (.Constant (.str i) j pos) (dC (.str i)):=p_con pe_str fun _ _=>rfl
theorem p_topI {x:Str} {i:Int} {tk:Tok} {pos:Pos} (hg:Gl X x) (hm:X.mg x=some (.int i tk)) (hd:(x == ("__debug__":Str))=false:=by decide):JP X G (.Name x pos) (dC (.int i)):=p_con (pe_globI hg hm hd) fun _ _=>rfl
def d2 (f:PV->PV->Rx PV) (a b:DP):DP:=fun ps=>(a ps).bind fun x=>(b ps).bind fun y=>f x y
abbrev Used (H:Hp) (A:Av):Prop:= ∀ a,A a->H a ≠ none
def Op2 (K:Fg) (G:Pg) (f:PV->PV->Rx PV) (r:R2):Prop:= ∀ (H:Hp) (A:Av) (x y w:PV) (v u:V) (Q:VK),Used H A->f x y= .ok w->RepB K G H A x v->RepB K G H A y u->(∀ z H',Same H H'->Rep K G H' A w z->Q z H')->r v u H Q
theorem bin2 {K:Fg} {f:PV->PV->Rx PV} {r:R2} (hf:Op2 K G f r) {σ :L2.St} {H:Hp} {Q:VK} (h:tPv K G (d2 f da db) σ H Q):tOp r (tPb K G da) (tPb K G db) σ H Q:=by
 obtain ⟨c,ow,ps,w,R,e,q⟩:=h
 obtain ⟨x,e1,e⟩:=bind_ok e
 obtain ⟨y,e2,e⟩:=bind_ok e
 exact ⟨c,ow,ps,x,R,e1,fun v H1 s1 r1=>⟨c,ow,ps,y,R.grow s1,e2,fun u H2 s2 r2=>hf H2 _ x y w v u Q ((R.grow s1).grow s2).used e (r1.same s2) r2 fun z H3 s3 r3=>q z H3 ((s1.trans s2).trans s3) r3⟩⟩
theorem p_op {op:Operator} {r:R2} {f:PV->PV->Rx PV} (ho:OpR X (binaryOp op) r) (hf:Op2 X.K G f r) (ha:JB X G a da) (hb:JB X G b db):JP X G (.BinOp a op b pos) (d2 f da db):=imp (pe_op ho ha hb) fun _ _ _=>bin2 hf
theorem p_cmp {op:CmpOp} {r:R2} {f:PV->PV->Rx PV} (ho:OpR X (compareOp op) r) (hf:Op2 X.K G f r) (ha:JB X G a da) (hb:JB X G b db) (hm:behindInMarks op b=false):JP X G (.Compare a [op] [b] pos) (d2 f da db):=imp (pe_cmpR ho ha hb hm) fun _ _ _=>bin2 hf
def dTr (d:DP):DT:=fun ps=>(d ps).bind fun x=>match x with | .bl b=> .ok b | _=> .bad
theorem t_cmp {op:CmpOp} {r:R2} {f:PV->PV->Rx PV} (ho:OpR X (compareOp op) r) (hf:Op2 X.K G f r) (ha:JB X G a da) (hb:JB X G b db) (hm:behindInMarks op b=false):JT X G (.Compare a [op] [b] pos) (dTr (d2 f da db)) :=
 impT (pt_cmpR ho ha hb hm) fun σ H Q ⟨c,ow,ps,b,R,e,q⟩=>by
  obtain ⟨x,e1,e2⟩:=bind_ok e
  have:x= .bl b:=by
   cases x <;> first | (cases e2; rfl) | cases e2
  subst this
  exact bin2 hf ⟨c,ow,ps,_,R,e1,fun v H' s r=>⟨b,r,q H' s⟩⟩
theorem p_ix {f:PV->PV->Rx PV} (hf:Op2 X.K G f (rIx X.K)) (ha:JB X G a da) (hb:JB X G b db) (hs:PlainIx b):JP X G (.Subscript a b pos) (d2 f da db):=imp (pe_ix ix_seq ha hb hs) fun _ _ _=>bin2 hf
def fI (g:Int->Int->PV):PV->PV->Rx PV
 | .int i,.int j=> .ok (g i j)
 | _,_=> .bad
def fIc (C:Int->Int->Prop) [∀ i j,Decidable (C i j)] (g:Int->Int->PV):PV->PV->Rx PV
 | .int i,.int j=>if C i j then .ok (g i j) else .bad
 | _,_=> .bad
def flat:PV->V
 | .non=> .non | .bl b=> .bl b | .int i=> .int i | .str x=> .str x | _=> .ref 0
theorem o2_I {K:Fg} {g:Int->Int->PV} {g':Int->Int->V} (h: ∀ i j H A,Rep K G H A (g i j) (g' i j)):Op2 K G (fI g) (rI0 g'):=by
 intro H A x y w v u Q hu e r1 r2 q
 cases x <;> try cases e
 cases y <;> try cases e
 exact ⟨_,_,r1.int,r2.int,q _ H (Same.refl H) (h _ _ _ _)⟩
theorem o2_Ic {K:Fg} {C:Int->Int->Prop} [∀ i j,Decidable (C i j)] {C':Int->Int->Prop} {g:Int->Int->PV} {g':Int->Int->V} (hc: ∀ i j,C i j->C' i j) (h: ∀ i j H A,Rep K G H A (g i j) (g' i j)):Op2 K G (fIc C g) (rI C' g'):=by
 intro H A x y w v u Q hu e r1 r2 q
 cases x <;> try cases e
 cases y <;> try cases e
 rename_i i j
 have e:(if C i j then Rx.ok (g i j) else .bad)= .ok w:=e
 split at e
 ·rename_i hC
  cases e
  exact ⟨_,_,r1.int,r2.int,hc _ _ hC,q _ H (Same.refl H) (h _ _ _ _)⟩
 ·cases e
abbrev fAdd:=fI fun i j=> .int (i + j)
abbrev fSub:=fI fun i j=> .int (i - j)
abbrev fLt:=fI fun i j=> .bl (decide (i < j))
abbrev fGt:=fI fun i j=> .bl (decide (j < i))
abbrev fAnd:=fI fun i j=> .int (Builtin.bitAnd i j)
abbrev fOr:=fI fun i j=> .int (Builtin.bitOr i j)
abbrev fXor:=fI fun i j=> .int (Builtin.bitXor i j)
abbrev fMul:=fIc (fun i j=>(-(2 ^ 64) < i/\i < 2 ^ 64)\/(-(2 ^ 64) < j/\j < 2 ^ 64)) fun i j=> .int (i * j)
abbrev fMod:=fIc (fun _ j=>0 < j) fun i j=> .int (i % j)
abbrev fDiv:=fIc (fun _ j=>0 < j/\j < 1073741824) fun i j=> .int (i / j)
abbrev fShr:=fIc (fun _ j=>0<=j) fun i j=> .int (i / 2 ^ j.toNat)
theorem p_add (ha:JB X G a da) (hb:JB X G b db):JP X G (.BinOp a .Add b pos) (d2 fAdd da db):=p_op op_add (o2_I fun _ _ _ _=>rfl) ha hb
theorem p_sub (ha:JB X G a da) (hb:JB X G b db):JP X G (.BinOp a .Sub b pos) (d2 fSub da db):=p_op op_sub (o2_I fun _ _ _ _=>rfl) ha hb
theorem p_and (ha:JB X G a da) (hb:JB X G b db):JP X G (.BinOp a .BitAnd b pos) (d2 fAnd da db):=p_op op_and (o2_I fun _ _ _ _=>rfl) ha hb
theorem p_or (ha:JB X G a da) (hb:JB X G b db):JP X G (.BinOp a .BitOr b pos) (d2 fOr da db):=p_op op_or (o2_I fun _ _ _ _=>rfl) ha hb
theorem p_xor (ha:JB X G a da) (hb:JB X G b db):JP X G (.BinOp a .BitXor b pos) (d2 fXor da db):=p_op op_xor (o2_I fun _ _ _ _=>rfl) ha hb
theorem p_mul (ha:JB X G a da) (hb:JB X G b db):JP X G (.BinOp a .Mult b pos) (d2 fMul da db):=p_op op_mul (o2_Ic (fun _ _ h=>h) fun _ _ _ _=>rfl) ha hb
theorem p_mod (ha:JB X G a da) (hb:JB X G b db):JP X G (.BinOp a .Mod b pos) (d2 fMod da db):=p_op op_mod (o2_Ic (fun _ _ h=>h) fun _ _ _ _=>rfl) ha hb
theorem p_div (ha:JB X G a da) (hb:JB X G b db):JP X G (.BinOp a .FloorDiv b pos) (d2 fDiv da db):=p_op op_fdiv (o2_Ic (fun _ _ h=>h) fun _ _ _ _=>rfl) ha hb
theorem p_shr (ha:JB X G a da) (hb:JB X G b db):JP X G (.BinOp a .RShift b pos) (d2 fShr da db):=p_op op_shr (o2_Ic (fun _ _ h=>h) fun _ _ _ _=>rfl) ha hb
theorem t_lt (ha:JB X G a da) (hb:JB X G b db):JT X G (.Compare a [.Lt] [b] pos) (dTr (d2 fLt da db)):=t_cmp op_lt (o2_I fun _ _ _ _=>rfl) ha hb (nomark _)
theorem t_gt (ha:JB X G a da) (hb:JB X G b db):JT X G (.Compare a [.Gt] [b] pos) (dTr (d2 fGt da db)):=t_cmp op_gt (o2_I fun _ _ _ _=>rfl) ha hb (nomark _)
def fCatS:PV->PV->Rx PV
 | .str x,.str y=>if x.length + y.length<=sizeLine then .ok (.str (x ++ y)) else .bad
 | _,_=> .bad
theorem p_catS (ha:JB X G a da) (hb:JB X G b db):JP X G (.BinOp a .Add b pos) (d2 fCatS da db):=p_op op_add_str (by
 intro H A x y w v u Q hu e r1 r2 q
 cases x <;> try cases e
 cases y <;> try cases e
 rename_i x y
 have e:(if x.length + y.length<=sizeLine then Rx.ok (PV.str (x ++ y)) else .bad)= .ok w:=e
 split at e
 ·rename_i h; cases e; exact ⟨_,_,r1.str,r2.str,h,q _ H (Same.refl H) rfl⟩
 ·cases e) ha hb
def isN:PV->Bool
 | .non=>true
 | _=>false
def dIsN (d:DP):DP:=fun ps=>(d ps).bind fun x=> .ok (.bl (isN x))
def dNotN (d:DP):DP:=fun ps=>(d ps).bind fun x=> .ok (.bl (!isN x))
theorem t_val {d:DP} (h:JP X G e d) (he: ∀ whole,isTrue e X.env whole=(do let v <- whole; standAt e.pos; holding [v] (truthy v)):=by intro _; rfl):JT X G e (dTr d):=impT (pt_val h he) fun σ H Q ⟨c,ow,ps,b,R,e,q⟩=>by
 obtain ⟨x,e1,e2⟩:=bind_ok e
 have:x= .bl b:=by
  cases x <;> first | (cases e2; rfl) | cases e2
 subst this
 exact ⟨c,ow,ps,_,R,e1,fun v H' s r=>⟨b,r,q H' s⟩⟩
def dAndT (a b:DT):DT:=fun ps=>(a ps).bind fun x=>if x=true then b ps else .ok false
def dOrT (a b:DT):DT:=fun ps=>(a ps).bind fun x=>if x=true then .ok true else b ps
def dNotT (a:DT):DT:=fun ps=>(a ps).bind fun x=> .ok (!x)
theorem and_t {K:Fg} {ta tb:DT} {σ :L2.St} {H:Hp} {Q:Bool->Hp->Prop} (h:tPt K G (dAndT ta tb) σ H Q):tAnd (tPt K G ta) (tPt K G tb) σ H Q:=by
 obtain ⟨c,ow,ps,b,R,e,q⟩:=h
 obtain ⟨x,e1,e2⟩:=bind_ok e
 refine ⟨c,ow,ps,x,R,e1,fun H' s=> ?_⟩
 split at e2
 ·rename_i hx; subst hx
  exact iteT ⟨c,ow,ps,b,R.grow s,e2,fun H2 s2=>q H2 (s.trans s2)⟩
 ·rename_i hx
  cases e2
  have:x=false:=by simpa using hx
  subst this
  exact iteF (q H' s)
section
variable {ta tb:DT} {rest:List Expr}
theorem w_and1 (ha:JT X G a ta):JW X G (.BoolOp .And [a] pos) ta:=pw_and1 ha
theorem w_and (ha:JT X G a ta) (hb:JW X G (.BoolOp .And (b :: rest) pos) tb):JW X G (.BoolOp .And (a :: b :: rest) pos) (dAndT ta tb):=impW (pw_and ha hb) fun _ _ _=>and_t
theorem t_w (h:JW X G e ta):JT X G e ta:=PW.pt h
theorem t_not (ha:JT X G a ta):JT X G (.UnaryOp .Not a pos) (dNotT ta):=impT (pt_not ha) fun σ H Q ⟨c,ow,ps,b,R,e,q⟩=>by
 obtain ⟨x,e1,e2⟩:=bind_ok e
 cases e2
 exact ⟨c,ow,ps,x,R,e1,fun H' s=>q H' s⟩
end
def dAndV (a b:DP):DP:=fun ps=>(a ps).bind fun x=>match x with | .bl true=>b ps | .bl false=> .ok (.bl false) | _=> .bad
def dOrV (a b:DP):DP:=fun ps=>(a ps).bind fun x=>match x with | .bl true=> .ok (.bl true) | .bl false=>b ps | _=> .bad
def dNotV (a:DP):DP:=fun ps=>(a ps).bind fun x=>match x with | .bl k=> .ok (.bl (!k)) | _=> .bad
section
variable {rest:List Expr}
theorem p_one {op} (h:JP X G a da):JP X G (.BoolOp op [a] pos) da:=pe_one h
theorem p_andV (ha:JP X G a da) (hb:JP X G (.BoolOp .And (b :: rest) pos) db):JP X G (.BoolOp .And (a :: b :: rest) pos) (dAndV da db):=imp (pe_and ha hb) fun σ H Q ⟨c,ow,ps,w,R,e,q⟩=>by
 obtain ⟨x,e1,e2⟩:=bind_ok e
 refine ⟨c,ow,ps,x,R,e1,fun v H' s r=> ?_⟩
 split at e2
 ·exact ⟨true,r,iteT ⟨c,ow,ps,w,R.grow s,e2,fun v2 H2 s2 r2=>q v2 H2 (s.trans s2) r2⟩⟩
 ·cases e2; exact ⟨false,r,iteF (q _ H' s rfl)⟩
 ·cases e2
theorem p_orV (ha:JP X G a da) (hb:JP X G (.BoolOp .Or (b :: rest) pos) db):JP X G (.BoolOp .Or (a :: b :: rest) pos) (dOrV da db):=imp (pe_or ha hb) fun σ H Q ⟨c,ow,ps,w,R,e,q⟩=>by
 obtain ⟨x,e1,e2⟩:=bind_ok e
 refine ⟨c,ow,ps,x,R,e1,fun v H' s r=> ?_⟩
 split at e2
 ·cases e2; exact ⟨true,r,iteT (q _ H' s rfl)⟩
 ·exact ⟨false,r,iteF ⟨c,ow,ps,w,R.grow s,e2,fun v2 H2 s2 r2=>q v2 H2 (s.trans s2) r2⟩⟩
 ·cases e2
theorem p_notV (ha:JP X G a da):JP X G (.UnaryOp .Not a pos) (dNotV da):=imp (pe_not ha) fun σ H Q ⟨c,ow,ps,w,R,e,q⟩=>by
 obtain ⟨x,e1,e2⟩:=bind_ok e
 refine ⟨c,ow,ps,x,R,e1,fun v H' s r=> ?_⟩
 split at e2
 ·cases e2; exact ⟨_,r,q _ H' s rfl⟩
 ·cases e2
def dNeg (d:DP):DP:=fun ps=>(d ps).bind fun x=>match x with | .int i=> .ok (.int (-i)) | _=> .bad
def dIfV (t:DT) (a b:DP):DP:=fun ps=>(t ps).bind fun x=>if x=true then a ps else b ps
end
end
section
variable {X:Cx} {G:Pg} {e a b:Expr} {es:List Expr} {da db:DP} {pos:Pos}
def fIx:PV->PV->Rx PV
 | .lst xs,.int i=>match atI xs i with | some w=> .ok w | none=> .bad
 | .tup xs,.int i=>match atI xs i with | some w=> .ok w | none=> .bad
 | .str z,.int i=>if z.length<=sizeLine then (match atI z.cps.toList i with | some c=> .ok (.str ⟨#[c]⟩) | none=> .bad) else .bad
 | _,_=> .bad
theorem atI_rep {K:Fg} {H:Hp} {A:Av} {xs:List PV} {vs:List V} {i:Int} {w:PV} (r:Reps K G H A xs vs) (e:atI xs i=some w): ∃ v,atI vs i=some v/\Rep K G H A w v:=by
 unfold atI at e ⊢
 rw [<- r.len]
 cases q:ixN xs.length i with
 | none=>rw [q] at e; cases e
 | some j =>
  rw [q] at e
  exact r.get e
theorem o2_ix {K:Fg}:Op2 K G fIx (rIx K):=by
 intro H A x y w v u Q hu e r1 r2 q
 cases x <;> try cases e
 ·cases y <;> try cases e
  rename_i z i
  have e:(if z.length<=sizeLine then (match atI z.cps.toList i with | some c=>Rx.ok (PV.str ⟨#[c]⟩) | none=> .bad) else .bad)= .ok w:=e
  split at e
  ·rename_i hz
   split at e
   ·rename_i c hc
    cases e
    exact .inr (.inr ⟨z,i,c,r1.str,r2.int,hz,hc,q _ H (Same.refl H) rfl⟩)
   ·cases e
  ·cases e
 ·cases y <;> try cases e
  rename_i xs i
  have e:(match atI xs i with | some w=>Rx.ok w | none=> .bad)= .ok w:=e
  split at e
  ·rename_i w' hw
   cases e
   obtain ⟨p,vs,ev,sq,rs⟩:=r1.tup
   obtain ⟨v',e1,r'⟩:=atI_rep rs hw
   exact .inr (.inl ⟨p,vs,i,v',ev,r2.int,sq,e1,q _ H (Same.refl H) r'⟩)
  ·cases e
 ·cases y <;> try cases e
  rename_i xs i
  have e:(match atI xs i with | some w=>Rx.ok w | none=> .bad)= .ok w:=e
  split at e
  ·rename_i w' hw
   cases e
   obtain ⟨p,vs,ev,sq,rs⟩:=r1.lst
   obtain ⟨v',e1,r'⟩:=atI_rep rs hw
   exact .inl ⟨p,vs,i,v',ev,r2.int,sq,e1,q _ H (Same.refl H) r'⟩
  ·cases e
theorem p_at (ha:JB X G a da) (hb:JB X G b db) (hs:PlainIx b):JP X G (.Subscript a b pos) (d2 fIx da db):=p_ix o2_ix ha hb hs
def dNil:DA:=fun _=> .ok []
def dCons (a:DP) (r:DA):DA:=fun ps=>(a ps).bind fun x=>(r ps).bind fun xs=> .ok (x :: xs)
theorem a_nil:JA X G [] [] dNil:=impA pa_nil fun σ H Q ⟨c,ow,ps,ws,R,e,q⟩=>by
 cases e
 exact q [] H (Same.refl H) ⟨rfl,rfl⟩
theorem a_cons {ms:List Bool} {d:DA} (ha:JP X G e da) (hr:JA X G ms es d) (hs:starEach (e :: es) X.env=(false,eval e X.env) :: starEach es X.env:=by rfl):JA X G (false :: ms) (e :: es) (dCons da d) :=
 impA (pa_cons ha hr hs) fun σ H Q ⟨c,ow,ps,ws,R,e,q⟩=>by
  obtain ⟨x,e1,e⟩:=bind_ok e
  obtain ⟨xs,e2,e⟩:=bind_ok e
  cases e
  exact ⟨c,ow,ps,x,R,e1,fun v H1 s1 r1=>⟨c,ow,ps,xs,R.grow s1,e2,fun vs H2 s2 r2=>q (v :: vs) H2 (s1.trans s2) ⟨x,xs,v,vs,rfl,rfl,by rw [if_neg Bool.false_ne_true]; exact r1.same s2,r2⟩⟩⟩
theorem a_consB {ms:List Bool} {d:DA} (ha:JB X G e da) (hr:JA X G ms es d) (hs:starEach (e :: es) X.env=(false,eval e X.env) :: starEach es X.env:=by rfl):JA X G (true :: ms) (e :: es) (dCons da d) :=
 impA (pa_cons ha hr hs) fun σ H Q ⟨c,ow,ps,ws,R,e,q⟩=>by
  obtain ⟨x,e1,e⟩:=bind_ok e
  obtain ⟨xs,e2,e⟩:=bind_ok e
  cases e
  exact ⟨c,ow,ps,x,R,e1,fun v H1 s1 r1=>⟨c,ow,ps,xs,R.grow s1,e2,fun vs H2 s2 r2=>q (v :: vs) H2 (s1.trans s2) ⟨x,xs,v,vs,rfl,rfl,by rw [if_pos rfl]; exact r1.same s2,r2⟩⟩⟩
theorem RepM.reps' {K:Fg} {H:Hp} {A:Av}: ∀ {ms:List Bool} {ws:List PV} {vs:List V},RepM K G H A ms ws vs->ms.all (! ·)=true->Reps K G H A ws vs
 | [],ws,vs,h,_=>by obtain ⟨rfl,rfl⟩:=h; rfl
 | m :: ms,ws,vs,h,hm=>by
  obtain ⟨w,wr,v,vr,rfl,rfl,r,rr⟩:=h
  rw [List.all_cons,Bool.and_eq_true] at hm
  have:m=false:=by simpa using hm.1
  subst this
  rw [if_neg Bool.false_ne_true] at r
  exact ⟨v,vr,rfl,r,RepM.reps' rr hm.2⟩
def dTup (d:DA):DP:=fun ps=>(d ps).bind fun ws=> .ok (.tup ws)
theorem p_tup {ms:List Bool} {d:DA} {x1} (h:JA X G ms es d) (hm:ms.all (! ·)=true:=by rfl) (hl:ms.length<=1000:=by decide):JP X G (.Tuple es x1 pos) (dTup d):=imp (pe_tup h) fun σ H Q ⟨c,ow,ps,w,R,e,q⟩=>by
 obtain ⟨ws,e1,e⟩:=bind_ok e
 cases e
 refine ⟨c,ow,ps,ws,R,e1,fun vs H1 s1 r1=>⟨?_,fun p hp=> ?_⟩⟩
 ·rw [r1.len.2]; exact Nat.le_of_lt (small1000 hl)
 ·exact q _ _ (s1.trans (same_upd hp _)) ⟨p,vs,rfl,upd_same,(r1.reps' hm).same (same_upd hp _)⟩
theorem n_lst {ms:List Bool} {d:DA} (h:JA X G ms es d) (hm:ms.all (! ·)=true:=by rfl) (hl:ms.length<=1000:=by decide):JN X G (.List es pos) d:=imp (pe_lst h) fun σ H Q ⟨c,ow,ps,ws,R,e,q⟩=>by
 refine ⟨c,ow,ps,ws,R,e,fun vs H1 s1 r1=>⟨?_,fun p hp=> ?_⟩⟩
 ·rw [r1.len.2]; exact Nat.le_of_lt (small1000 hl)
 ·exact q p vs _ (s1.trans (same_upd hp _)) (s1.free hp) upd_same ((Kp.take hp (same_upd hp _) fun a z=>z.symm).reps (r1.reps' hm))
def dCatL (a b:DP):DA:=fun ps=>(a ps).bind fun x=>(b ps).bind fun y=>match x,y with | .lst xs,.lst ys=>if xs.length + ys.length<=sizeLine then .ok (xs ++ ys) else .bad | _,_=> .bad
theorem n_cat (ha:JB X G a da) (hb:JB X G b db) (ho:OpR X (binaryOp .Add) (fun x y H Q=> ∃ l m xs zs,x= .ref l/\y= .ref m/\SqL X.K H l xs/\SqL X.K H m zs/\xs.length + zs.length<=sizeLine/\ ∀ p,H p=none->Q (.ref p) (upd H p (.lst (xs ++ zs))))) :
  JN X G (.BinOp a .Add b pos) (dCatL da db):=imp (pe_op ho ha hb) fun σ H Q ⟨c,ow,ps,ws,R,e,q⟩=>by
 obtain ⟨x,e1,e⟩:=bind_ok e
 obtain ⟨y,e2,e⟩:=bind_ok e
 refine ⟨c,ow,ps,x,R,e1,fun v H1 s1 r1=>⟨c,ow,ps,y,R.grow s1,e2,fun u H2 s2 r2=> ?_⟩⟩
 split at e
 ·rename_i xs ys
  split at e
  ·rename_i hl
   cases e
   obtain ⟨l,vs,e3,sq,rs⟩:=(r1.same s2).lst
   obtain ⟨m,us,e4,sq',rs'⟩:=r2.lst
   refine ⟨l,m,vs,us,e3,e4,sq,sq',by rw [<- rs.len, <- rs'.len]; exact hl,fun p hp=> ?_⟩
   have sp:=same_upd hp (.lst (vs ++ us))
   exact q p _ _ ((s1.trans s2).trans sp) ((s1.trans s2).free hp) upd_same ((Kp.take hp sp fun a z=>z.symm).reps (rs.app rs'))
  ·cases e
 ·cases e
theorem op_catL:OpR X (binaryOp .Add) (fun x y H Q=> ∃ l m xs zs,x= .ref l/\y= .ref m/\SqL X.K H l xs/\SqL X.K H m zs/\xs.length + zs.length<=sizeLine/\ ∀ p,H p=none->Q (.ref p) (upd H p (.lst (xs ++ zs)))):=by
 intro pins s σ H x y v u Q I rx ry h
 obtain ⟨l,b,xs,zs,rfl,rfl,e1,e2,z,q⟩:=h
 obtain ⟨its,r1,⟨⟨cls,dd,data,sl⟩,n,ho,hc,hd0,hd⟩,z1⟩:=I.list e1
 obtain ⟨itb,r2,⟨⟨cls2,dd2,data2,sl2⟩,n2,ho2,hc2,hd02,hd2⟩,z2⟩:=I.list e2
 simp only at hc hd hc2 hd2
 subst hc hd hc2 hd2
 obtain rfl:v=Value.ref l:=rx
 obtain rfl:u=Value.ref b:=ry
 have hl1:=r1.length
 have hl2:=r2.length
 have ea:its.toArray ++ itb.toArray=(its ++ itb).toArray:=by simp
 refine concat_meets ⟨_,ho,rfl⟩ ⟨_,ho2,rfl⟩ noFill_list_add seq_list_add PySem.F.slot_list_add PySem.F.entry_list_add (PySem.F.args_list_add_2 _ _) (list_addW l b its.toArray itb.toArray n n2 dd dd2 sl sl2 (by rw [List.size_toArray,List.size_toArray]; omega)) ⟨ho,ho2,?_⟩
 rw [ea]
 exact ⟨.ref _,_,I.lnew (t':=s.toks) (r1.append r2) (by rw [List.length_append]; omega),rfl,q _ I.fresh⟩
def tPo (K:Fg) (G:Pg) (d:PSt->Rx (Option Int)):TO:=fun σ H Q=> ∃ (c:Fr) (ow:Ows) (ps:PSt) (o:Option Int),RepS K G c H ow ps σ /\d ps= .ok o/\ ∀ H',Same H H'->Q o H'
abbrev JO (X:Cx) (G:Pg) (e:Option Expr) (d:PSt->Rx (Option Int)):Prop:=PO X e (tPo X.K G d)
def dO0:PSt->Rx (Option Int):=fun _=> .ok none
def dO1 (d:DP):PSt->Rx (Option Int):=fun ps=>(d ps).bind fun x=>match x with | .int i=> .ok (some i) | _=> .bad
theorem o_none:JO X G none dO0:=fun pins s σ H Q I hq=>po_none pins s σ H Q I (by
 obtain ⟨c,ow,ps,o,R,e,q⟩:=hq
 cases e
 exact q H (Same.refl H))
theorem o_some (h:JP X G e da):JO X G (some e) (dO1 da):=fun pins s σ H Q I hq=>po_some h pins s σ H Q I (by
 obtain ⟨c,ow,ps,o,R,e,q⟩:=hq
 obtain ⟨x,e1,e2⟩:=bind_ok e
 refine ⟨c,ow,ps,x,R,e1,fun v H' s r=> ?_⟩
 split at e2
 ·cases e2; exact ⟨_,r,q H' s⟩
 ·cases e2)
def cutP (xs:List PV) (lo hi:Option Int):List PV:=(xs.drop (HT.sIx xs.length 0 lo)).take (HT.sIx xs.length xs.length hi - HT.sIx xs.length 0 lo)
def dCut (d:DP) (dl dh:PSt->Rx (Option Int)):DA:=fun ps=>(d ps).bind fun x=>(dl ps).bind fun lo=>(dh ps).bind fun hi=>match x with | .lst xs=> .ok (cutP xs lo hi) | _=> .bad
def dCall (f:List PV->Rx PV) (d:DA):DP:=fun ps=>(d ps).bind f
def CbR (K:Fg) (G:Pg) (ms:List Bool) (f:List PV->Rx PV) (r:List V->Hp->VK->Prop):Prop:= ∀ (H:Hp) (A:Av) (ws:List PV) (vs:List V) (w:PV) (Q:VK),Used H A->f ws= .ok w->RepM K G H A ms ws vs->(∀ z H',Same H H'->Rep K G H' A w z->Q z H')->r vs H Q
theorem cb_of {K:Fg} {ms:List Bool} {f:List PV->Rx PV} {r:List V->Hp->VK->Prop} {d:DA} (hf:CbR K G ms f r) {σ :L2.St} {H:Hp} {Q:VK} (h:tPv K G (dCall f d) σ H Q):tCB r (tPa K G ms d) σ H Q:=by
 obtain ⟨c,ow,ps,w,R,e,q⟩:=h
 obtain ⟨ws,e1,e2⟩:=bind_ok e
 exact ⟨c,ow,ps,ws,R,e1,fun vs H' s r=>hf H' _ ws vs w Q (R.grow s).used e2 r fun z H2 s2 r2=>q z H2 (s.trans s2) r2⟩
theorem p_callB {x:Str} {p:Pos} {id:String} {ms:List Bool} {f:List PV->Rx PV} {r:List V->Hp->VK->Prop} {d:DA} (hc:CallR X (.builtin id) r) (hf:CbR X.K G ms f r) (hg:Gl X x) (hm:X.mg x=none) (hv:bootBuiltins x=some (.builtin id)) (ha:JA X G ms (e :: es) d) (hn:x ≠ "__name__":=by decide) (hdb:(x == ("__debug__":Str))=false:=by decide)
  (he:starEach (e :: es) X.env=(false,eval e X.env) :: starEach es X.env:=by rfl) (hpl:(backTo pos (starEach es X.env)).any (·.1)=false:=by rfl):JP X G (.Call (.Name x p) (e :: es) [] pos) (dCall f d):=imp (pe_callB hc hg hm hv ha hn hdb he hpl) fun _ _ _=>cb_of hf
theorem RepM.one {K:Fg} {H:Hp} {A:Av} {ws:List PV} {vs:List V} (h:RepM K G H A [true] ws vs): ∃ w v,ws=[w]/\vs=[v]/\RepB K G H A w v:=by
 obtain ⟨w,wr,v,vr,rfl,rfl,r,rfl,rfl⟩:=h
 exact ⟨w,v,rfl,rfl,r⟩
theorem RepM.two {K:Fg} {H:Hp} {A:Av} {ws:List PV} {vs:List V} (h:RepM K G H A [true,true] ws vs): ∃ w w' v v',ws=[w,w']/\vs=[v,v']/\RepB K G H A w v/\RepB K G H A w' v':=by
 obtain ⟨w,wr,v,vr,rfl,rfl,r,w',wr',v',vr',rfl,rfl,r',rfl,rfl⟩:=h
 exact ⟨w,w',v,v',rfl,rfl,r,r'⟩
def bLen:List PV->Rx PV
 | [.str y]=>if y.length<=sizeLine then .ok (.int y.length) else .bad
 | [.lst xs]=> .ok (.int xs.length)
 | [.tup xs]=> .ok (.int xs.length)
 | _=> .bad
theorem cb_len {K:Fg}:CbR K G [true] bLen (fun xs H Q=> ∃ x n,xs=[x]/\LenV K x H n/\Q (.int n) H):=by
 intro H A ws vs w Q hu e r q
 obtain ⟨x,v,rfl,rfl,rb⟩:=r.one
 clear r
 cases x <;> try cases e
 ·rename_i y
  have e:(if y.length<=sizeLine then Rx.ok (PV.int y.length) else .bad)= .ok w:=e
  split at e
  ·rename_i hy
   cases e
   rw [rb.str]
   exact ⟨_,_,rfl,⟨hy,rfl⟩,q _ H (Same.refl H) rfl⟩
  ·cases e
 ·obtain ⟨a,vs,rfl,sq,rs⟩:=rb.tup
  exact ⟨_,_,rfl,.inr ⟨vs,sq,rfl⟩,q _ H (Same.refl H) (by show _=_; rw [rs.len])⟩
 ·obtain ⟨a,vs,rfl,sq,rs⟩:=rb.lst
  exact ⟨_,_,rfl,.inl ⟨vs,sq,rfl⟩,q _ H (Same.refl H) (by show _=_; rw [rs.len])⟩
def bList:List PV->Rx (List PV)
 | [.lst xs]=> .ok xs
 | [.tup xs]=> .ok xs
 | _=> .bad
def dCallN (f:List PV->Rx (List PV)) (d:DA):DA:=fun ps=>(d ps).bind f
theorem n_list {x:Str} {p:Pos} {d:DA} (hg:Gl X "list") (hm:X.mg "list"=none) (ha:JA X G [true] [e] d)
  (he:starEach [e] X.env=(false,eval e X.env) :: starEach [] X.env:=by rfl) (hpl:(backTo pos (starEach [] X.env)).any (·.1)=false:=by rfl):JN X G (.Call (.Name "list" p) [e] [] pos) (dCallN bList d) :=
 imp (pe_callTy call_list_of hg hm boot_list ha (by decide) (by decide) he hpl) fun σ H Q ⟨c,ow,ps,ws,R,e,q⟩=>by
  obtain ⟨xs,e1,e2⟩:=bind_ok e
  refine ⟨c,ow,ps,xs,R,e1,fun vs H' s r=> ?_⟩
  obtain ⟨x,v,rfl,rfl,rb⟩:=r.one
  clear r
  cases x <;> try cases e2
  ·obtain ⟨a,vs,rfl,sq,rs⟩:=rb.tup
   exact ⟨a,vs,rfl,.inr sq,fun l hl=>q l vs _ (s.trans (same_upd hl _)) (s.free hl) upd_same ((Kp.take hl (same_upd hl _) fun a z=>z.symm).reps rs)⟩
  ·obtain ⟨a,vs,rfl,sq,rs⟩:=rb.lst
   exact ⟨a,vs,rfl,.inl sq,fun l hl=>q l vs _ (s.trans (same_upd hl _)) (s.free hl) upd_same ((Kp.take hl (same_upd hl _) fun a z=>z.symm).reps rs)⟩
def kd:PV->Nat
 | .non=>0 | .bl _=>1 | .int _=>2 | .str _=>3 | .tup _=>4 | .lst _=>5 | .dic _ _=>6 | .clo _ _=>9 | .dit _ _=>9 | .dbo _ _=>9 | .exn _=>9 | .obj k _=>k + 10
def tyOfKd (G:Pg):Nat->Value
 | 0=> .type "NoneType" | 1=> .type "bool" | 2=> .type "int" | 3=> .type "str" | 4=> .type "tuple" | 5=> .type "list" | 6=> .type "dict" | 7=> .none | 8=> .none | 9=> .none
 | k + 10=> .ref (G.cA k)
def ClsTy (K:Fg) (C:Addr):Prop:= ∀ H a dx fs,H a=some (.ins C dx fs)->TyOf K H (.ref a) (.ref C)
def dIsi (l:List (Nat × Bool)) (d:DP):DP:=fun ps=>(d ps).bind fun x=>match l.lookup (kd x) with | some b=> .ok (.bl b) | none=> .bad
structure IsiOk (K:Fg) (G:Pg) (cv:Value) (l:List (Nat × Bool)):Prop where
 kit: ∀ k b,l.lookup k=some b->PySem.W.kitOne K (tyOfKd G k) cv=some b
 cls: ∀ k b,l.lookup (k + 10)=some b->ClsTy K (G.cA k)
 n9: ∀ b,l.lookup 9 ≠ some b
theorem call_isi (cv:Value) (l:List (Nat × Bool)) (ok:IsiOk X.K G cv l):CallR X (.builtin "isinstance") (fun xs H Q=> ∃ A w v c b,xs=[v,c]/\(∀ u,RelV c u->u=cv)/\RepB X.K G H A w v/\l.lookup (kd w)=some b/\Q (.bl b) H):=by
 intro pins s σ H xs us Q I r h
 obtain ⟨A,w,v,c,b,rfl,hc,rw',hl,q⟩:=h
 obtain ⟨u,u',rfl,ru,rc⟩:=vals2 r
 obtain rfl:=hc _ rc
 have kit:=ok.kit _ _ hl
 have fin: ∀ tk,EP X pins σ Q (.bool b) { s with toks:=tk }:=fun tk=>⟨.bl b,H,I.tok tk,rfl,q⟩
 cases w with
 | non=>rw [rw'.non] at ru; exact isinst_ok I ru .non kit fin
 | bl k=>rw [rw'.bl] at ru; exact isinst_ok I ru (.bl _) kit fin
 | int i=>rw [rw'.int] at ru; exact isinst_ok I ru (.int _) kit fin
 | str i=>rw [rw'.str] at ru; exact isinst_ok I ru (.str _) kit fin
 | tup ws =>
  obtain ⟨a,vs,rfl,sq,rs⟩:=rw'.tup
  cases (show u=Value.ref a from ru)
  obtain ⟨its,_,p,_⟩:=I.tuple sq
  obtain ⟨o,h1,h2,_⟩:=p
  exact PySem.W.kia_one PySem.W.kitx_tuple I.kIn ⟨o,h1,h2⟩ kit (fun z=>nomatch z) fin
 | lst ws =>
  obtain ⟨a,vs,rfl,sq,rs⟩:=rw'.lst
  cases (show u=Value.ref a from ru)
  obtain ⟨its,_,⟨o,n,h1,h2,_⟩,_⟩:=I.list sq
  exact PySem.W.kia_one PySem.W.kitx_list I.kIn ⟨o,h1,h2⟩ kit (fun z=>nomatch z) fin
 | clo f ws=>exact absurd hl (ok.n9 b)
 | dit ks ws=>exact absurd hl (ok.n9 b)
 | dbo ks ws=>exact absurd hl (ok.n9 b)
 | exn _=>exact absurd hl (ok.n9 b)
 | dic ks ws =>
  obtain ⟨a,vs,ep,rfl,hH,_,rs⟩:=rw'.dic
  exact isinst_ok I ru (.dK hH) kit fin
 | obj k ws =>
  obtain ⟨a,dx,vs,rfl,hH,_,rs⟩:=rw'.obj
  exact isinst_ok I ru (ok.cls k b hl H a dx _ hH) kit fin
theorem p_isi {ce:Expr} {cvv:V} {cv:Value} {l:List (Nat × Bool)} {p:Pos} (hg:Gl X "isinstance") (hm:X.mg "isinstance"=none) (ok:IsiOk X.K G cv l) (hcv: ∀ u,RelV cvv u->u=cv) (ha:JB X G e da) (hc:PE X ce (tC cvv))
  (he:starEach [e,ce] X.env=(false,eval e X.env) :: starEach [ce] X.env:=by rfl) (he2:starEach [ce] X.env=(false,eval ce X.env) :: starEach [] X.env:=by rfl) (hpl:(backTo pos (starEach [ce] X.env)).any (·.1)=false:=by rfl) :
  JP X G (.Call (.Name "isinstance" p) [e,ce] [] pos) (dIsi l da) :=
 imp (pe_callB (call_isi cv l ok) hg hm boot_isinstance (pa_cons ha (pa_cons hc pa_nil he2) he) (by decide) (by decide) he hpl) fun σ H Q ⟨c,ow,ps,w,R,e,q⟩=>by
  obtain ⟨x,e1,e2⟩:=bind_ok e
  refine ⟨c,ow,ps,x,R,e1,fun v H' s r=> ?_⟩
  split at e2
  ·rename_i b hb
   cases e2
   exact ⟨_,x,v,cvv,b,rfl,hcv,r,hb,q _ H' s rfl⟩
  ·cases e2
theorem zip_lookup {f:Str} {v:V}: ∀ {ns:List Str} {vs:List V} {j:Nat},ns.Nodup->ns[j]? =some f->vs[j]? =some v->(ns.zip vs).lookup f=some v
 | [],vs,j,_,h,_=>by simp at h
 | n :: ns,[],j,_,_,h=>by simp at h
 | n :: ns,u :: vs,0,_,h1,h2=>by
  simp at h1 h2; subst h1; subst h2
  simp
 | n :: ns,u :: vs,j + 1,nd,h1,h2=>by
  have h1':ns[j]? =some f:=by simpa using h1
  have hne:(f == n)=false:=by
   have:f ≠ n:=fun z=>by subst z; exact (List.nodup_cons.mp nd).1 (List.mem_of_getElem? h1')
   simpa using this
  rw [List.zip_cons_cons,List.lookup_cons,hne]
  exact zip_lookup (j:=j) (List.nodup_cons.mp nd).2 h1' (by simpa using h2)
structure FldOk (K:Fg) (G:Pg) (f:Str) (l:List (Nat × Nat)):Prop where
 all: ∀ k j,l.lookup k=some j->Cls K (G.cA k)/\NoAttr K (G.cA k) f/\(G.fN k).Nodup/\(G.fN k)[j]? =some f
def dFld (l:List (Nat × Nat)) (d:DP):DP:=fun ps=>(d ps).bind fun x=>match x with
 | .obj k xs=>(match l.lookup k with | some j=>(match xs[j]? with | some w=> .ok w | none=> .bad) | none=> .bad)
 | _=> .bad
theorem p_fld {f:Str} {l:List (Nat × Nat)} (ok:FldOk X.K G f l) (ha:JP X G e da) (hb:attributeBase e f X.env (eval e X.env)=eval e X.env):JP X G (.Attribute e f pos) (dFld l da):=imp (pe_fld ha hb) fun σ H Q ⟨c,ow,ps,w,R,e,q⟩=>by
 obtain ⟨x,e1,e2⟩:=bind_ok e
 refine ⟨c,ow,ps,x,R,e1,fun v H' s r=> ?_⟩
 cases x with
 | obj k xs =>
  have e2:(match l.lookup k with | some j=>(match xs[j]? with | some w=>Rx.ok w | none=> .bad) | none=> .bad)= .ok w:=e2
  split at e2
  ·rename_i j hj
   split at e2
   ·rename_i w' hw
    cases e2
    obtain ⟨a,dx,vs,rfl,hH,hl,na,rs⟩:=r
    obtain ⟨c1,c2,c3,c4⟩:=ok.all k j hj
    obtain ⟨u,hu,ru⟩:=rs.get hw
    exact ⟨a,_,dx,_,u,rfl,hH,c1,c2,zip_lookup c3 c4 hu,q u H' s ru⟩
   ·cases e2
  ·cases e2
 | _=>cases e2
end
def SlF (K:Fg) (G:Pg) (B:Av) (H:Hp) (A:Av):Sl->Option V->Prop
 | .no,_=>True
 | .v w,o=> ∃ v,o=some v/\Rep K G H A w v
 | .own _,_=>False
 | .bor w,o=> ∃ v,o=some v/\(Rep K G H A w v\/(∃ x p,w=x.pv/\v= .ref p/\RepO K G H A x p/\B p)\/RepD K G H A B w v)
 | .ino _,_=>False
 | .ini _ _,_=>False
 | .dol _ _,_=>False
 | .als _ _,_=>False
structure RepF (K:Fg) (G:Pg) (B:Av) (H:Hp) (A:Av) (ps:PSt) (σ :L2.St):Prop where
 len:ps.length= σ.length
 slot: ∀ (i:Nat) (s:Sl) (o:Option V),ps[i]? =some s-> σ[i]? =some o->SlF K G B H A s o
section
variable {K:Fg} {G:Pg} {H H':Hp} {A A' B:Av} {ps:PSt} {σ :L2.St}
def ow0:Ows:=fun _=>none
theorem av0 {c:Fr} (a:Addr):av c ow0 a->c.A0 a:=by
 rintro (h | ⟨i,h⟩)
 ·exact h
 ·cases h
theorem RepB.keep {w:PV} {v:V} (h:RepB K G H A w v) (k:Kp K G H A H' A') (e: ∀ p o,H p=some o->Mt o->H' p=H p):RepB K G H' A' w v:=by
 rcases h with h | ⟨x,p,e1,e2,r⟩ | ⟨ks,xss,p,qs,ep,e1,e2,e3,b,l1,l2,h⟩
 ·exact .inl (k.rep h)
 ·obtain ⟨o,eo,mo⟩:=r.at
  exact .inr (.inl ⟨x,p,e1,e2,r.keep k (e p o eo mo)⟩)
 ·refine .inr (.inr ⟨ks,xss,p,qs,ep,e1,e2,by rw [e p _ e3 (And.intro (fun _ z=>by cases z) (fun _ _ z=>by cases z))]; exact e3,b,l1,l2,fun j q xs h1 h2=> ?_⟩)
  obtain ⟨r,b⟩:=h j q xs h1 h2
  obtain ⟨o,eo,mo⟩:=r.at
  exact ⟨r.keep k (e q o eo mo),b⟩
theorem RepB.weak {w:PV} {v:V} (h:RepB K G H A w v) (f: ∀ a,A' a->A a):RepB K G H A' w v:=h.keep (Kp.weak f) fun _ _ _ _=>rfl
theorem RepF.toS (R:RepF K G B H A ps σ) (u:Used H A) (ub:Used H B):RepS K G ⟨H,A,B,none⟩ H ow0 ps σ :=by
 refine ⟨R.len,SmL.of (Same.refl H),(fun p e=>(nomatch e)),u,(fun a z=>⟨ub a z,fun e=>nomatch e⟩),(fun i p e=>(nomatch e)),(fun i j p e=>(nomatch e)),(fun _ _ e=>(nomatch e)),fun i s o e1 e2=> ?_⟩
 have q:=R.slot i s o e1 e2
 have k:Kp K G H A H (av ⟨H,A,B,none⟩ ow0):=Kp.weak fun a z=>av0 a z
 cases s with
 | no=>rfl
 | v w=>obtain ⟨v,e,r⟩:=q; exact ⟨rfl,v,e,k.rep r⟩
 | own x=>exact q.elim
 | ino x=>exact q.elim
 | ini k xs=>exact q.elim
 | dol ks xss=>exact q.elim
 | als d j=>exact q.elim
 | bor w =>
  obtain ⟨v,e,r⟩:=q
  refine ⟨rfl,v,e,?_⟩
  rcases r with r | ⟨x,p,e1,e2,r,n⟩ | r
  ·exact .inl (k.rep r)
  ·exact .inr (.inl ⟨x,p,e1,e2,r.keep k rfl,n⟩)
  ·exact .inr (.inr (r.keep k fun _ _ _=>rfl))
theorem RepF.ofS {c:Fr} (R:RepS K G c H ow0 ps σ) (hl:c.lx=none):RepF K G c.B0 H c.A0 ps σ :=by
 refine ⟨R.len,fun i s o e1 e2=> ?_⟩
 have q:=R.slot i s o e1 e2
 have k:Kp K G H (av c ow0) H c.A0:=Kp.weak fun a z=> .inl z
 cases s with
 | no=>exact True.intro
 | v w=>obtain ⟨_,v,e,r⟩:=q; exact ⟨v,e,k.rep r⟩
 | own x=>obtain ⟨p,e,_⟩:=q; cases e
 | ino x=>obtain ⟨_,_,p,_,e,_⟩:=q; rw [hl] at e; cases e
 | ini k xs=>obtain ⟨_,_,p,_,e,_⟩:=q; rw [hl] at e; cases e
 | dol ks xss=>obtain ⟨p,qs,e,_⟩:=q; cases e
 | als d j=>obtain ⟨_,q',_,e⟩:=q; cases e
 | bor w =>
  obtain ⟨_,v,e,r⟩:=q
  refine ⟨v,e,?_⟩
  rcases r with r | ⟨x,p,e1,e2,r,n⟩ | r
  ·exact .inl (k.rep r)
  ·exact .inr (.inl ⟨x,p,e1,e2,r.keep k rfl,n⟩)
  ·exact .inr (.inr (r.keep k fun _ _ _=>rfl))
def Sl.out:Sl->Sl
 | .own x=> .bor x.pv
 | .ino x=> .bor x.pv
 | .ini _ _=> .no
 | .dol _ _=> .no
 | .als _ _=> .no
 | s=>s
def capP (own:List Str) (caps:List (Str × Nat)) (ps:PSt):PSt:=List.replicate own.length .no ++ caps.map fun p=>((ps[p.2]?).getD .no).out
theorem RepS.caps {c:Fr} {ow:Ows} (R:RepS K G c H ow ps σ) (own:List Str) (caps:List (Str × Nat)):RepF K G (fun p=>H p ≠ none) H (av c ow) (capP own caps ps) (capS own caps σ):=by
 refine ⟨by simp [capP,capS],fun i s o e1 e2=> ?_⟩
 unfold capP at e1
 unfold capS at e2
 rcases Nat.lt_or_ge i own.length with h | h
 ·rw [List.getElem?_append_left (by simpa using h),List.getElem?_replicate,if_pos h] at e1
  cases e1
  exact True.intro
 ·rw [List.getElem?_append_right (by simpa using h),List.length_replicate,List.getElem?_map] at e1 e2
  cases ep:caps[i - own.length]? with
  | none=>rw [ep] at e1; cases e1
  | some p =>
   rw [ep] at e1 e2
   have e1:((ps[p.2]?).getD .no).out=s:=Option.some.inj e1
   have e2:(σ[p.2]?).getD none=o:=Option.some.inj e2
   cases eq:ps[p.2]? with
   | none=>rw [eq] at e1; subst e1; exact True.intro
   | some t =>
    obtain ⟨o',eo,q⟩:=R.get eq
    rw [eq] at e1; rw [eo] at e2
    have e2:o'=o:=e2
    subst e2
    subst e1
    cases t with
    | no=>exact True.intro
    | v w=>obtain ⟨_,v,e,r⟩:=q; exact ⟨v,e,r⟩
    | own x=>obtain ⟨p,_,e,r⟩:=q; obtain ⟨o',eo,_⟩:=r.at; exact ⟨_,e,.inr (.inl ⟨x,p,rfl,rfl,r,by show H p ≠ none; rw [eo]; simp⟩)⟩
    | ino x=>obtain ⟨_,_,p,e,_,r⟩:=q; obtain ⟨o',eo,_⟩:=r.at; exact ⟨_,e,.inr (.inl ⟨x,p,rfl,rfl,r,by show H p ≠ none; rw [eo]; simp⟩)⟩
    | ini k xs=>exact True.intro
    | dol ks xss=>exact True.intro
    | als d j=>exact True.intro
    | bor w =>
     obtain ⟨_,v,e,r⟩:=q
     refine ⟨v,e,?_⟩
     rcases r with r | ⟨x,p,e1,e2,r,_⟩ | r
     ·exact .inl r
     ·obtain ⟨o',eo,_⟩:=r.at
      exact .inr (.inl ⟨x,p,e1,e2,r,by show H p ≠ none; rw [eo]; simp⟩)
     ·exact .inr (.inr (r.mono fun _ _ n=>n))
end
def spG (K:Fg) (G:Pg) (ms:List Bool) (g:List PV->Rx PV):Sp:=fun vs H Q _=> ∃ A ws w,Used H A/\RepM K G H A ms ws vs/\g ws= .ok w/\ ∀ v H',Same H H'->Rep K G H' A w v->Q v H'
section
variable {X:Cx} {G:Pg} {e a b o:Expr} {es:List Expr} {da db:DP} {d:DA} {pos p apos:Pos} {x m:Str} {k:Nat} {ms:List Bool} {g:List PV->Rx PV}
theorem p_fn (h:FnAt X.prog X.w X.K X.mg X.base CX0 k x (spG X.K G ms g)) (hr:Room k X.A) (hg:Gl X x) (ha:JA X G ms (e :: es) d) (hdb:(x == ("__debug__":Str))=false:=by decide)
  (he:starEach (e :: es) X.env=(false,eval e X.env) :: starEach es X.env:=by rfl) (hpl:(backTo pos (starEach es X.env)).any (·.1)=false:=by rfl):JP X G (.Call (.Name x p) (e :: es) [] pos) (dCall g d) :=
 imp (pe_fn (E:=E0) h hr hg pass0 ha hdb he hpl) fun σ H Q ⟨c,ow,ps,w,R,e,q⟩=>by
  obtain ⟨ws,e1,e2⟩:=bind_ok e
  exact ⟨c,ow,ps,ws,R,e1,fun vs H' s r=>⟨_,ws,w,(R.grow s).used,r,e2,fun v H2 s2 r2=>q v H2 (s.trans s2) r2⟩⟩
theorem zip_none {f:Str}: ∀ {ns:List Str} {vs:List V},f ∉ ns->(ns.zip vs).lookup f=none
 | [],vs,_=>rfl
 | n :: ns,[],_=>rfl
 | n :: ns,u :: vs,h=>by
  have h1:(f == n)=false:=by
   have:f ≠ n:=fun z=>h (by rw [z]; exact List.mem_cons_self)
   simpa using this
  rw [List.zip_cons_cons,List.lookup_cons,h1]
  exact zip_none fun z=>h (List.mem_cons_of_mem _ z)
structure MtOk (P:Program) (w:World) (K:Fg) (mg:Str->Option Value) (base:Bs) (G:Pg) (k:Nat) (m:Str) (ms:List Bool) (tab:List (Nat × Nat)) (g:Nat->List PV->Rx PV):Prop where
 all: ∀ c f,tab.lookup c=some f->MethAt P w K mg base CX0 k (G.cA c) m (spG K G (false :: ms) (g f))/\m ∉ G.fN c
def dMeth (tab:List (Nat × Nat)) (g:Nat->List PV->Rx PV) (d:DP) (r:DA):DP:=fun ps=>(d ps).bind fun x=>match x with
 | .obj c xs=>(match tab.lookup c with | some f=>(r ps).bind fun ws=>g f (.obj c xs :: ws) | none=> .bad)
 | _=> .bad
theorem meth_of {tab:List (Nat × Nat)} {g:Nat->List PV->Rx PV} (h:MtOk X.prog X.w X.K X.mg X.base G k m ms tab g) {σ :L2.St} {H:Hp} {Q:VK} (hq:tPv X.K G (dMeth tab g da d) σ H Q) :
  tMethD (ι :={ q:Nat × Nat // tab.lookup q.1=some q.2 }) (fun i=>G.cA i.1.1) m (fun i=>spG X.K G (false :: ms) (g i.1.2)) E0 (tPv X.K G da) (tPa X.K G ms d) σ H Q:=by
 obtain ⟨c,ow,ps,w,R,e,q⟩:=hq
 obtain ⟨x,e1,e2⟩:=bind_ok e
 refine ⟨c,ow,ps,x,R,e1,fun v H' s r=> ?_⟩
 cases x with
 | obj kc xs =>
  have e2:(match tab.lookup kc with | some f=>(d ps).bind fun ws=>g f (.obj kc xs :: ws) | none=> .bad)= .ok w:=e2
  split at e2
  ·rename_i f hf
   obtain ⟨ws,e3,e4⟩:=bind_ok e2
   obtain ⟨a,dx,vs,ev,hH,hl,na,rs⟩:=id r
   refine ⟨⟨(kc,f),hf⟩,a,dx,_,ev,hH,zip_none (h.all kc f hf).2,c,ow,ps,ws,R.grow s,e3,fun vs2 H2 s2 r2=> ?_⟩
   exact ⟨_,.obj kc xs :: ws,w,((R.grow s).grow s2).used,⟨_,_,_,_,rfl,rfl,by rw [if_neg Bool.false_ne_true]; exact r.same s2,r2⟩,e4,fun v3 H3 s3 r3=>q v3 H3 ((s.trans s2).trans s3) r3⟩
  ·cases e2
 | _=>cases e2
theorem p_meth {tab:List (Nat × Nat)} {g:Nat->List PV->Rx PV} {pl:Sem Bool} (h:MtOk X.prog X.w X.K X.mg X.base G k m ms tab g) (hr:Room k X.A) (ho:JP X G o da) (ha:JA X G ms (e :: es) d)
  (hst:starEach (e :: es) X.env=(false,eval e X.env) :: starEach es X.env:=by rfl) (hpl:(backTo pos (starEach es X.env)).any (·.1)=false:=by rfl)
  (ht:eval (.Call (.Attribute o m apos) (e :: es) [] pos) X.env=(do
   let ov <- eval o X.env
   standAt apos.atName
   let (f,first) <- holding [ov] (getMethod ov m pl)
   callWith pos f first (backTo pos (starEach (e :: es) X.env)) (backToKw pos (keywordEach [] X.env))):=by rfl):JP X G (.Call (.Attribute o m apos) (e :: es) [] pos) (dMeth tab g da d) :=
 imp (pe_methD (ι :={ q:Nat × Nat // tab.lookup q.1=some q.2 }) (pl:=pl) ho (fun i=>(h.all i.1.1 i.1.2 i.2).1) hr pass0 ha hst hpl ht) fun _ _ _=>meth_of h
theorem p_meth0 {tab:List (Nat × Nat)} {g:Nat->List PV->Rx PV} {pl:Sem Bool} (h:MtOk X.prog X.w X.K X.mg X.base G k m [] tab g) (hr:Room k X.A) (ho:JP X G o da)
  (ht:eval (.Call (.Attribute o m apos) [] [] pos) X.env=(do
   let ov <- eval o X.env
   standAt apos.atName
   let (f,first) <- holding [ov] (getMethod ov m pl)
   callWith pos f first (backTo pos (starEach [] X.env)) (backToKw pos (keywordEach [] X.env))):=by rfl):JP X G (.Call (.Attribute o m apos) [] [] pos) (dMeth tab g da dNil) :=
 imp (pe_methD0 (ι :={ q:Nat × Nat // tab.lookup q.1=some q.2 }) (pl:=pl) ho (fun i=>(h.all i.1.1 i.1.2 i.2).1) hr pass0 ht) fun σ H Q hq=>by
  obtain ⟨c,ow,ps,x,R,e1,f⟩:=meth_of h hq
  refine ⟨c,ow,ps,x,R,e1,fun v H' s r=> ?_⟩
  obtain ⟨i,a,dx,fs,e2,e3,e4,c',ow',ps',ws,R',e5,f2⟩:=f v H' s r
  have:ws=[]:=by cases e5; rfl
  subst this
  exact ⟨i,a,dx,fs,e2,e3,e4,f2 [] H' (Same.refl H') ⟨rfl,rfl⟩⟩
def dNew (c:Nat) (d:DA):DP:=fun ps=>(d ps).bind fun ws=> .ok (.obj c ws)
theorem p_new {c:Nat} (h:NewAt X.prog X.w X.K X.mg X.base x (G.cA c) (G.fN c)) (hr:Room (k + 2) X.A) (hg:Gl X x) (ha:JA X G ms (e :: es) d) (hl:(G.fN c).length=ms.length) (hm:ms.all (! ·)=true:=by rfl) (hdb:(x == ("__debug__":Str))=false:=by decide)
  (he:starEach (e :: es) X.env=(false,eval e X.env) :: starEach es X.env:=by rfl) (hpl:(backTo pos (starEach es X.env)).any (·.1)=false:=by rfl):JP X G (.Call (.Name x p) (e :: es) [] pos) (dNew c d) :=
 imp (pe_new h hr hg ha hdb he hpl) fun σ H Q ⟨f,ow,ps,w,R,e,q⟩=>by
  obtain ⟨ws,e1,e2⟩:=bind_ok e
  cases e2
  refine ⟨f,ow,ps,ws,R,e1,fun vs H' s r=>⟨by rw [r.len.2,hl],fun y dy n1 n2 ne=> ?_⟩⟩
  have sn:=newI_same (C:=G.cA c) (fs:=(G.fN c).zip vs) n1 n2
  exact q _ _ (s.trans sn) ⟨y,dy,vs,rfl,newI_at,by rw [r.len.2,hl],fun z=>(R.grow s).used y z n1,(r.reps' hm).same sn⟩
theorem p_new0 {c:Nat} (M:Mk0 X.K (G.cA c)) (hf:G.fN c=[]) (hg:Gl X x) (hm:X.mg x=some (.ref (G.cA c))) (hdb:(x == ("__debug__":Str))=false:=by decide):JP X G (.Call (.Name x p) [] [] pos) (dC (.obj c [])) :=
 imp (pe_make00 M hg hm hdb) fun σ H Q ⟨f,ow,ps,w,R,e,q⟩=>by
  cases e
  intro y dy n1 n2 ne
  have sn:=newI_same (C:=G.cA c) (fs:=[]) n1 n2
  exact q _ _ sn ⟨y,dy,[],rfl,by rw [List.zip_nil_right]; exact newI_at,by rw [hf]; rfl,fun z=>R.used y z n1,rfl⟩
abbrev DG:=PV->PSt->Rx PSt
def tG (K:Fg) (G:Pg) (g:DG):TG:=fun v σ H Q=> ∃ (c:Fr) (ow:Ows) (ps:PSt) (w:PV) (ps':PSt),RepS K G c H ow ps σ /\Rep K G H (av c ow) w v/\g w ps= .ok ps' /\
 ∀ σ' ow',RepS K G c H ow' ps' σ'->(∀ a,av c ow' a->av c ow a)->Q σ' H
abbrev JG (X:Cx) (G:Pg) (t:Expr) (g:DG):Prop:=PG X t (tG X.K G g)
theorem impG {e:Expr} {t t':TG} (h:PG X e t) (f: ∀ v σ H Q,t' v σ H Q->t v σ H Q):PG X e t':=fun pins s σ H v u Q I r q=>h pins s σ H v u Q I r (f v σ H Q q)
def gSet (i:Nat):DG:=fun w ps=> .ok (ps.set i (.v w))
theorem g_name {i:Nat} (hN:X.N.Nodup) (hi:X.N[i]? =some x) (hx:Loc X.env.scope x) (hf:X.fn x=true\/X.env.scope.names.lookup x=some .local:=by first | exact .inl rfl | exact .inr rfl | assumption):JG X G (.Name x pos) (gSet i) :=
 impG (pg_name hN hi hx hf) fun v σ H Q ⟨c,ow,ps,w,ps',R,r,e,q⟩=>by
  cases e
  exact q _ _ (R.setV r) av_off
def gNilD:List PV->PSt->Rx PSt
 | [],ps=> .ok ps
 | _ :: _,_=> .bad
def gConsD (g:DG) (gs:List PV->PSt->Rx PSt):List PV->PSt->Rx PSt
 | w :: ws,ps=>(g w ps).bind fun ps'=>gs ws ps'
 | [],_=> .bad
def gTupD (n:Nat) (gs:List PV->PSt->Rx PSt):DG:=fun w ps=>match w with | .tup ws=>if ws.length=n then gs ws ps else .bad | _=> .bad
end
def Wk (K:Fg) (G:Pg) (c:Fr) (J:It) (H:Hp) (A:Av) (vs:List V):Prop:= ∀ H' A',Kp K G H A H' A'->SmL c H' ->
 (∀ (i:Nat) (x:V),vs[i]? =some x->J.go i H'/\ ∀ y H2,J.yld i H' y H2->H2=H'/\y=x)/\J.stop vs.length H'
def WkS (J:It) (H:Hp) (vs:List V):Prop:= ∀ H',Same H H'->(∀ (i:Nat) (x:V),vs[i]? =some x->J.go i H'/\ ∀ y H2,J.yld i H' y H2->H2=H'/\y=x)/\J.stop vs.length H'
def tPi (K:Fg) (G:Pg) (d:DA):TI:=fun σ H R=> ∃ (c:Fr) (ow:Ows) (ps:PSt) (ws:List PV),RepS K G c H ow ps σ /\d ps= .ok ws/\ ∀ J H' vs,Same H H'->Reps K G H' (av c ow) ws vs->Wk K G c J H' (av c ow) vs->R J H'
def tPs (K:Fg) (G:Pg) (d:DA):TI:=fun σ H R=> ∃ (c:Fr) (ow:Ows) (ps:PSt) (ws:List PV),RepS K G c H ow ps σ /\d ps= .ok ws/\ ∀ J H' vs,Same H H'->Reps K G H' (av c ow) ws vs->WkS J H' vs->R J H'
abbrev JI (X:Cx) (G:Pg) (tg it:Expr) (d:DA):Prop:=PI X tg it (tPi X.K G d)
abbrev JIs (X:Cx) (G:Pg) (tg it:Expr) (d:DA):Prop:=PI X tg it (tPs X.K G d)
section
variable {X:Cx} {G:Pg} {e a b o tg:Expr} {es:List Expr} {da db:DP} {d:DA} {pos p apos:Pos} {x m:Str} {k:Nat} {ms:List Bool}
theorem impI {it:Expr} {t t':TI} (h:PI X tg it t) (f: ∀ σ H R,t' σ H R->t σ H R):PI X tg it t':=fun pins s σ H R I q=>h pins s σ H R I (f σ H R q)
def dItems (d:DP):DA:=fun ps=>(d ps).bind fun x=>match x with | .lst xs=> .ok xs | _=> .bad
def dItemsT (d:DP):DA:=fun ps=>(d ps).bind fun x=>match x with | .tup xs=> .ok xs | _=> .bad
theorem it_tup {K:Fg} {a:Addr} {vs:List V} {H:Hp} (h:SqT K H a vs):(∀ (i:Nat) (x:V),vs[i]? =some x->(Itt K a).go i H/\ ∀ y H2,(Itt K a).yld i H y H2->H2=H/\y=x)/\(Itt K a).stop vs.length H :=
 ⟨fun i x e=>⟨⟨vs,x,h,e⟩,fun y H2 ⟨e2,hy⟩=>⟨e2,Option.some.inj ((hy vs h).symm.trans e)⟩⟩,⟨vs,h,Nat.le_refl _⟩⟩
def dItemsB (i:Nat):DA:=fun ps=>match ps[i]? with | some (.bor (.lst xs))=> .ok xs | _=> .bad
theorem i_topT {x:Str} {t:Addr} {ws:List PV} {vs:List V} (T:TopT X.K t vs) (hg:Gl X x) (hm:X.mg x=some (.ref t)) (hr: ∀ H A,Reps X.K G H A ws vs) (hd:(x == ("__debug__":Str))=false:=by decide):JI X G tg (.Name x pos) (dItemsT (dC (.tup ws))) :=
 impI (pi_tup (pe_globR hg hm hd)) fun σ H R ⟨c,ow,ps,ws',S,e,q⟩=>by
  cases e
  exact ⟨t,rfl,⟨vs,T.sq H⟩,q _ H vs (Same.refl H) (hr H _) fun H2 A2 k _=>it_tup (T.sq H2)⟩
theorem s_of_i (h:JI X G tg e d):JIs X G tg e d:=impI h fun σ H R ⟨c,ow,ps,ws,S,e,q⟩=>⟨c,ow,ps,ws,S,e,fun J H' vs s rs w=>q J H' vs s rs fun H2 k=>w H2 _ (Kp.of_same k) (S.grow (s.trans k)).same⟩
def rngP (lo:Int) (n:Nat):List PV:=(List.range n).map fun (i:Nat)=>PV.int (lo + (i:Int))
theorem rng_reps {K:Fg} {H:Hp} {A:Av} {lo:Int} {n:Nat}:Reps K G H A (rngP lo n) (rngV lo n):=by
 unfold rngP rngV
 generalize List.range n=l
 induction l with
 | nil=>rfl
 | cons x xs ih=>exact ⟨_,_,rfl,rfl,ih⟩
theorem it_rng {lo:Int} {n:Nat} {H:Hp}:(∀ (i:Nat) (x:V),(rngV lo n)[i]? =some x->(Itr lo n).go i H/\ ∀ y H2,(Itr lo n).yld i H y H2->H2=H/\y=x)/\(Itr lo n).stop (rngV lo n).length H:=by
 refine ⟨fun i x e=> ?_,by show n<=(rngV lo n).length; rw [rngV_len]; exact Nat.le_refl _⟩
 have h:=(List.getElem?_eq_some_iff.mp e).1
 rw [rngV_len] at h
 rw [rngV_at h] at e
 exact ⟨h,fun y H2 ⟨e2,hy⟩=>⟨e2,hy.trans (Option.some.inj e)⟩⟩
def dRng1 (d:DA):DA:=fun ps=>(d ps).bind fun ws=>match ws with | [.int j]=>if -(2 ^ 62)<=j/\j < 2 ^ 62 then .ok (rngP 0 j.toNat) else .bad | _=> .bad
theorem i_rng1 {ea:Expr} (hg:Gl X "range") (hm:X.mg "range"=none) (ha:JA X G [false] [ea] d) (hs:starEach [ea] X.env=[(false,eval ea X.env)]:=by rfl):JI X G tg (.Call (.Name "range" p) [ea] [] pos) (dRng1 d) :=
 impI (pi_range1 hg hm ha hs) fun σ H R ⟨c,ow,ps,ws,S,e,q⟩=>by
  obtain ⟨xs,e1,e2⟩:=bind_ok e
  refine ⟨c,ow,ps,xs,S,e1,fun vs H' s r=> ?_⟩
  split at e2
  ·split at e2
   ·rename_i j hj
    cases e2
    obtain ⟨v,vr,rfl,r1,rfl⟩:=RepM.reps' r rfl
    exact ⟨j,by rw [show v=V.int j from r1],hj.1,hj.2,q _ H' _ s rng_reps fun _ _ _ _=>it_rng⟩
   ·cases e2
  ·cases e2
abbrev JTs (X:Cx) (G:Pg) (ifs:List Expr) (d:DT):Prop:=PTs X ifs (tPt X.K G d)
theorem ts_one {c:Expr} {dt:DT} (h:JT X G c dt):JTs X G [c] dt:=pts_one h
def compD (g:DG) (dt:DT) (de:DP):List PV->PSt->Rx (List PV)
 | [],_=> .ok []
 | x :: xs,ps=>(g x ps).bind fun ps1=>(dt ps1).bind fun b=>if b=true then (de ps1).bind fun y=>(compD g dt de xs ps1).bind fun r=> .ok (y :: r) else compD g dt de xs ps1
def dComp (own:List Str) (caps:List (Str × Nat)) (di:DA) (g:DG) (dt:DT) (de:DP):DA:=fun ps=>(di ps).bind fun ws=>if ws.length<=sizeLine then compD g dt de ws (capP own caps ps) else .bad
theorem comp_go {own:List Str} {caps:List (Str × Nat)} {di:DA} {g:DG} {dt:DT} {de:DP} (gk: ∀ (w:PV) (ps ps':PSt),g w ps= .ok ps'-> ∀ (i:Nat) (x:Ow),ps'[i]? =some (Sl.own x)->ps[i]? =some (Sl.own x)) {σ :L2.St} {H:Hp} {Q:VK}
  (h:tPn X.K G (dComp own caps di g dt de) σ H Q):tComp own caps (tPs X.K G di) (tG X.K G g) (tPt X.K G dt) (tPv X.K G de) σ H Q:=by
 obtain ⟨c,ow,ps,rs,R,e,q⟩:=h
 obtain ⟨ws,e1,e2⟩:=bind_ok e
 split at e2
 ·rename_i hsz
  refine ⟨c,ow,ps,ws,R,e1,fun J H1 vs s1 rep wk=> ?_⟩
  intro D hD
  have R1:=R.grow s1
  have hD0:H D=none:=s1.free hD
  let AD:Av:=fun a=>av c ow a\/a=D
  let B1:Av:=fun p=>H1 p ≠ none
  have usedB: ∀ {H':Hp},Same H1 H'->Used H' B1:=fun {H'} s a z=>by
   cases e3:H1 a with
   | none=>exact absurd e3 z
   | some o=>rw [s _ _ e3]; simp
  have usedD: ∀ {H':Hp},Same H1 H'->H' D ≠ none->Used H' AD:=by
   intro H' s hd a z
   rcases z with z | z
   ·cases e3:H1 a with
    | none=>exact absurd e3 (R1.used a z)
    | some o=>rw [s _ _ e3]; simp
   ·rw [z]; exact hd
  refine ⟨fun i m σ' H'=> ∃ (ps':PSt) (ys:List PV) (us:List V) (rest:List PV),m=ws.length - i/\i<=ws.length/\RepF X.K G B1 H' AD ps' σ'/\(∀ (j:Nat) (x:Ow),ps'[j]? ≠ some (Sl.own x))/\Same H1 H'/\Reps X.K G H' AD ws vs/\H' D=some (.lst us)/\Reps X.K G H' AD ys us/\ys.length<=i /\
    compD g dt de (ws.drop i) ps'= .ok rest/\ys ++ rest=rs,?_,?_⟩
  ·have sD:Same H1 (upd H1 D (.lst [])):=same_upd hD _
   have k:Kp X.K G H1 (av c ow) (upd H1 D (.lst [])) AD:=Kp.take hD sD fun a z=>z.symm
   have F0:=R1.caps own caps
   refine ⟨_,capP own caps ps,[],[],rs,rfl,Nat.zero_le _,⟨F0.len,fun i s o h1 h2=> ?_⟩,fun j x z=> ?_,sD,k.reps rep,upd_same,rfl,Nat.le_refl _,e2,rfl⟩
   ·have q:=F0.slot i s o h1 h2
    cases s with
    | no=>exact True.intro
    | v w=>obtain ⟨v,e,r⟩:=q; exact ⟨v,e,k.rep r⟩
    | own x=>exact q.elim
    | ino x=>exact q.elim
    | ini k xs=>exact q.elim
    | dol ks xss=>exact q.elim
    | als d j=>exact q.elim
    | bor w =>
     obtain ⟨v,e,r⟩:=q
     refine ⟨v,e,?_⟩
     rcases r with r | ⟨x,p,e1,e2,r,n⟩ | r
     ·exact .inl (k.rep r)
     ·obtain ⟨o',eo,_⟩:=r.at
      exact .inr (.inl ⟨x,p,e1,e2,r.keep k (by rw [sD _ _ eo,eo]),n⟩)
     ·exact .inr (.inr (r.keep k fun p _ n=>by
       cases e:H1 p with
       | none=>exact absurd e n
       | some o=>exact sD _ _ e))
   ·have hl:j < (capP own caps ps).length:=(List.getElem?_eq_some_iff.mp z).1
    have hl2:j < (capS own caps σ).length:=by rw [<- F0.len]; exact hl
    exact (F0.slot j _ _ z (List.getElem?_eq_getElem hl2)).elim
  ·rintro i m σ' H' ⟨ps',ys,us,rest,rfl,hi',F,no,sm,rep',hH,ry,hy,ec,er⟩
   have lv:=rep'.len
   have wk':=wk H' sm
   rcases Nat.lt_or_ge i ws.length with hlt | hge
   ·right
    have hdr:ws.drop i=ws[i] :: ws.drop (i + 1):=List.drop_eq_getElem_cons hlt
    rw [hdr] at ec
    have hgi:ws[i]? =some ws[i]:=List.getElem?_eq_getElem hlt
    obtain ⟨v,hv,rv⟩:=rep'.get hgi
    obtain ⟨go,yl⟩:=wk'.1 i v hv
    refine ⟨go,_,fun _ _ h=>h,fun y H2 hyl=> ?_⟩
    obtain ⟨rfl,rfl⟩:=yl y H2 hyl
    obtain ⟨ps1,c1,ec⟩:=bind_ok ec
    obtain ⟨bb,c2,ec⟩:=bind_ok ec
    have u':Used H2 AD:=usedD sm (by rw [hH]; simp)
    have S':=F.toS u' (usedB sm)
    have kav:Kp X.K G H2 AD H2 (av ⟨H2,AD,B1,none⟩ ow0):=Kp.weak fun a z=>av0 a z
    refine ⟨⟨H2,AD,B1,none⟩,ow0,ps',ws[i],ps1,S',kav.rep rv,c1,fun σ3 ow3 S3 wk3=> ?_⟩
    have no1: ∀ (j:Nat) (x:Ow),ps1[j]? ≠ some (Sl.own x):=fun j x z=>no j x (gk _ _ _ c1 j x z)
    have eow:ow3=ow0:=by
     funext j
     cases q:ow3 j with
     | none=>rfl
     | some p'=>exact absurd (S3.fresh j p' q) (S3.a0 p' (av0 p' (wk3 p' (.inr ⟨j,q⟩))))
    subst eow
    refine ⟨⟨H2,AD,B1,none⟩,ow0,ps1,bb,S3,c2,fun H4 s4=> ?_⟩
    have S4:=S3.grow s4
    have aft: ∀ {H5:Hp},Same H2 H5->RepF X.K G B1 H5 AD ps1 σ3:=fun s5=>RepF.ofS (S3.grow s5) rfl
    split at ec
    ·rename_i hb
     subst hb
     refine iteT ?_
     obtain ⟨yw,c3,ec⟩:=bind_ok ec
     obtain ⟨r',c4,ec⟩:=bind_ok ec
     cases ec
     refine ⟨⟨H2,AD,B1,none⟩,ow0,ps1,yw,S4,c3,fun yv H5 s5 r5=> ?_⟩
     have s25:=s4.trans s5
     have hH5:H5 D=some (.lst us):=s25 _ _ hH
     have r5':Rep X.K G H5 AD yw yv:=(Kp.weak fun a z=>Or.inl z).rep r5
     have mD:Mt (HO.lst us):=And.intro (fun _ z=>by cases z) (fun _ _ z=>by cases z)
     have kD: ∀ u,Kp X.K G H5 AD (upd H5 D u) AD:=fun u=>Kp.own (.inr rfl) hH5 mD
     have F5:=aft s25
     refine ⟨us,hH5,?_,ws.length - (i + 1),by omega,ps1,ys ++ [yw],us ++ [yv],r',rfl,hlt,⟨F5.len,fun j s o h1 h2=> ?_⟩,no1,fun b u hb=> ?_,(kD _).reps (rep'.same s25),upd_same,(kD _).reps ((ry.same s25).snoc r5'),by rw [List.length_append]; simp; omega,c4,by rw [<- er,List.append_assoc]; rfl⟩
     ·rw [<- ry.len]; omega
     ·have q:=F5.slot j s o h1 h2
      cases s with
      | no=>exact True.intro
      | v w=>obtain ⟨v,e,r⟩:=q; exact ⟨v,e,(kD _).rep r⟩
      | own x=>exact q.elim
      | ino x=>exact q.elim
      | ini k xs=>exact q.elim
      | dol ks xss=>exact q.elim
      | als d j=>exact q.elim
      | bor w =>
       obtain ⟨v,e,r⟩:=q
       refine ⟨v,e,?_⟩
       rcases r with r | ⟨x,p',e1',e2',r,n⟩ | r
       ·exact .inl ((kD _).rep r)
       ·exact .inr (.inl ⟨x,p',e1',e2',r.keep (kD _) (upd_ne (by intro z; subst z; exact n hD)),n⟩)
       ·exact .inr (.inr (r.keep (kD _) fun p' n _=>upd_ne (by intro z; subst z; exact n hD)))
     ·rw [upd_ne (ne_of_none hb hD)]; exact s25 _ _ (sm _ _ hb)
    ·rename_i hb
     have:bb=false:=by simpa using hb
     subst this
     exact iteF ⟨ws.length - (i + 1),by omega,ps1,ys,us,rest,rfl,hlt,aft s4,no1,sm.trans s4,rep'.same s4,s4 _ _ hH,ry.same s4,by omega,ec,er⟩
   ·left
    have:i=ws.length:=Nat.le_antisymm hi' hge
    subst this
    rw [List.drop_length] at ec
    cases ec
    rw [List.append_nil] at er
    subst er
    refine ⟨by rw [lv]; exact wk'.2,q D us H' (s1.trans sm) hD0 hH ry⟩
 ·cases e2
end
section
variable {X:Cx} {G:Pg} {e a b o tg:Expr} {es:List Expr} {da db:DP} {d:DA} {dm:DM} {dma:DMA} {pos p apos cpos:Pos} {x m:Str} {k i:Nat} {ms:List Bool}
def mNil:DMA:=fun ps=> .ok ([],ps)
def mCons (a:DM) (r:DMA):DMA:=fun ps=>(a ps).bind fun x=>(r x.2).bind fun y=> .ok (x.1 :: y.1,y.2)
def mTup (d:DMA):DM:=fun ps=>(d ps).bind fun x=>if x.1.length<=1000 then .ok (.tup x.1,x.2) else .bad
def mPop (i:Nat):DM:=fun ps=>match ps[i]? with
 | some (.own (.lst xs))=>(match xs.getLast? with | some w=> .ok (w,ps.set i (.own (.lst xs.dropLast))) | none=> .bad)
 | _=> .bad
theorem Reps.last {K:Fg} {H:Hp} {A:Av} {ws:List PV} {vs:List V} {w:PV} (r:Reps K G H A ws vs) (e:ws.getLast? =some w): ∃ v,vs[vs.length - 1]? =some v/\Rep K G H A w v:=by
 rw [List.getLast?_eq_getElem?] at e
 obtain ⟨v,h1,h2⟩:=r.get e
 exact ⟨v,by rw [<- r.len]; exact h1,h2⟩
theorem Reps.dropLast {K:Fg} {H:Hp} {A:Av} {ws:List PV} {vs:List V} (r:Reps K G H A ws vs):Reps K G H A ws.dropLast vs.dropLast:=by
 rw [List.dropLast_eq_take,List.dropLast_eq_take,r.len]
 exact r.take _
def mApp (i:Nat) (d:DM):DM:=fun ps=>match ps[i]? with
 | some (.own (.lst _))=>(d ps).bind fun x=>(match x.2[i]? with | some (.own (.lst xs))=>if xs.length < sizeLine then .ok (.non,x.2.set i (.own (.lst (xs ++ [x.1])))) else .bad | _=> .bad)
 | _=> .bad
def mFrz (i:Nat):DM:=fun ps=>match ps[i]? with
 | some (.own y)=> .ok (y.pv,ps.set i (.v y.pv))
 | some (.v w)=> .ok (w,ps)
 | _=> .bad
def mCall (f:List PV->Rx PV) (d:DMA):DM:=fun ps=>(d ps).bind fun x=>(f x.1).bind fun w=> .ok (w,x.2)
end
theorem av_on {c:Fr} {ow:Ows} {i:Nat} {p:Addr}: ∀ a,av c (onW ow i p) a->a=p\/av c ow a:=by
 intro a h
 rcases h with h | ⟨j,h⟩
 ·exact .inr (.inl h)
 ·unfold onW at h
  split at h
  ·cases h; exact .inl rfl
  ·exact .inr (.inr ⟨j,h⟩)
inductive Rs where
 | nx (ps:PSt) | ret (w:PV) | retn (xs:List PV) | reti (w:PV) (x:Ow) | brk (ps:PSt) | cnt (ps:PSt) | bad | exc (c:Nat)
abbrev DS:=PSt->Rs
def EndsAt (K:Fg) (G:Pg) (c:Fr) (H:Hp) (A:Av) (D:Ends):Rs->Prop
 | .nx ps=> ∀ σ H' ow,RepS K G c H' ow ps σ ->Kp K G H A H' (av c ow)->D.nx σ H'
 | .ret w=> ∀ v H',SmL c H'->Rep K G H' c.A0 w v->D.rt v H'
 | .reti w x=> ∀ v H' p,SmL c H'->c.lx=some p->RepO K G H' c.A0 x p->Rep K G H' c.A0 w v->D.rt v H'
 | .retn xs=> ∀ p vs H',SmL c H'->c.H0 p=none->H' p=some (.lst vs)->Reps K G H' (fun a=>c.A0 a\/a=p) xs vs->D.rt (.ref p) H'
 | .brk ps=> ∀ σ H' ow,RepS K G c H' ow ps σ ->Kp K G H A H' (av c ow)->D.bk σ H'
 | .cnt ps=> ∀ σ H' ow,RepS K G c H' ow ps σ ->Kp K G H A H' (av c ow)->D.ct σ H'
 | .bad=>False
 | .exc _=>False
theorem EndsAt.mono {K:Fg} {G:Pg} {c:Fr} {H H1:Hp} {A A1:Av} {D:Ends} {r:Rs} (h:EndsAt K G c H A D r) (k:Kp K G H A H1 A1):EndsAt K G c H1 A1 D r:=by
 cases r with
 | nx ps=>exact fun σ H' ow R k'=>h σ H' ow R (k.trans k')
 | ret w=>exact h
 | retn xs=>exact h
 | reti w x=>exact h
 | brk ps=>exact fun σ H' ow R k'=>h σ H' ow R (k.trans k')
 | cnt ps=>exact fun σ H' ow R k'=>h σ H' ow R (k.trans k')
 | bad=>exact h
 | exc c=>exact h
def tD (K:Fg) (G:Pg) (d:DS):TS:=fun D σ H=> ∃ (c:Fr) (ow:Ows) (ps:PSt),RepS K G c H ow ps σ /\EndsAt K G c H (av c ow) D (d ps)
abbrev JS (X:Cx) (G:Pg) (st:Stmt) (d:DS):Prop:=PS X st (tD X.K G d)
abbrev JSs (X:Cx) (G:Pg) (st:List Stmt) (d:DS):Prop:=PSs X st (tD X.K G d)
theorem impS {X:Cx} {st:Stmt} {t t':TS} (h:PS X st t) (f: ∀ D σ H,t' D σ H->t D σ H):PS X st t':=fun pins s σ H D I q=>h pins s σ H D I (f D σ H q)
theorem impSs {X:Cx} {st:List Stmt} {t t':TS} (h:PSs X st t) (f: ∀ D σ H,t' D σ H->t D σ H):PSs X st t':=fun pins s σ H D I q=>h pins s σ H D I (f D σ H q)
def Rx.st {α :Type}:Rx α ->(α ->Rs)->Rs
 | .ok a,f=>f a
 | .bad,_=> .bad
 | .exc c,_=> .exc c
@[simp] theorem ok_st {α :Type} (a: α) (f: α ->Rs):(Rx.ok a).st f=f a:=rfl
@[simp] theorem bad_st {α :Type} (f: α ->Rs):(Rx.bad:Rx α).st f= .bad:=rfl
@[simp] theorem exc_st {α :Type} (c:Nat) (f: α ->Rs):(Rx.exc c:Rx α).st f= .exc c:=rfl
theorem ends_st {α :Type} {K:Fg} {G:Pg} {c:Fr} {H:Hp} {A:Av} {D:Ends} {m:Rx α} {f: α ->Rs} (h:EndsAt K G c H A D (m.st f)): ∃ a,m= .ok a/\EndsAt K G c H A D (f a):=by
 cases m with
 | ok a=>exact ⟨a,rfl,h⟩
 | bad=>exact h.elim
 | exc c=>exact h.elim
section
variable {X:Cx} {G:Pg} {e a b o tg:Expr} {es:List Expr} {da db:DP} {d:DA} {dm:DM} {ds du:DS} {st:Stmt} {rest:List Stmt} {pos p:Pos} {x m:Str} {k i:Nat}
def sNext:DS:=fun ps=> .nx ps
def sSeq (a b:DS):DS:=fun ps=>match a ps with | .nx ps'=>b ps' | r=>r
theorem ss_nil:JSs X G [] sNext:=impSs pss_nil fun D σ H ⟨c,ow,ps,R,q⟩=>q σ H ow R (Kp.of_same (Same.refl H))
theorem ss_one (h:JS X G st ds):JSs X G [st] ds:=pss_one h
theorem ss_cons (h1:JS X G st ds) (h2:JSs X G rest du):JSs X G (st :: rest) (sSeq ds du):=impSs (pss_cons h1 h2) fun D σ H ⟨c,ow,ps,R,q⟩=>by
 refine ⟨c,ow,ps,R,?_⟩
 unfold sSeq at q
 cases e:ds ps with
 | nx ps'=>rw [e] at q; exact fun σ' H' ow' R' k=>⟨c,ow',ps',R',q.mono k⟩
 | ret w=>rw [e] at q; exact q
 | retn xs=>rw [e] at q; exact q
 | reti w x=>rw [e] at q; exact q
 | brk ps'=>rw [e] at q; exact q
 | cnt ps'=>rw [e] at q; exact q
 | bad=>rw [e] at q; exact q
 | exc c=>rw [e] at q; exact q
def sBrk:DS:=fun ps=> .brk ps
def sCnt:DS:=fun ps=> .cnt ps
def sSet (i:Nat) (d:DP):DS:=fun ps=>(d ps).st fun w=> .nx (ps.set i (.v w))
theorem s_set (hN:X.N.Nodup) (hi:X.N[i]? =some x) (hx:Loc X.env.scope x) (he:JP X G e da) (hs:swapsWith e (some (.Name x p)) pos.line X.env=pure false:=by rfl) (hf:X.fn x=true\/X.env.scope.names.lookup x=some .local:=by first | exact .inl rfl | exact .inr rfl | assumption) :
  JS X G (.Assign [.Name x p] e pos) (sSet i da):=impS (ps_set hN hi hx he hs hf) fun D σ H ⟨c,ow,ps,R,q⟩=>by
 obtain ⟨w,e1,q⟩:=ends_st q
 exact ⟨c,ow,ps,w,R,e1,fun v H' s r=>q _ _ _ ((R.grow s).setV r) ((Kp.of_same s).trans (Kp.weak av_off))⟩
def sSetM (i:Nat) (d:DM):DS:=fun ps=>(d ps).st fun w=> .nx (w.2.set i (.v w.1))
def sOwn (i:Nat) (d:DA):DS:=fun ps=>(d ps).st fun ws=>if i < ps.length then .nx (ps.set i (.own (.lst ws))) else .bad
def sAsg (g:DG) (d:DP):DS:=fun ps=>(d ps).st fun w=>(g w ps).st fun ps'=> .nx ps'
def sExpr (d:DM):DS:=fun ps=>(d ps).st fun w=> .nx w.2
theorem s_expr (he:JM X G e dm) (hs:swapsWith e none pos.line X.env=pure false:=by rfl):JS X G (.Expr e pos) (sExpr dm):=impS (ps_expr he hs) fun D σ H ⟨c,ow,ps,R,q⟩=>by
 obtain ⟨⟨w,ps'⟩,e1,q⟩:=ends_st q
 exact ⟨c,ow,ps,w,ps',R,e1,fun v H' ow' R' k r=>q _ _ _ R' k⟩
def sRet (d:DP):DS:=fun ps=>(d ps).st fun w=> .ret w
theorem s_ret (he:JP X G e da):JS X G (.Return (some e) pos) (sRet da):=impS (ps_ret he) fun D σ H ⟨c,ow,ps,R,q⟩=>by
 obtain ⟨w,e1,q⟩:=ends_st q
 exact ⟨c,ow,ps,w,R,e1,fun v H' s r=>q v H' (R.same.trans s) ((Kp.weak fun a z=>Or.inl z).rep r)⟩
def sRetM (d:DM):DS:=fun ps=>(d ps).st fun w=> .ret w.1
def sRetW (d:DA):DS:=fun ps=>(d ps).st fun xs=> .retn xs
def sRetO (i:Nat):DS:=fun ps=>match ps[i]? with | some (.own (.lst xs))=> .retn xs | _=> .bad
def sRetN:DS:=fun _=> .ret .non
def sIf (t:DT) (a b:DS):DS:=fun ps=>(t ps).st fun x=>if x=true then a ps else b ps
theorem s_if {c:Expr} {a b:List Stmt} {dt:DT} (hc:JT X G c dt) (ha:JSs X G a ds) (hb:JSs X G b du):JS X G (.If c a b pos) (sIf dt ds du):=impS (ps_if hc ha hb) fun D σ H ⟨c,ow,ps,R,q⟩=>by
 obtain ⟨x,e1,q⟩:=ends_st q
 refine ⟨c,ow,ps,x,R,e1,fun H' s=> ?_⟩
 split at q
 ·rename_i hx; subst hx; exact iteT ⟨c,ow,ps,R.grow s,q.mono (Kp.of_same s)⟩
 ·rename_i hx
  have:x=false:=by simpa using hx
  subst this
  exact iteF ⟨c,ow,ps,R.grow s,q.mono (Kp.of_same s)⟩
def forD (g:DG) (body:DS):List PV->PSt->Rs
 | [],ps=> .nx ps
 | w :: ws,ps=>(g w ps).st fun ps1=>match body ps1 with
  | .nx ps2=>forD g body ws ps2
  | .cnt ps2=>forD g body ws ps2
  | .brk ps2=> .nx ps2
  | r=>r
def sFor (di:DA) (g:DG) (body:DS):DS:=fun ps=>(di ps).st fun ws=>forD g body ws ps
theorem s_for {iter:Expr} {body:List Stmt} {di:DA} {g:DG} (hp:PassesOwn (model X.prog X.w) X.A X.env X.xe) (hc:X.calm=true) (hi:JI X G tg iter di) (hg:JG X G tg g) (hb:JSs X G body ds)
  (hs: ∀ x,foldedSetIterable iter X.env x=pure x:=by intro _; rfl):JS X G (.For tg iter body [] pos) (sFor di g ds):=impS (ps_for hp hc hi hg hb hs) fun D σ H ⟨c,ow,ps,R,q⟩=>by
 obtain ⟨ws,e1,q⟩:=ends_st q
 refine ⟨c,ow,ps,ws,R,e1,fun J H1 vs s1 rep wk=> ?_⟩
 refine ⟨fun i m σ' H'=> ∃ ow' ps',m=ws.length - i/\i<=ws.length/\RepS X.K G c H' ow' ps' σ'/\Kp X.K G H1 (av c ow) H' (av c ow')/\EndsAt X.K G c H' (av c ow') D (forD g ds (ws.drop i) ps'),
  ⟨_,ow,ps,rfl,Nat.zero_le _,R.grow s1,Kp.of_same (Same.refl _),q.mono (Kp.of_same s1)⟩,?_⟩
 rintro i m σ' H' ⟨ow',ps',rfl,hi',R',k',q'⟩
 obtain ⟨wg,wst⟩:=wk H' _ k' R'.same
 rcases Nat.lt_or_ge i ws.length with hlt | hge
 ·right
  rw [List.drop_eq_getElem_cons hlt] at q'
  obtain ⟨v,hv,rv⟩:=(k'.reps rep).get (List.getElem?_eq_getElem hlt)
  obtain ⟨go,yl⟩:=wg i v hv
  refine ⟨go,_,fun _ _ h=>h,fun y H2 hyl=> ?_⟩
  obtain ⟨rfl,rfl⟩:=yl y H2 hyl
  obtain ⟨ps1,c1,q'⟩:=ends_st q'
  refine ⟨c,ow',ps',ws[i],ps1,R',rv,c1,fun σ3 ow3 R3 wk3=> ?_⟩
  have k3:Kp X.K G H1 (av c ow) H2 (av c ow3):=k'.trans (Kp.weak wk3)
  have q3:=q'.mono (Kp.weak (K:=X.K) (G:=G) (H:=H2) wk3)
  refine ⟨c,ow3,ps1,R3,?_⟩
  cases er:ds ps1 with
  | nx ps2 =>
   rw [er] at q3
   exact fun σ4 H4 ow4 R4 k4=>⟨ws.length - (i + 1),by omega,ow4,ps2,rfl,hlt,R4,k3.trans k4,EndsAt.mono q3 k4⟩
  | cnt ps2 =>
   rw [er] at q3
   exact fun σ4 H4 ow4 R4 k4=>⟨ws.length - (i + 1),by omega,ow4,ps2,rfl,hlt,R4,k3.trans k4,EndsAt.mono q3 k4⟩
  | brk ps2=>rw [er] at q3; exact q3
  | ret w=>rw [er] at q3; exact q3
  | retn xs=>rw [er] at q3; exact q3
  | reti w x=>rw [er] at q3; exact q3
  | bad=>rw [er] at q3; exact q3
  | exc c=>rw [er] at q3; exact q3
 ·left
  have:i=ws.length:=Nat.le_antisymm hi' hge
  subst this
  rw [List.drop_length] at q'
  exact ⟨by rw [rep.len]; exact wst,q' σ' H' ow' R' (Kp.of_same (Same.refl _))⟩
end
def inP (ms:List Bool) (n:Nat) (ws:List PV):PSt:=(List.zipWith (fun m w=>if m=true then Sl.bor w else Sl.v w) ms ws) ++ List.replicate (n - ws.length) .no
def runD (ms:List Bool) (n:Nat) (d:DS) (ws:List PV):Rx PV:=if ws.length=ms.length then (match d (inP ms n ws) with | .ret w=> .ok w | .retn xs=> .ok (.lst xs) | .nx _=> .ok .non | .exc c=> .exc c | _=> .bad) else .bad
theorem inF {K:Fg} {G:Pg} {H:Hp} {A:Av}: ∀ {ms:List Bool} {ws:List PV} {vs:List V} {i:Nat} {s:Sl} {o:Option V},RepM K G H A ms ws vs->(List.zipWith (fun m w=>if m=true then Sl.bor w else Sl.v w) ms ws)[i]? =some s->(vs.map some)[i]? =some o->SlF K G (fun p=>H p ≠ none) H A s o
 | [],ws,vs,i,s,o,h,e1,e2=>by obtain ⟨rfl,rfl⟩:=h; simp at e1
 | m :: ms,ws,vs,0,s,o,h,e1,e2=>by
  obtain ⟨w,wr,v,vr,rfl,rfl,r,rr⟩:=h
  simp at e1 e2
  subst e1; subst e2
  cases m with
  | true =>
   simp only [if_pos]
   rw [if_pos rfl] at r
   refine ⟨v,rfl,?_⟩
   rcases r with r | ⟨x,p,e1,e2,r⟩ | r
   ·exact .inl r
   ·obtain ⟨o',eo,_⟩:=r.at
    exact .inr (.inl ⟨x,p,e1,e2,r,by show H p ≠ none; rw [eo]; simp⟩)
   ·exact .inr (.inr (r.mono fun _ _ n=>n))
  | false =>
   rw [if_neg Bool.false_ne_true] at r
   exact ⟨v,rfl,r⟩
 | m :: ms,ws,vs,i + 1,s,o,h,e1,e2=>by
  obtain ⟨w,wr,v,vr,rfl,rfl,r,rr⟩:=h
  exact inF (i:=i) rr (by simpa using e1) (by simpa using e2)
theorem in_rep {K:Fg} {G:Pg} {H:Hp} {A:Av} {ms:List Bool} {ws:List PV} {vs:List V} {N:List Str} (r:RepM K G H A ms ws vs):RepF K G (fun p=>H p ≠ none) H A (inP ms N.length ws) (L2.start N vs):=by
 have l1:=r.len.1
 have l2:=r.len.2
 refine ⟨by simp [inP,L2.start,l1,l2],fun i s o e1 e2=> ?_⟩
 unfold inP at e1
 unfold L2.start at e2
 rcases Nat.lt_or_ge i ms.length with h | h
 ·rw [List.getElem?_append_left (by simp [l1]; omega)] at e1
  rw [List.getElem?_append_left (by simp [l2]; omega)] at e2
  exact inF r e1 e2
 ·rw [List.getElem?_append_right (by simp [l1]; omega),List.getElem?_replicate] at e1
  split at e1
  ·cases e1; exact True.intro
  ·cases e1
theorem fn_ok {P:Program} {w:World} {K:Fg} {mg:Str->Option Value} {base:Bs} {G:Pg} {x qual:Str} {st:Stmt} {f:Addr} {fd:FuncData} {N ps:List Str} {k:Nat} {ms:List Bool} {d:DS} (F:Fun K x qual st f fd) (S:FnScope N ps (defScope st)) (hm:ms.length=ps.length)
  (hb: ∀ (cdv:Value) (A:Around) (outer:List Env) (s:Shared) (H:Hp) (E:XK),Room k (A.deeper (envOfC qual (defScope st) s.heap.objs.size f cdv))->JSs (cxOf CX0 P w K mg base N qual (defScope st) f cdv A outer s H E).nox G (defBody st) d) :
  FnOk P w K mg base CX0 (k + 1) f fd ps (spG K G ms (runD ms N.length d)):=by
 refine F.ok S (fun vs H Q E h=> ?_) (fun cdv A outer s H vs Q E hr h=> ?_)
 ·obtain ⟨A,ws,w,u,r,_⟩:=h
  rw [r.len.2,hm]
 ·obtain ⟨A',ws,w',u,r,e,q⟩:=h
  refine ⟨_,hb cdv A outer s H E hr,?_⟩
  have F0:=in_rep (N:=N) r
  have S0:=F0.toS u fun a z=>z
  refine ⟨_,ow0,inP ms N.length ws,S0,?_⟩
  unfold runD at e
  rw [if_pos r.len.1] at e
  cases ed:d (inP ms N.length ws) with
  | nx ps'=>rw [ed] at e; cases e; exact fun σ' H' ow' R' _=>q .non H' (R'.same.same rfl) rfl
  | ret w2=>rw [ed] at e; cases e; exact fun v H' s r=>q v H' (s.same rfl) r
  | reti w x=>rw [ed] at e; cases e
  | retn xs=>rw [ed] at e; cases e; exact fun p vs H' s hp hv r=>q (.ref p) H' (s.same rfl) ⟨p,vs,rfl,.inl ⟨hv,fun z=>u p z hp⟩,(Kp.weak fun a z=>Or.inl z).reps r⟩
  | brk _=>rw [ed] at e; cases e
  | cnt _=>rw [ed] at e; cases e
  | bad=>rw [ed] at e; cases e
  | exc _=>rw [ed] at e; cases e
def isF:PV->Bool
 | .non=>true | .bl _=>true | .int _=>true | .str _=>true | _=>false
mutual
def peq:PV->PV->Option Bool
 | .tup xs,.tup ys=>peqs xs ys
 | .lst xs,.lst ys=>if xs.length=ys.length then peqs xs ys else some false
 | .tup _,.lst _=>some false
 | .lst _,.tup _=>some false
 | .tup _,.non=>some false | .tup _,.bl _=>some false | .tup _,.int _=>some false | .tup _,.str _=>some false
 | .lst _,.non=>some false | .lst _,.bl _=>some false | .lst _,.int _=>some false | .lst _,.str _=>some false
 | .non,.tup _=>some false | .bl _,.tup _=>some false | .int _,.tup _=>some false | .str _,.tup _=>some false
 | .non,.lst _=>some false | .bl _,.lst _=>some false | .int _,.lst _=>some false | .str _,.lst _=>some false
 | .non,.non=>some true | .bl a,.bl b=>some (a == b) | .int a,.int b=>some (a == b) | .str a,.str b=>some (a == b)
 | .bl a,.int b=>some ((if a then 1 else 0) == b) | .int a,.bl b=>some (a == (if b then 1 else 0))
 | .non,.bl _=>some false | .non,.int _=>some false | .non,.str _=>some false
 | .bl _,.non=>some false | .int _,.non=>some false | .str _,.non=>some false
 | .bl _,.str _=>some false | .str _,.bl _=>some false | .int _,.str _=>some false | .str _,.int _=>some false
 | _,_=>none
def peqs:List PV->List PV->Option Bool
 | [],[]=>some true
 | x :: xs,y :: ys=>match peq x y,peqs xs ys with | some a,some b=>some (a && b) | _,_=>none
 | [],_ :: _=>some false
 | _ :: _,[]=>some false
end
mutual
def PV.depth:PV->Nat
 | .tup xs=>pdepths xs + 1
 | .lst xs=>pdepths xs + 1
 | _=>0
def pdepths:List PV->Nat
 | []=>0
 | x :: xs=>max x.depth (pdepths xs)
end
theorem peq_tt (xs ys:List PV):peq (.tup xs) (.tup ys)=peqs xs ys:=rfl
theorem peq_ll (xs ys:List PV):peq (.lst xs) (.lst ys)=if xs.length=ys.length then peqs xs ys else some false:=rfl
def eAt:List PV->List PV->Nat->Bool
 | x :: _,y :: _,0=>(peq x y).getD false
 | _ :: xs,_ :: ys,j + 1=>eAt xs ys j
 | _,_,_=>false
theorem peqs_cons {x y:PV} {xs ys:List PV} {b:Bool} (h:peqs (x :: xs) (y :: ys)=some b): ∃ a c,peq x y=some a/\peqs xs ys=some c/\b=(a && c):=by
 rw [peqs] at h
 cases e1:peq x y with
 | none=>rw [e1] at h; simp at h
 | some a =>
  cases e2:peqs xs ys with
  | none=>rw [e1,e2] at h; simp at h
  | some c=>rw [e1,e2] at h; simp at h; exact ⟨a,c,rfl,rfl,h.symm⟩
theorem peqs_all: ∀ {xs ys:List PV} {b:Bool},peqs xs ys=some b->((List.range (min xs.length ys.length)).all (eAt xs ys) && xs.length == ys.length)=b
 | [],[],b,h=>by rw [peqs] at h; cases h; rfl
 | [],y :: ys,b,h=>by rw [peqs] at h; cases h; simp
 | x :: xs,[],b,h=>by rw [peqs] at h; cases h; simp
 | x :: xs,y :: ys,b,h=>by
  obtain ⟨a,c,e1,e2,rfl⟩:=peqs_cons h
  have ih:=peqs_all e2
  rw [<- ih,List.length_cons,List.length_cons,Nat.add_min_add_right,List.range_succ_eq_map,List.all_cons,List.all_map]
  have q1:((eAt (x :: xs) (y :: ys)) ∘ Nat.succ)=eAt xs ys:=rfl
  have q2:eAt (x :: xs) (y :: ys) 0=a:=by show (peq x y).getD false=a; rw [e1]; rfl
  have q3:(xs.length + 1 == ys.length + 1)=(xs.length == ys.length):=by simp
  rw [q1,q2,q3,Bool.and_assoc]
section
variable {X:Cx} {G:Pg} {pins:List (Addr × Obj)} {σ :L2.St} {H:Hp} {s:Shared} {A0:Av}
theorem list_inj' (I:Inv X pins σ H s) {a:Addr} {xs ys:List V} (h:SqL X.K H a xs) (h':SqL X.K H a ys):xs=ys:=by
 obtain ⟨i1,r1,p1,_⟩:=I.list h
 obtain ⟨i2,r2,p2,_⟩:=I.list h'
 obtain ⟨o,n,e,c,d,q⟩:=p1
 obtain ⟨o',n',e',c',d',q'⟩:=p2
 rw [e] at e'; cases e'
 rw [q] at q'
 have:i1=i2:=by
  have:=(Data.seq.inj q').1
  simpa using this
 subst this
 exact r1.inj r2
mutual
theorem rep_inj (I:Inv X pins σ H s): ∀ {x y:PV} {v:V} {b:Bool},Rep X.K G H A0 x v->Rep X.K G H A0 y v->peq x y=some b->b=true
 | .tup xs,y,v,b,h,h',e=>by
  obtain ⟨a,vs,rfl,sq,rs⟩:=h
  cases y with
  | tup ys =>
   obtain ⟨a',vs',e2,sq',rs'⟩:=h'
   cases e2
   have:=I.tuple_inj (SqT.of sq) (SqT.of sq')
   subst this
   exact reps_inj I rs rs' e
  | lst ys =>
   obtain ⟨a',vs',e2,sq',rs'⟩:=h'
   cases e2
   obtain ⟨_,_,⟨o,h1,h2,_⟩,_⟩:=I.tuple (SqT.of sq)
   obtain ⟨_,_,⟨o',_,h1',h2',_⟩,_⟩:=I.list sq'.sq
   rw [h1] at h1'; cases h1'
   rw [h2] at h2'; exact absurd (Value.type.inj h2') (by decide)
  | non=>cases h'
  | bl _=>cases h'
  | int _=>cases h'
  | str _=>cases h'
  | _=>cases e
 | .lst xs,y,v,b,h,h',e=>by
  obtain ⟨a,vs,rfl,sq,rs⟩:=h
  cases y with
  | lst ys =>
   obtain ⟨a',vs',e2,sq',rs'⟩:=h'
   cases e2
   have:=list_inj' I sq.sq sq'.sq
   subst this
   rw [peq_ll,if_pos (by rw [rs.len,rs'.len])] at e
   exact reps_inj I rs rs' e
  | tup ys =>
   obtain ⟨a',vs',e2,sq',rs'⟩:=h'
   cases e2
   obtain ⟨_,_,⟨o,h1,h2,_⟩,_⟩:=I.tuple (SqT.of sq')
   obtain ⟨_,_,⟨o',_,h1',h2',_⟩,_⟩:=I.list sq.sq
   rw [h1] at h1'; cases h1'
   rw [h2] at h2'; exact absurd (Value.type.inj h2') (by decide)
  | non=>cases h'
  | bl _=>cases h'
  | int _=>cases h'
  | str _=>cases h'
  | _=>cases e
 | .non,y,v,b,h,h',e=>by
  cases h
  cases y with
  | non=>cases h' <;> (cases e; simp)
  | bl _=>cases h' <;> (cases e; simp)
  | int _=>cases h' <;> (cases e; simp)
  | str _=>cases h' <;> (cases e; simp)
  | tup _=>obtain ⟨_,_,z,_⟩:=h'; cases z
  | lst _=>obtain ⟨_,_,z,_⟩:=h'; cases z
  | dic _ _=>obtain ⟨_,_,_,z,_⟩:=h'; cases z
  | dit _ _=>obtain ⟨_,_,_,z,_⟩:=h'; cases z
  | dbo _ _=>exact h'.elim
  | exn _=>obtain ⟨_,_,_,z,_⟩:=h'; cases z
  | clo _ _=>obtain ⟨_,_,_,z,_⟩:=h'; cases z
  | obj _ _=>obtain ⟨_,_,_,z,_⟩:=h'; cases z
 | .bl k,y,v,b,h,h',e=>by
  cases h
  cases y with
  | non=>cases h' <;> (cases e; simp)
  | bl _=>cases h' <;> (cases e; simp)
  | int _=>cases h' <;> (cases e; simp)
  | str _=>cases h' <;> (cases e; simp)
  | tup _=>obtain ⟨_,_,z,_⟩:=h'; cases z
  | lst _=>obtain ⟨_,_,z,_⟩:=h'; cases z
  | dic _ _=>obtain ⟨_,_,_,z,_⟩:=h'; cases z
  | dit _ _=>obtain ⟨_,_,_,z,_⟩:=h'; cases z
  | dbo _ _=>exact h'.elim
  | exn _=>obtain ⟨_,_,_,z,_⟩:=h'; cases z
  | clo _ _=>obtain ⟨_,_,_,z,_⟩:=h'; cases z
  | obj _ _=>obtain ⟨_,_,_,z,_⟩:=h'; cases z
 | .int k,y,v,b,h,h',e=>by
  cases h
  cases y with
  | non=>cases h' <;> (cases e; simp)
  | bl _=>cases h' <;> (cases e; simp)
  | int _=>cases h' <;> (cases e; simp)
  | str _=>cases h' <;> (cases e; simp)
  | tup _=>obtain ⟨_,_,z,_⟩:=h'; cases z
  | lst _=>obtain ⟨_,_,z,_⟩:=h'; cases z
  | dic _ _=>obtain ⟨_,_,_,z,_⟩:=h'; cases z
  | dit _ _=>obtain ⟨_,_,_,z,_⟩:=h'; cases z
  | dbo _ _=>exact h'.elim
  | exn _=>obtain ⟨_,_,_,z,_⟩:=h'; cases z
  | clo _ _=>obtain ⟨_,_,_,z,_⟩:=h'; cases z
  | obj _ _=>obtain ⟨_,_,_,z,_⟩:=h'; cases z
 | .str k,y,v,b,h,h',e=>by
  cases h
  cases y with
  | non=>cases h' <;> (cases e; simp)
  | bl _=>cases h' <;> (cases e; simp)
  | int _=>cases h' <;> (cases e; simp)
  | str _=>cases h' <;> (cases e; simp)
  | tup _=>obtain ⟨_,_,z,_⟩:=h'; cases z
  | lst _=>obtain ⟨_,_,z,_⟩:=h'; cases z
  | dic _ _=>obtain ⟨_,_,_,z,_⟩:=h'; cases z
  | dit _ _=>obtain ⟨_,_,_,z,_⟩:=h'; cases z
  | dbo _ _=>exact h'.elim
  | exn _=>obtain ⟨_,_,_,z,_⟩:=h'; cases z
  | clo _ _=>obtain ⟨_,_,_,z,_⟩:=h'; cases z
  | obj _ _=>obtain ⟨_,_,_,z,_⟩:=h'; cases z
 | .obj k xs,y,v,b,h,h',e=>by
  cases y <;> cases e
 | .dic k xs,y,v,b,h,h',e=>by
  cases y <;> cases e
 | .dbo k xs,y,v,b,h,h',e=>h.elim
 | .exn k,y,v,b,h,h',e=>by
  cases y <;> cases e
 | .dit k xs,y,v,b,h,h',e=>by
  cases y <;> cases e
 | .clo k xs,y,v,b,h,h',e=>by
  cases y <;> cases e
theorem reps_inj (I:Inv X pins σ H s): ∀ {xs ys:List PV} {vs:List V} {b:Bool},Reps X.K G H A0 xs vs->Reps X.K G H A0 ys vs->peqs xs ys=some b->b=true
 | [],[],vs,b,h,h',e=>by rw [peqs] at e; cases e; rfl
 | [],y :: ys,vs,b,h,h',e=>by
  obtain ⟨v,r,e2,_⟩:=h'
  have h:vs=[]:=h
  rw [h] at e2; cases e2
 | x :: xs,[],vs,b,h,h',e=>by
  obtain ⟨v,r,e2,_⟩:=h
  have h':vs=[]:=h'
  rw [h'] at e2; cases e2
 | x :: xs,y :: ys,vs,b,h,h',e=>by
  obtain ⟨v,r,rfl,h1,h2⟩:=h
  obtain ⟨v',r',e2,h1',h2'⟩:=h'
  cases e2
  obtain ⟨a,c,e1,e2,rfl⟩:=peqs_cons e
  rw [rep_inj I h1 h1' e1,reps_inj I h2 h2' e2]; rfl
end
mutual
theorem eqp (I:Inv X pins σ H s): ∀ {x y:PV} {v v':V} {u u':Value} {A:Around} {b:Bool},A.units + x.depth < cLine->Rep X.K G H A0 x v->Rep X.K G H A0 y v'->RelV v u->RelV v' u'->peq x y=some b->SeqAt.EqAt A s u u' b
 | .tup xs,y,v,v',u,u',A,b,hu,h,h',r,r',e=>by
  have hu0:A.units < cLine:=Nat.lt_of_le_of_lt (Nat.le_add_right _ _) hu
  have h0:=h
  obtain ⟨a,vs,rfl,sq,rs⟩:=h
  obtain rfl:u=Value.ref a:=r
  obtain ⟨its,r1,p1,_⟩:=I.tuple (SqT.of sq)
  cases y with
  | tup ys =>
   have h0':=h'
   obtain ⟨a',vs',rfl,sq',rs'⟩:=h'
   obtain rfl:u'=Value.ref a':=r'
   by_cases ea:a=a'
   ·subst ea
    rw [rep_inj I h0 h0' e]
    exact SeqAt.EqAt.same _
   ·obtain ⟨its',r2,p2,_⟩:=I.tuple (SqT.of sq')
    have hd:(PV.tup xs).depth=pdepths xs + 1:=by rw [PV.depth]
    rw [peq_tt] at e
    refine SeqAt.EqAt.of_refs ea ?_
    have q:=SeqAt.RcAt.tuples (A:=A) (e:=eAt xs ys) p1 p2 (by omega) fun j h1 h2=>by
     have h1':j < its.length:=by simpa using h1
     have h2':j < its'.length:=by simpa using h2
     have:=eqps I (A:=A.in1) (j:=j) (by show A.units + 1 + pdepths xs < cLine; omega) rs rs' r1 r2 e (List.getElem?_eq_getElem h1') (List.getElem?_eq_getElem h2')
     simpa using this
    have e4:its.toArray.size=xs.length:=by rw [List.size_toArray, <- r1.length,rs.len]
    have e5:its'.toArray.size=ys.length:=by rw [List.size_toArray, <- r2.length,rs'.len]
    rw [e4,e5,peqs_all e] at q
    exact q
  | lst ys =>
   obtain ⟨a',vs',rfl,sq',rs'⟩:=h'
   obtain rfl:u'=Value.ref a':=r'
   obtain ⟨its',r2,p2,_⟩:=I.list sq'.sq
   cases e
   exact SeqAt.EqAt.tuple_list p1 p2.isList hu0
  | non=>cases h'; cases r'; cases e; exact SeqAt.EqAt.tuple_none p1 hu0
  | bl k=>cases h'; cases r'; cases e; exact SeqAt.EqAt.tuple_bool k p1 hu0
  | int k=>cases h'; obtain ⟨t,rfl⟩:=r'; cases e; exact SeqAt.EqAt.tuple_int k t p1 hu0
  | str k=>cases h'; obtain ⟨t,rfl⟩:=r'; cases e; exact SeqAt.EqAt.tuple_str k t p1 hu0
  | _=>cases e
 | .lst xs,y,v,v',u,u',A,b,hu,h,h',r,r',e=>by
  have hu0:A.units < cLine:=Nat.lt_of_le_of_lt (Nat.le_add_right _ _) hu
  have h0:=h
  obtain ⟨a,vs,rfl,sq,rs⟩:=h
  obtain rfl:u=Value.ref a:=r
  obtain ⟨its,r1,p1,_⟩:=I.list sq.sq
  cases y with
  | lst ys =>
   have h0':=h'
   obtain ⟨a',vs',rfl,sq',rs'⟩:=h'
   obtain rfl:u'=Value.ref a':=r'
   by_cases ea:a=a'
   ·subst ea
    rw [rep_inj I h0 h0' e]
    exact SeqAt.EqAt.same _
   ·obtain ⟨its',r2,p2,_⟩:=I.list sq'.sq
    have hd:(PV.lst xs).depth=pdepths xs + 1:=by rw [PV.depth]
    have e4:its.toArray.size=xs.length:=by rw [List.size_toArray, <- r1.length,rs.len]
    have e5:its'.toArray.size=ys.length:=by rw [List.size_toArray, <- r2.length,rs'.len]
    refine SeqAt.EqAt.of_refs ea ?_
    rw [peq_ll] at e
    by_cases hl:xs.length=ys.length
    ·rw [if_pos hl] at e
     have q:=SeqAt.RcAt.lists (A:=A) (e:=eAt xs ys) p1.isList p2.isList (by rw [e4,e5,hl]) (by omega) fun j h1 h2=>by
      have h1':j < its.length:=by simpa using h1
      have h2':j < its'.length:=by simpa using h2
      have:=eqps I (A:=A.in1) (j:=j) (by show A.units + 1 + pdepths xs < cLine; omega) rs rs' r1 r2 e (List.getElem?_eq_getElem h1') (List.getElem?_eq_getElem h2')
      simpa using this
     have q2:=peqs_all e
     rw [hl,Nat.min_self,beq_self_eq_true,Bool.and_true] at q2
     rw [e4,hl,q2] at q
     exact q
    ·rw [if_neg hl] at e
     cases e
     exact SeqAt.RcAt.lists_lengths p1.isList p2.isList (by rw [e4,e5]; simpa using hl) hu0
  | tup ys =>
   obtain ⟨a',vs',rfl,sq',rs'⟩:=h'
   obtain rfl:u'=Value.ref a':=r'
   obtain ⟨its',r2,p2,_⟩:=I.tuple (SqT.of sq')
   cases e
   exact SeqAt.EqAt.list_tuple p1.isList p2 hu0
  | non=>cases h'; cases r'; cases e; exact SeqAt.EqAt.list_none p1.isList hu0
  | bl k=>cases h'; cases r'; cases e; exact SeqAt.EqAt.list_bool k p1.isList hu0
  | int k=>cases h'; obtain ⟨t,rfl⟩:=r'; cases e; exact SeqAt.EqAt.list_int k t p1.isList hu0
  | str k=>cases h'; obtain ⟨t,rfl⟩:=r'; cases e; exact SeqAt.EqAt.list_str k t p1.isList hu0
  | _=>cases e
 | .non,y,v,v',u,u',A,b,hu,h,h',r,r',e=>by
  have hu0:A.units < cLine:=Nat.lt_of_le_of_lt (Nat.le_add_right _ _) hu
  cases h
  cases r
  cases y with
  | non=>cases h'; cases r'; cases e; exact SeqAt.EqAt.same _
  | bl k=>cases h'; cases r'; cases e; exact SeqAt.EqAt.none_bool k
  | int k=>cases h'; obtain ⟨t,rfl⟩:=r'; cases e; exact SeqAt.EqAt.none_int k t
  | str k=>cases h'; obtain ⟨t,rfl⟩:=r'; cases e; exact SeqAt.EqAt.none_str k t
  | tup ys =>
   obtain ⟨a',vs',rfl,sq',rs'⟩:=h'
   obtain rfl:u'=Value.ref a':=r'
   obtain ⟨its',r2,p2,_⟩:=I.tuple (SqT.of sq')
   cases e
   exact SeqAt.EqAt.none_tuple p2 hu0
  | lst ys =>
   obtain ⟨a',vs',rfl,sq',rs'⟩:=h'
   obtain rfl:u'=Value.ref a':=r'
   obtain ⟨its',r2,p2,_⟩:=I.list sq'.sq
   cases e
   exact SeqAt.EqAt.none_list p2.isList hu0
  | _=>cases e
 | .bl k0,y,v,v',u,u',A,b,hu,h,h',r,r',e=>by
  have hu0:A.units < cLine:=Nat.lt_of_le_of_lt (Nat.le_add_right _ _) hu
  cases h
  cases r
  cases y with
  | non=>cases h'; cases r'; cases e; exact SeqAt.EqAt.bool_none k0
  | bl k=>cases h'; cases r'; cases e; exact SeqAt.EqAt.bool_bool k0 k
  | int k=>cases h'; obtain ⟨t,rfl⟩:=r'; cases e; exact SeqAt.EqAt.bool_int k0 k t
  | str k=>cases h'; obtain ⟨t,rfl⟩:=r'; cases e; exact SeqAt.EqAt.bool_str k0 k t
  | tup ys =>
   obtain ⟨a',vs',rfl,sq',rs'⟩:=h'
   obtain rfl:u'=Value.ref a':=r'
   obtain ⟨its',r2,p2,_⟩:=I.tuple (SqT.of sq')
   cases e
   exact SeqAt.EqAt.bool_tuple k0 p2 hu0
  | lst ys =>
   obtain ⟨a',vs',rfl,sq',rs'⟩:=h'
   obtain rfl:u'=Value.ref a':=r'
   obtain ⟨its',r2,p2,_⟩:=I.list sq'.sq
   cases e
   exact SeqAt.EqAt.bool_list k0 p2.isList hu0
  | _=>cases e
 | .int k0,y,v,v',u,u',A,b,hu,h,h',r,r',e=>by
  have hu0:A.units < cLine:=Nat.lt_of_le_of_lt (Nat.le_add_right _ _) hu
  cases h
  obtain ⟨t0,rfl⟩:=r
  cases y with
  | non=>cases h'; cases r'; cases e; exact SeqAt.EqAt.int_none k0 t0
  | bl k=>cases h'; cases r'; cases e; exact SeqAt.EqAt.int_bool k0 t0 k
  | int k=>cases h'; obtain ⟨t,rfl⟩:=r'; cases e; exact SeqAt.EqAt.int_int k0 t0 k t
  | str k=>cases h'; obtain ⟨t,rfl⟩:=r'; cases e; exact SeqAt.EqAt.int_str k0 t0 k t
  | tup ys =>
   obtain ⟨a',vs',rfl,sq',rs'⟩:=h'
   obtain rfl:u'=Value.ref a':=r'
   obtain ⟨its',r2,p2,_⟩:=I.tuple (SqT.of sq')
   cases e
   exact SeqAt.EqAt.int_tuple k0 t0 p2 hu0
  | lst ys =>
   obtain ⟨a',vs',rfl,sq',rs'⟩:=h'
   obtain rfl:u'=Value.ref a':=r'
   obtain ⟨its',r2,p2,_⟩:=I.list sq'.sq
   cases e
   exact SeqAt.EqAt.int_list k0 t0 p2.isList hu0
  | _=>cases e
 | .str k0,y,v,v',u,u',A,b,hu,h,h',r,r',e=>by
  have hu0:A.units < cLine:=Nat.lt_of_le_of_lt (Nat.le_add_right _ _) hu
  cases h
  obtain ⟨t0,rfl⟩:=r
  cases y with
  | non=>cases h'; cases r'; cases e; exact SeqAt.EqAt.str_none k0 t0
  | bl k=>cases h'; cases r'; cases e; exact SeqAt.EqAt.str_bool k0 t0 k
  | int k=>cases h'; obtain ⟨t,rfl⟩:=r'; cases e; exact SeqAt.EqAt.str_int k0 t0 k t
  | str k=>cases h'; obtain ⟨t,rfl⟩:=r'; cases e; exact SeqAt.EqAt.str_str k0 t0 k t
  | tup ys =>
   obtain ⟨a',vs',rfl,sq',rs'⟩:=h'
   obtain rfl:u'=Value.ref a':=r'
   obtain ⟨its',r2,p2,_⟩:=I.tuple (SqT.of sq')
   cases e
   exact SeqAt.EqAt.str_tuple k0 t0 p2 hu0
  | lst ys =>
   obtain ⟨a',vs',rfl,sq',rs'⟩:=h'
   obtain rfl:u'=Value.ref a':=r'
   obtain ⟨its',r2,p2,_⟩:=I.list sq'.sq
   cases e
   exact SeqAt.EqAt.str_list k0 t0 p2.isList hu0
  | _=>cases e
 | .obj k xs,y,v,v',u,u',A,b,hu,h,h',r,r',e=>by
  cases y <;> cases e
 | .dic k xs,y,v,v',u,u',A,b,hu,h,h',r,r',e=>by
  cases y <;> cases e
 | .dbo k xs,y,v,v',u,u',A,b,hu,h,h',r,r',e=>h.elim
 | .exn k,y,v,v',u,u',A,b,hu,h,h',r,r',e=>by
  cases y <;> cases e
 | .dit k xs,y,v,v',u,u',A,b,hu,h,h',r,r',e=>by
  cases y <;> cases e
 | .clo k xs,y,v,v',u,u',A,b,hu,h,h',r,r',e=>by
  cases y <;> cases e
theorem eqps (I:Inv X pins σ H s): ∀ {xs ys:List PV} {vs vs':List V} {us us':List Value} {A:Around} {j:Nat} {u u':Value} {b:Bool},A.units + pdepths xs < cLine->Reps X.K G H A0 xs vs->Reps X.K G H A0 ys vs'->Vals vs us->Vals vs' us'->peqs xs ys=some b ->
  us[j]? =some u->us'[j]? =some u'->SeqAt.EqAt A s u u' (eAt xs ys j)
 | [],ys,vs,vs',us,us',A,j,u,u',b,hu,h,h',r,r',e,q,q'=>by
  have h:vs=[]:=h
  subst h; cases r
  simp at q
 | x :: xs,[],vs,vs',us,us',A,j,u,u',b,hu,h,h',r,r',e,q,q'=>by
  have h':vs'=[]:=h'
  subst h'; cases r'
  simp at q'
 | x :: xs,y :: ys,vs,vs',us,us',A,j,u,u',b,hu,h,h',r,r',e,q,q'=>by
  obtain ⟨v,t,rfl,h1,h2⟩:=h
  obtain ⟨v',t',rfl,h1',h2'⟩:=h'
  obtain ⟨a,c,e1,e2,rfl⟩:=peqs_cons e
  have hd:pdepths (x :: xs)=max x.depth (pdepths xs):=by rw [pdepths]
  cases r with
  | cons rx rt =>
   cases r' with
   | cons rx' rt' =>
    cases j with
    | zero =>
     simp at q q'
     subst q; subst q'
     have:eAt (x :: xs) (y :: ys) 0=a:=by show (peq x y).getD false=a; rw [e1]; rfl
     rw [this]
     exact eqp I (by omega) h1 h1' rx rx' e1
    | succ j=>exact eqps I (j:=j) (by omega) h2 h2' rt rt' e2 (by simpa using q) (by simpa using q')
end
theorem rcp (I:Inv X pins σ H s): ∀ {x y:PV} {v v':V} {u u':Value} {A:Around} {b:Bool},A.units + x.depth < cLine->RepB X.K G H A0 x v->RepB X.K G H A0 y v'->RelV v u->RelV v' u'->peq x y=some b->SeqAt.RcAt A s u u' b:=by
 intro x y v v' u u' A b hu h h' r r' e
 have hu0:A.units < cLine:=Nat.lt_of_le_of_lt (Nat.le_add_right _ _) hu
 cases x with
 | tup xs =>
  obtain ⟨a,vs,rfl,sq,rs⟩:=h.tup
  obtain rfl:u=Value.ref a:=r
  obtain ⟨its,r1,p1,_⟩:=I.tuple sq
  cases y with
  | tup ys =>
   obtain ⟨a',vs',rfl,sq',rs'⟩:=h'.tup
   obtain rfl:u'=Value.ref a':=r'
   obtain ⟨its',r2,p2,_⟩:=I.tuple sq'
   rw [peq_tt] at e
   have hd:(PV.tup xs).depth=pdepths xs + 1:=by rw [PV.depth]
   have e4:its.toArray.size=xs.length:=by rw [List.size_toArray, <- r1.length,rs.len]
   have e5:its'.toArray.size=ys.length:=by rw [List.size_toArray, <- r2.length,rs'.len]
   have q:=SeqAt.RcAt.tuples (A:=A) (s:=s) (e:=eAt xs ys) p1 p2 (by omega) fun j h1 h2=>by
     have h1':j < its.length:=by simpa using h1
     have h2':j < its'.length:=by simpa using h2
     have:=eqps I (A:=A.in1) (j:=j) (by show A.units + 1 + pdepths xs < cLine; omega) rs rs' r1 r2 e (List.getElem?_eq_getElem h1') (List.getElem?_eq_getElem h2')
     simpa using this
   rw [e4,e5,peqs_all e] at q
   exact q
  | lst ys =>
   obtain ⟨a',vs',rfl,sq',rs'⟩:=h'.lst
   obtain rfl:u'=Value.ref a':=r'
   obtain ⟨its',r2,p2,_⟩:=I.list sq'
   cases e
   exact SeqAt.RcAt.tuple_list p1 p2.isList hu0
  | non=>rw [h'.non] at r'; cases r'; cases e; exact SeqAt.RcAt.tuple_none p1 hu0
  | bl k=>rw [h'.bl] at r'; cases r'; cases e; exact SeqAt.RcAt.tuple_bool k p1 hu0
  | int k=>rw [h'.int] at r'; obtain ⟨t,rfl⟩:=r'; cases e; exact SeqAt.RcAt.tuple_int k t p1 hu0
  | str k=>rw [h'.str] at r'; obtain ⟨t,rfl⟩:=r'; cases e; exact SeqAt.RcAt.tuple_str k t p1 hu0
  | _=>cases e
 | lst xs =>
  obtain ⟨a,vs,rfl,sq,rs⟩:=h.lst
  obtain rfl:u=Value.ref a:=r
  obtain ⟨its,r1,p1,_⟩:=I.list sq
  cases y with
  | tup ys =>
   obtain ⟨a',vs',rfl,sq',rs'⟩:=h'.tup
   obtain rfl:u'=Value.ref a':=r'
   obtain ⟨its',r2,p2,_⟩:=I.tuple sq'
   cases e
   exact SeqAt.RcAt.list_tuple p1.isList p2 hu0
  | lst ys =>
   obtain ⟨a',vs',rfl,sq',rs'⟩:=h'.lst
   obtain rfl:u'=Value.ref a':=r'
   obtain ⟨its',r2,p2,_⟩:=I.list sq'
   rw [peq_ll] at e
   have hd:(PV.lst xs).depth=pdepths xs + 1:=by rw [PV.depth]
   have e4:its.toArray.size=xs.length:=by rw [List.size_toArray, <- r1.length,rs.len]
   have e5:its'.toArray.size=ys.length:=by rw [List.size_toArray, <- r2.length,rs'.len]
   by_cases hl:xs.length=ys.length
   ·rw [if_pos hl] at e
    have q:=SeqAt.RcAt.lists (A:=A) (s:=s) (e:=eAt xs ys) p1.isList p2.isList (by rw [e4,e5,hl]) (by omega) fun j h1 h2=>by
      have h1':j < its.length:=by simpa using h1
      have h2':j < its'.length:=by simpa using h2
      have:=eqps I (A:=A.in1) (j:=j) (by show A.units + 1 + pdepths xs < cLine; omega) rs rs' r1 r2 e (List.getElem?_eq_getElem h1') (List.getElem?_eq_getElem h2')
      simpa using this
    have q2:=peqs_all e
    rw [hl,Nat.min_self,beq_self_eq_true,Bool.and_true] at q2
    rw [e4,hl,q2] at q
    exact q
   ·rw [if_neg hl] at e
    cases e
    exact SeqAt.RcAt.lists_lengths p1.isList p2.isList (by rw [e4,e5]; simpa using hl) hu0
  | non=>rw [h'.non] at r'; cases r'; cases e; exact SeqAt.RcAt.list_none p1.isList hu0
  | bl k=>rw [h'.bl] at r'; cases r'; cases e; exact SeqAt.RcAt.list_bool k p1.isList hu0
  | int k=>rw [h'.int] at r'; obtain ⟨t,rfl⟩:=r'; cases e; exact SeqAt.RcAt.list_int k t p1.isList hu0
  | str k=>rw [h'.str] at r'; obtain ⟨t,rfl⟩:=r'; cases e; exact SeqAt.RcAt.list_str k t p1.isList hu0
  | _=>cases e
 | non =>
  rw [h.non] at r
  cases r
  cases y with
  | non=>rw [h'.non] at r'; cases r'; cases e; exact SeqAt.RcAt.none_none
  | bl k=>rw [h'.bl] at r'; cases r'; cases e; exact SeqAt.RcAt.none_bool k
  | int k=>rw [h'.int] at r'; obtain ⟨t,rfl⟩:=r'; cases e; exact SeqAt.RcAt.none_int k t
  | str k=>rw [h'.str] at r'; obtain ⟨t,rfl⟩:=r'; cases e; exact SeqAt.RcAt.none_str k t
  | tup ys =>
   obtain ⟨a',vs',rfl,sq',rs'⟩:=h'.tup
   obtain rfl:u'=Value.ref a':=r'
   obtain ⟨its',r2,p2,_⟩:=I.tuple sq'
   cases e
   exact SeqAt.RcAt.none_tuple p2 hu0
  | lst ys =>
   obtain ⟨a',vs',rfl,sq',rs'⟩:=h'.lst
   obtain rfl:u'=Value.ref a':=r'
   obtain ⟨its',r2,p2,_⟩:=I.list sq'
   cases e
   exact SeqAt.RcAt.none_list p2.isList hu0
  | _=>cases e
 | bl k0 =>
  rw [h.bl] at r
  cases r
  cases y with
  | non=>rw [h'.non] at r'; cases r'; cases e; exact SeqAt.RcAt.bool_none k0
  | bl k=>rw [h'.bl] at r'; cases r'; cases e; exact SeqAt.RcAt.bool_bool k0 k
  | int k=>rw [h'.int] at r'; obtain ⟨t,rfl⟩:=r'; cases e; exact SeqAt.RcAt.bool_int k0 k t
  | str k=>rw [h'.str] at r'; obtain ⟨t,rfl⟩:=r'; cases e; exact SeqAt.RcAt.bool_str k0 k t
  | tup ys =>
   obtain ⟨a',vs',rfl,sq',rs'⟩:=h'.tup
   obtain rfl:u'=Value.ref a':=r'
   obtain ⟨its',r2,p2,_⟩:=I.tuple sq'
   cases e
   exact SeqAt.RcAt.bool_tuple k0 p2 hu0
  | lst ys =>
   obtain ⟨a',vs',rfl,sq',rs'⟩:=h'.lst
   obtain rfl:u'=Value.ref a':=r'
   obtain ⟨its',r2,p2,_⟩:=I.list sq'
   cases e
   exact SeqAt.RcAt.bool_list k0 p2.isList hu0
  | _=>cases e
 | int k0 =>
  rw [h.int] at r
  obtain ⟨t0,rfl⟩:=r
  cases y with
  | non=>rw [h'.non] at r'; cases r'; cases e; exact SeqAt.RcAt.int_none k0 t0
  | bl k=>rw [h'.bl] at r'; cases r'; cases e; exact SeqAt.RcAt.int_bool k0 t0 k
  | int k=>rw [h'.int] at r'; obtain ⟨t,rfl⟩:=r'; cases e; exact SeqAt.RcAt.int_int k0 t0 k t
  | str k=>rw [h'.str] at r'; obtain ⟨t,rfl⟩:=r'; cases e; exact SeqAt.RcAt.int_str k0 t0 k t
  | tup ys =>
   obtain ⟨a',vs',rfl,sq',rs'⟩:=h'.tup
   obtain rfl:u'=Value.ref a':=r'
   obtain ⟨its',r2,p2,_⟩:=I.tuple sq'
   cases e
   exact SeqAt.RcAt.int_tuple k0 t0 p2 hu0
  | lst ys =>
   obtain ⟨a',vs',rfl,sq',rs'⟩:=h'.lst
   obtain rfl:u'=Value.ref a':=r'
   obtain ⟨its',r2,p2,_⟩:=I.list sq'
   cases e
   exact SeqAt.RcAt.int_list k0 t0 p2.isList hu0
  | _=>cases e
 | str k0 =>
  rw [h.str] at r
  obtain ⟨t0,rfl⟩:=r
  cases y with
  | non=>rw [h'.non] at r'; cases r'; cases e; exact SeqAt.RcAt.str_none k0 t0
  | bl k=>rw [h'.bl] at r'; cases r'; cases e; exact SeqAt.RcAt.str_bool k0 t0 k
  | int k=>rw [h'.int] at r'; obtain ⟨t,rfl⟩:=r'; cases e; exact SeqAt.RcAt.str_int k0 t0 k t
  | str k=>rw [h'.str] at r'; obtain ⟨t,rfl⟩:=r'; cases e; exact SeqAt.RcAt.str_str k0 t0 k t
  | tup ys =>
   obtain ⟨a',vs',rfl,sq',rs'⟩:=h'.tup
   obtain rfl:u'=Value.ref a':=r'
   obtain ⟨its',r2,p2,_⟩:=I.tuple sq'
   cases e
   exact SeqAt.RcAt.str_tuple k0 t0 p2 hu0
  | lst ys =>
   obtain ⟨a',vs',rfl,sq',rs'⟩:=h'.lst
   obtain rfl:u'=Value.ref a':=r'
   obtain ⟨its',r2,p2,_⟩:=I.list sq'
   cases e
   exact SeqAt.RcAt.str_list k0 t0 p2.isList hu0
  | _=>cases e
 | obj _ _=>cases y <;> cases e
 | dic _ _=>cases y <;> cases e
 | dit _ _=>cases y <;> cases e
 | dbo _ _=>cases y <;> cases e
 | exn _=>cases y <;> cases e
 | clo _ _=>cases y <;> cases e
theorem rnp (I:Inv X pins σ H s): ∀ {x y:PV} {v v':V} {u u':Value} {A:Around} {b:Bool},A.units + x.depth < cLine->RepB X.K G H A0 x v->RepB X.K G H A0 y v'->RelV v u->RelV v' u'->peq x y=some b->SeqAt.RcNeAt A s u u' (!b):=by
 intro x y v v' u u' A b hu h h' r r' e
 have hu0:A.units < cLine:=Nat.lt_of_le_of_lt (Nat.le_add_right _ _) hu
 cases x with
 | tup xs =>
  obtain ⟨a,vs,rfl,sq,rs⟩:=h.tup
  obtain rfl:u=Value.ref a:=r
  obtain ⟨its,r1,p1,_⟩:=I.tuple sq
  cases y with
  | tup ys =>
   obtain ⟨a',vs',rfl,sq',rs'⟩:=h'.tup
   obtain rfl:u'=Value.ref a':=r'
   obtain ⟨its',r2,p2,_⟩:=I.tuple sq'
   rw [peq_tt] at e
   have hd:(PV.tup xs).depth=pdepths xs + 1:=by rw [PV.depth]
   have e4:its.toArray.size=xs.length:=by rw [List.size_toArray, <- r1.length,rs.len]
   have e5:its'.toArray.size=ys.length:=by rw [List.size_toArray, <- r2.length,rs'.len]
   have q:=SeqAt.RcNeAt.tuples (A:=A) (s:=s) (e:=eAt xs ys) p1 p2 (by omega) fun j h1 h2=>by
     have h1':j < its.length:=by simpa using h1
     have h2':j < its'.length:=by simpa using h2
     have:=eqps I (A:=A.in1) (j:=j) (by show A.units + 1 + pdepths xs < cLine; omega) rs rs' r1 r2 e (List.getElem?_eq_getElem h1') (List.getElem?_eq_getElem h2')
     simpa using this
   rw [e4,e5,peqs_all e] at q
   exact q
  | lst ys =>
   obtain ⟨a',vs',rfl,sq',rs'⟩:=h'.lst
   obtain rfl:u'=Value.ref a':=r'
   obtain ⟨its',r2,p2,_⟩:=I.list sq'
   cases e
   exact SeqAt.RcNeAt.tuple_list p1 p2.isList hu0
  | non=>rw [h'.non] at r'; cases r'; cases e; exact SeqAt.RcNeAt.tuple_none p1 hu0
  | bl k=>rw [h'.bl] at r'; cases r'; cases e; exact SeqAt.RcNeAt.tuple_bool k p1 hu0
  | int k=>rw [h'.int] at r'; obtain ⟨t,rfl⟩:=r'; cases e; exact SeqAt.RcNeAt.tuple_int k t p1 hu0
  | str k=>rw [h'.str] at r'; obtain ⟨t,rfl⟩:=r'; cases e; exact SeqAt.RcNeAt.tuple_str k t p1 hu0
  | _=>cases e
 | lst xs =>
  obtain ⟨a,vs,rfl,sq,rs⟩:=h.lst
  obtain rfl:u=Value.ref a:=r
  obtain ⟨its,r1,p1,_⟩:=I.list sq
  cases y with
  | tup ys =>
   obtain ⟨a',vs',rfl,sq',rs'⟩:=h'.tup
   obtain rfl:u'=Value.ref a':=r'
   obtain ⟨its',r2,p2,_⟩:=I.tuple sq'
   cases e
   exact SeqAt.RcNeAt.list_tuple p1.isList p2 hu0
  | lst ys =>
   obtain ⟨a',vs',rfl,sq',rs'⟩:=h'.lst
   obtain rfl:u'=Value.ref a':=r'
   obtain ⟨its',r2,p2,_⟩:=I.list sq'
   rw [peq_ll] at e
   have hd:(PV.lst xs).depth=pdepths xs + 1:=by rw [PV.depth]
   have e4:its.toArray.size=xs.length:=by rw [List.size_toArray, <- r1.length,rs.len]
   have e5:its'.toArray.size=ys.length:=by rw [List.size_toArray, <- r2.length,rs'.len]
   by_cases hl:xs.length=ys.length
   ·rw [if_pos hl] at e
    have q:=SeqAt.RcNeAt.lists (A:=A) (s:=s) (e:=eAt xs ys) p1.isList p2.isList (by rw [e4,e5,hl]) (by omega) fun j h1 h2=>by
      have h1':j < its.length:=by simpa using h1
      have h2':j < its'.length:=by simpa using h2
      have:=eqps I (A:=A.in1) (j:=j) (by show A.units + 1 + pdepths xs < cLine; omega) rs rs' r1 r2 e (List.getElem?_eq_getElem h1') (List.getElem?_eq_getElem h2')
      simpa using this
    have q2:=peqs_all e
    rw [hl,Nat.min_self,beq_self_eq_true,Bool.and_true] at q2
    rw [e4,hl,q2] at q
    exact q
   ·rw [if_neg hl] at e
    cases e
    exact SeqAt.RcNeAt.lists_lengths p1.isList p2.isList (by rw [e4,e5]; simpa using hl) hu0
  | non=>rw [h'.non] at r'; cases r'; cases e; exact SeqAt.RcNeAt.list_none p1.isList hu0
  | bl k=>rw [h'.bl] at r'; cases r'; cases e; exact SeqAt.RcNeAt.list_bool k p1.isList hu0
  | int k=>rw [h'.int] at r'; obtain ⟨t,rfl⟩:=r'; cases e; exact SeqAt.RcNeAt.list_int k t p1.isList hu0
  | str k=>rw [h'.str] at r'; obtain ⟨t,rfl⟩:=r'; cases e; exact SeqAt.RcNeAt.list_str k t p1.isList hu0
  | _=>cases e
 | non =>
  rw [h.non] at r
  cases r
  cases y with
  | non=>rw [h'.non] at r'; cases r'; cases e; exact SeqAt.RcNeAt.none_none
  | bl k=>rw [h'.bl] at r'; cases r'; cases e; exact SeqAt.RcNeAt.none_bool k
  | int k=>rw [h'.int] at r'; obtain ⟨t,rfl⟩:=r'; cases e; exact SeqAt.RcNeAt.none_int k t
  | str k=>rw [h'.str] at r'; obtain ⟨t,rfl⟩:=r'; cases e; exact SeqAt.RcNeAt.none_str k t
  | tup ys =>
   obtain ⟨a',vs',rfl,sq',rs'⟩:=h'.tup
   obtain rfl:u'=Value.ref a':=r'
   obtain ⟨its',r2,p2,_⟩:=I.tuple sq'
   cases e
   exact SeqAt.RcNeAt.none_tuple p2 hu0
  | lst ys =>
   obtain ⟨a',vs',rfl,sq',rs'⟩:=h'.lst
   obtain rfl:u'=Value.ref a':=r'
   obtain ⟨its',r2,p2,_⟩:=I.list sq'
   cases e
   exact SeqAt.RcNeAt.none_list p2.isList hu0
  | _=>cases e
 | bl k0 =>
  rw [h.bl] at r
  cases r
  cases y with
  | non=>rw [h'.non] at r'; cases r'; cases e; exact SeqAt.RcNeAt.bool_none k0
  | bl k=>rw [h'.bl] at r'; cases r'; cases e; exact SeqAt.RcNeAt.bool_bool k0 k
  | int k=>rw [h'.int] at r'; obtain ⟨t,rfl⟩:=r'; cases e; exact SeqAt.RcNeAt.bool_int k0 k t
  | str k=>rw [h'.str] at r'; obtain ⟨t,rfl⟩:=r'; cases e; exact SeqAt.RcNeAt.bool_str k0 k t
  | tup ys =>
   obtain ⟨a',vs',rfl,sq',rs'⟩:=h'.tup
   obtain rfl:u'=Value.ref a':=r'
   obtain ⟨its',r2,p2,_⟩:=I.tuple sq'
   cases e
   exact SeqAt.RcNeAt.bool_tuple k0 p2 hu0
  | lst ys =>
   obtain ⟨a',vs',rfl,sq',rs'⟩:=h'.lst
   obtain rfl:u'=Value.ref a':=r'
   obtain ⟨its',r2,p2,_⟩:=I.list sq'
   cases e
   exact SeqAt.RcNeAt.bool_list k0 p2.isList hu0
  | _=>cases e
 | int k0 =>
  rw [h.int] at r
  obtain ⟨t0,rfl⟩:=r
  cases y with
  | non=>rw [h'.non] at r'; cases r'; cases e; exact SeqAt.RcNeAt.int_none k0 t0
  | bl k=>rw [h'.bl] at r'; cases r'; cases e; exact SeqAt.RcNeAt.int_bool k0 t0 k
  | int k=>rw [h'.int] at r'; obtain ⟨t,rfl⟩:=r'; cases e; exact SeqAt.RcNeAt.int_int k0 t0 k t
  | str k=>rw [h'.str] at r'; obtain ⟨t,rfl⟩:=r'; cases e; exact SeqAt.RcNeAt.int_str k0 t0 k t
  | tup ys =>
   obtain ⟨a',vs',rfl,sq',rs'⟩:=h'.tup
   obtain rfl:u'=Value.ref a':=r'
   obtain ⟨its',r2,p2,_⟩:=I.tuple sq'
   cases e
   exact SeqAt.RcNeAt.int_tuple k0 t0 p2 hu0
  | lst ys =>
   obtain ⟨a',vs',rfl,sq',rs'⟩:=h'.lst
   obtain rfl:u'=Value.ref a':=r'
   obtain ⟨its',r2,p2,_⟩:=I.list sq'
   cases e
   exact SeqAt.RcNeAt.int_list k0 t0 p2.isList hu0
  | _=>cases e
 | str k0 =>
  rw [h.str] at r
  obtain ⟨t0,rfl⟩:=r
  cases y with
  | non=>rw [h'.non] at r'; cases r'; cases e; exact SeqAt.RcNeAt.str_none k0 t0
  | bl k=>rw [h'.bl] at r'; cases r'; cases e; exact SeqAt.RcNeAt.str_bool k0 t0 k
  | int k=>rw [h'.int] at r'; obtain ⟨t,rfl⟩:=r'; cases e; exact SeqAt.RcNeAt.str_int k0 t0 k t
  | str k=>rw [h'.str] at r'; obtain ⟨t,rfl⟩:=r'; cases e; exact SeqAt.RcNeAt.str_str k0 t0 k t
  | tup ys =>
   obtain ⟨a',vs',rfl,sq',rs'⟩:=h'.tup
   obtain rfl:u'=Value.ref a':=r'
   obtain ⟨its',r2,p2,_⟩:=I.tuple sq'
   cases e
   exact SeqAt.RcNeAt.str_tuple k0 t0 p2 hu0
  | lst ys =>
   obtain ⟨a',vs',rfl,sq',rs'⟩:=h'.lst
   obtain rfl:u'=Value.ref a':=r'
   obtain ⟨its',r2,p2,_⟩:=I.list sq'
   cases e
   exact SeqAt.RcNeAt.str_list k0 t0 p2.isList hu0
  | _=>cases e
 | obj _ _=>cases y <;> cases e
 | dic _ _=>cases y <;> cases e
 | dit _ _=>cases y <;> cases e
 | dbo _ _=>cases y <;> cases e
 | exn _=>cases y <;> cases e
 | clo _ _=>cases y <;> cases e
def fEq (x y:PV):Rx PV:=if x.depth < 100 then (match peq x y with | some b=> .ok (.bl b) | none=> .bad) else .bad
def fNe (x y:PV):Rx PV:=if x.depth < 100 then (match peq x y with | some b=> .ok (.bl (!b)) | none=> .bad) else .bad
def rEqP (K:Fg) (G:Pg) (neg:Bool):R2:=fun v u H Q=> ∃ A x y b,x.depth < 100/\RepB K G H A x v/\RepB K G H A y u/\peq x y=some b/\Q (.bl (if neg then !b else b)) H
theorem op_eqP (hu:X.A.units + 100 < cLine):OpR X (compareOp .Eq) (rEqP X.K G false):=by
 intro pins s σ H v u v' u' Q I rx ry h
 obtain ⟨A,x,y,b,hd,h1,h2,e,q⟩:=h
 exact rcp I (by omega) h1 h2 rx ry e X.prog X.w _ _ ⟨.bl b,H,I,rfl,q⟩
theorem op_neP (hu:X.A.units + 100 < cLine):OpR X (compareOp .NotEq) (rEqP X.K G true):=by
 intro pins s σ H v u v' u' Q I rx ry h
 obtain ⟨A,x,y,b,hd,h1,h2,e,q⟩:=h
 exact rnp I (by omega) h1 h2 rx ry e X.prog X.w _ _ ⟨.bl (!b),H,I,rfl,q⟩
theorem o2_eq {K:Fg}:Op2 K G fEq (rEqP K G false):=by
 intro H A x y w v u Q hu e r1 r2 q
 unfold fEq at e
 split at e
 ·rename_i hd
  split at e
  ·rename_i b hb; cases e; exact ⟨A,x,y,b,hd,r1,r2,hb,q _ H (Same.refl H) rfl⟩
  ·cases e
 ·cases e
theorem o2_ne {K:Fg}:Op2 K G fNe (rEqP K G true):=by
 intro H A x y w v u Q hu e r1 r2 q
 unfold fNe at e
 split at e
 ·rename_i hd
  split at e
  ·rename_i b hb; cases e; exact ⟨A,x,y,b,hd,r1,r2,hb,q _ H (Same.refl H) rfl⟩
  ·cases e
 ·cases e
section
variable {e a b:Expr} {da db:DP} {pos:Pos}
theorem hu100 {A:Around} {k:Nat} (hr:Room k A):A.units + 100 < cLine:=by have:=hr.un; omega
theorem p_eq {k:Nat} (hr:Room k X.A) (ha:JB X G a da) (hb:JB X G b db):JP X G (.Compare a [.Eq] [b] pos) (d2 fEq da db):=p_cmp (op_eqP (hu100 hr)) o2_eq ha hb (nomark _)
theorem p_ne {k:Nat} (hr:Room k X.A) (ha:JB X G a da) (hb:JB X G b db):JP X G (.Compare a [.NotEq] [b] pos) (d2 fNe da db):=p_cmp (op_neP (hu100 hr)) o2_ne ha hb (nomark _)
theorem t_eq {k:Nat} (hr:Room k X.A) (ha:JB X G a da) (hb:JB X G b db):JT X G (.Compare a [.Eq] [b] pos) (dTr (d2 fEq da db)):=t_cmp (op_eqP (hu100 hr)) o2_eq ha hb (nomark _)
theorem t_ne {k:Nat} (hr:Room k X.A) (ha:JB X G a da) (hb:JB X G b db):JT X G (.Compare a [.NotEq] [b] pos) (dTr (d2 fNe da db)):=t_cmp (op_neP (hu100 hr)) o2_ne ha hb (nomark _)
def flv:PV->V
 | .non=> .non | .bl b=> .bl b | .int i=> .int i | .str x=> .str x | _=> .ref 0
def fInL (neg:Bool) (x y:PV):Rx PV:=match (match y with | .lst ys=>some ys | .tup ys=>some ys | _=>none) with
 | some ys=>if isF x=true/\ys.all isF=true then .ok (.bl (if neg then !(ys.any fun y=>eqV (flv y) (flv x)) else (ys.any fun y=>eqV (flv y) (flv x)))) else .bad
 | none=> .bad
theorem rep_flat {K:Fg} {H:Hp} {A:Av} {x:PV} {v:V} (r:RepB K G H A x v) (f:isF x=true):v=flv x/\flatV v=true:=by
 cases x <;> first | (rw [r.non]; exact ⟨rfl,rfl⟩) | (rw [r.bl]; exact ⟨rfl,rfl⟩) | (rw [r.int]; exact ⟨rfl,rfl⟩) | (rw [r.str]; exact ⟨rfl,rfl⟩) | cases f
theorem reps_flat {K:Fg} {H:Hp} {A:Av}: ∀ {xs:List PV} {vs:List V},Reps K G H A xs vs->xs.all isF=true->vs=xs.map flv/\vs.all flatV=true
 | [],vs,h,_=>by have h:vs=[]:=h; subst h; exact ⟨rfl,rfl⟩
 | x :: xs,vs,h,f=>by
  obtain ⟨v,r,rfl,h1,h2⟩:=h
  rw [List.all_cons,Bool.and_eq_true] at f
  obtain ⟨e1,f1⟩:=rep_flat (.inl h1) f.1
  obtain ⟨e2,f2⟩:=reps_flat h2 f.2
  exact ⟨by rw [e1,e2]; rfl,by rw [List.all_cons,f1,f2]; rfl⟩
theorem in_top {K:Fg} {neg:Bool} {H:Hp} {A:Av} {x w:PV} {ys:List PV} {v:V} {vs:List V} {t:Addr} {Q:VK} (e:fInL neg x (.tup ys)= .ok w) (r1:RepB K G H A x v) (T:TopT K t vs) (rs:Reps K G H A ys vs) (q: ∀ z,Rep K G H A w z->Q z H):rIn K neg v (.ref t) H Q:=by
 have e:(if isF x=true/\ys.all isF=true then Rx.ok (PV.bl (if neg then !(ys.any fun y=>eqV (flv y) (flv x)) else (ys.any fun y=>eqV (flv y) (flv x)))) else .bad)= .ok w:=e
 split at e
 ·rename_i hf
  cases e
  obtain ⟨e1,f1⟩:=rep_flat r1 hf.1
  obtain ⟨e2,f2⟩:=reps_flat rs hf.2
  refine ⟨t,vs,rfl,.inr (T.sq H),f1,f2,?_⟩
  have:inV v vs=(ys.any fun y=>eqV (flv y) (flv x)):=by
   unfold inV
   rw [e2,e1,List.any_map]; rfl
  rw [this]
  exact q _ rfl
 ·cases e
theorem t_inTop {x:Str} {t:Addr} {ws:List PV} {vs:List V} {op:CmpOp} {neg:Bool} {np:Pos} (ho:OpR X (compareOp op) (rIn X.K neg)) (ha:JB X G a da) (T:TopT X.K t vs) (hg:Gl X x) (hm:X.mg x=some (.ref t)) (hr: ∀ H A,Reps X.K G H A ws vs) (hb:behindInMarks op (.Name x np)=false) (hd:(x == ("__debug__":Str))=false:=by decide) :
  JT X G (.Compare a [op] [.Name x np] pos) (dTr (d2 (fInL neg) da (dC (.tup ws)))):=impT (pt_cmpR ho ha (pe_globR hg hm hd) hb) fun σ H Q ⟨c,ow,ps,b,R,e,q⟩=>by
 obtain ⟨w,e0,e2⟩:=bind_ok e
 obtain ⟨x,e1,e⟩:=bind_ok e0
 refine ⟨c,ow,ps,x,R,e1,fun v H1 s1 r1=> ?_⟩
 have:=in_top (Q:=fun z H'=> ∃ b',z= .bl b'/\Q b' H') e r1 T (hr H1 _) fun z r=>by
  cases w <;> first | (cases e2; exact ⟨_,r,q H1 s1⟩) | cases e2
 exact this
end
end
section
variable {P:Program} {w:World} {K:Fg} {mg:Str->Option Value} {base:Bs} {G:Pg} {n:Nat} {m f:Str} {ms:List Bool}
theorem look_cons {α :Type} {c c':Nat} {x y: α} {l:List (Nat × α)} (h:List.lookup c' ((c,x) :: l)=some y):(c'=c/\y=x)\/l.lookup c'=some y:=by
 rw [List.lookup_cons] at h
 by_cases e:c'=c
 ·subst e
  simp at h
  exact .inl ⟨rfl,h.symm⟩
 ·have:(c' == c)=false:=by simpa using e
  rw [this] at h
  exact .inr h
theorem mt_nil {g:Nat->List PV->Rx PV}:MtOk P w K mg base G n m ms [] g:=⟨fun c f h=>by simp at h⟩
theorem mt_cons {g:Nat->List PV->Rx PV} {c fi:Nat} {l:List (Nat × Nat)} (h:MethAt P w K mg base CX0 n (G.cA c) m (spG K G (false :: ms) (g fi))) (hm:m ∉ G.fN c) (r:MtOk P w K mg base G n m ms l g):MtOk P w K mg base G n m ms ((c,fi) :: l) g :=
 ⟨fun c' f' e=>by
  rcases look_cons e with ⟨rfl,rfl⟩ | e
  ·exact ⟨h,hm⟩
  ·exact r.all c' f' e⟩
theorem fl_nil:FldOk K G f []:=⟨fun c j h=>by simp at h⟩
theorem fl_cons {c j:Nat} {l:List (Nat × Nat)} (h1:Cls K (G.cA c)) (h2:NoAttr K (G.cA c) f) (h3:(G.fN c).Nodup) (h4:(G.fN c)[j]? =some f) (r:FldOk K G f l):FldOk K G f ((c,j) :: l) :=
 ⟨fun c' f' e=>by
  rcases look_cons e with ⟨rfl,rfl⟩ | e
  ·exact ⟨h1,h2,h3,h4⟩
  ·exact r.all c' f' e⟩
theorem is_nil {cv:Value}:IsiOk K G cv []:=⟨fun c j h=>by simp at h,fun c j h=>by simp at h,fun b h=>by simp at h⟩
theorem is_cons {cv:Value} {q:Nat} {b:Bool} {l:List (Nat × Bool)} (h1:PySem.W.kitOne K (tyOfKd G q) cv=some b) (h2:q < 9) (r:IsiOk K G cv l):IsiOk K G cv ((q,b) :: l) :=
 ⟨fun c' f' e=>by
  rcases look_cons e with ⟨rfl,rfl⟩ | e
  ·exact h1
  ·exact r.kit c' f' e,fun c' f' e=>by
  rcases look_cons e with ⟨z,rfl⟩ | e
  ·omega
  ·exact r.cls c' f' e,fun b e=>by
  rcases look_cons e with ⟨z,rfl⟩ | e
  ·omega
  ·exact r.n9 b e⟩
theorem is_consC {cv:Value} {c:Nat} {b:Bool} {l:List (Nat × Bool)} (h1:PySem.W.kitOne K (.ref (G.cA c)) cv=some b) (h2:ClsTy K (G.cA c)) (r:IsiOk K G cv l):IsiOk K G cv ((c + 10,b) :: l) :=
 ⟨fun c' f' e=>by
  rcases look_cons e with ⟨rfl,rfl⟩ | e
  ·exact h1
  ·exact r.kit c' f' e,fun c' f' e=>by
  rcases look_cons e with ⟨z,rfl⟩ | e
  ·have:c'=c:=by omega
   subst this; exact h2
  ·exact r.cls c' f' e,fun b e=>by
  rcases look_cons e with ⟨z,rfl⟩ | e
  ·omega
  ·exact r.n9 b e⟩
theorem clsTy {C:Addr} (h:ClsF K C):ClsTy K C:=fun H a dx fs e=>h.ty e
theorem ref_only {a:Addr}: ∀ u,RelV (V.ref a) u->u=Value.ref a:=fun _ h=>h
theorem ty_only {n:String}: ∀ u,RelV (V.ty n) u->u=Value.type n:=fun _ h=>h
theorem spG_none {f:Addr} {fd:FuncData} {ps:List Str} {g:List PV->Rx PV} (h: ∀ ws,g ws= .bad):FnOk P w K mg base CX0 n f fd ps (spG K G ms g):=fn_none fun vs H Q E ⟨A,ws,w,u,r,e,q⟩=>by rw [h] at e; cases e
end
theorem gk_set {i:Nat}: ∀ (w:PV) (ps ps':PSt),gSet i w ps= .ok ps'-> ∀ (j:Nat) (x:Ow),ps'[j]? =some (Sl.own x)->ps[j]? =some (Sl.own x):=by
 intro w ps ps' e j x h
 cases e
 by_cases hj:j=i
 ·subst hj
  have hl:j < ps.length:=by
   have:=(List.getElem?_eq_some_iff.mp h).1
   simpa using this
  rw [List.getElem?_set_self hl] at h
  cases h
 ·rw [List.getElem?_set_ne (fun z=>hj z.symm)] at h
  exact h
theorem law_sp {K:Fg} {G:Pg} {H:Hp} {a:Addr} {ns:List Int} {g:List PV->Rx PV} (hO:Only H) (hS:SqL K H a (ns.map V.int)) (hg:g [.lst (ns.map PV.int)]= .ok (.bl true)):spG K G [false] g [.ref a] H (fun v _=>v= .bl true) fun _ _ _=>False:=by
 refine ⟨fun _=>False,[.lst (ns.map PV.int)],.bl true,fun a z=>z.elim,⟨_,_,_,_,rfl,rfl,?_,rfl,rfl⟩,hg,fun v H' s r=>r⟩
 rw [if_neg Bool.false_ne_true]
 refine ⟨a,_,rfl,?_,Reps.ints ns⟩
 rcases hS with (h | ⟨o,h⟩) | h
 ·exact .inl ⟨h,fun z=>z⟩
 ·exact .inr (.inl ⟨o,h⟩)
 ·exact .inr (.inr h)
section
variable {X:Cx} {G:Pg} {e a b o tg:Expr} {es:List Expr} {da db:DP} {d:DA} {pos p apos cpos:Pos} {x m:Str} {k i:Nat}
def idx:List PV->PV->Nat->Option Nat
 | [],_,_=>none
 | y :: ys,x,n=>if eqV (flv y) (flv x)=true then some n else idx ys x (n + 1)
theorem idx_of: ∀ {ys:List PV} {x:PV} {n j:Nat},idx ys x n=some j->n<=j/\(∃ y,ys[j - n]? =some y/\eqV (flv y) (flv x)=true)/\ ∀ i y,i < j - n->ys[i]? =some y->eqV (flv y) (flv x)=false
 | [],x,n,j,h=>by cases h
 | y :: ys,x,n,j,h=>by
  unfold idx at h
  split at h
  ·rename_i he
   cases h
   refine ⟨Nat.le_refl _,⟨y,by simp,he⟩,fun i z hi=>absurd hi (by omega)⟩
  ·rename_i he
   obtain ⟨h1,⟨z,h2,h3⟩,h4⟩:=idx_of h
   have hj:j - n=(j - (n + 1)) + 1:=by omega
   refine ⟨by omega,⟨z,by rw [hj]; simpa using h2,h3⟩,fun i w hi e=> ?_⟩
   cases i with
   | zero=>simp at e; subst e; simpa using he
   | succ i=>exact h4 i w (by omega) (by simpa using e)
def dIndex (ws:List PV) (d:DP):DP:=fun ps=>(d ps).bind fun x=>if isF x=true then (match idx ws x 0 with | some j=> .ok (.int j) | none=> .bad) else .bad
theorem p_index {x:Str} {t:Addr} {ws:List PV} {vs:List V} {pos':Pos} (T:TopT X.K t vs) (hg:Gl X x) (hm:X.mg x=some (.ref t)) (hr: ∀ H A,Reps X.K G H A ws vs) (hf:ws.all isF=true) (he:JP X G e da) (hd:(x == ("__debug__":Str))=false:=by decide)
  (hbase:attributeBase (.Name x pos') "index" X.env (eval (.Name x pos') X.env)=eval (.Name x pos') X.env:=by rfl)
  (hfew:((backTo cpos (starEach [e] X.env)).all (fun x=> !x.1) && (backToKw cpos (keywordEach [] X.env)).all (fun x=>x.1.isSome) && decide (([e]:List Expr).length + ([]:List Keyword).length + (if ([]:List Keyword).isEmpty then 0 else 1) < 30))=true:=by rfl)
  (hline:(apos.endLine == cpos.line)=true:=by rfl) (hst:starEach [e] X.env=(false,eval e X.env) :: starEach [] X.env:=by rfl) (hpl:(backTo cpos (starEach ([]:List Expr) X.env)).any (·.1)=false:=by rfl) :
  JP X G (.Call (.Attribute (.Name x pos') "index" apos) [e] [] cpos) (dIndex ws da) :=
 imp (pe_bm PySem.F.plainAttrs_tuple PySem.F.slot_tuple_index PySem.F.type_tuple_index mt_indexT (pe_globR hg hm hd) (pa_cons he pa_nil hst) hbase hfew hline hst hpl) fun σ H Q ⟨c,ow,ps,w,R,e,q⟩=>by
  obtain ⟨y,e1,e2⟩:=bind_ok e
  split at e2
  ·rename_i hy
   split at e2
   ·rename_i j hj
    cases e2
    refine ⟨T.ty H,c,ow,ps,y,R,e1,fun v H' s r=> ?_⟩
    obtain ⟨ev,fv⟩:=rep_flat (G:=G) (.inl r) hy
    obtain ⟨evs,fvs⟩:=reps_flat (hr H' (av c ow)) hf
    obtain ⟨_,⟨z,h2,h3⟩,h4⟩:=idx_of hj
    rw [Nat.sub_zero] at h2 h4
    refine ⟨t,vs,v,j,flv z,rfl,rfl,T.sq H',fv,fvs,by rw [evs,List.getElem?_map,h2]; rfl,by rw [ev]; exact h3,fun i u hi hu=> ?_,q _ H' s rfl⟩
    rw [evs,List.getElem?_map] at hu
    cases q:ws[i]? with
    | none=>rw [q] at hu; cases hu
    | some y'=>rw [q] at hu; cases hu; rw [ev]; exact h4 i y' hi q
   ·cases e2
  ·cases e2
end
def spL (K:Fg) (fN:Nat->List Str) (nF:Nat->Nst) (g:List PV->Rx PV):Sp:=fun vs H Q E=> ∀ cA,spG K ⟨cA,fN,nF⟩ [false] g vs H Q E
theorem law_of {P:Program} {w:World} {K:Fg} {mg:Str->Option Value} {k:Nat} {fa:Addr} {x:Str} {fN:Nat->List Str} {nF:Nat->Nst} {g:List PV->Rx PV} {ts:List Addr}
  (h: ∃ (cA:Nat->Addr) (fd:FuncData),(∀ (s:Shared) (v:Value),BindsTo s fd ⟨[v],[]⟩ [(x,v)])/\ ∀ base:Bs,K.In base->base.Ns mainGlobals mg->base.tabs=ts->FnOk P w K mg base CX0 k fa fd [x] (spG K ⟨cA,fN,nF⟩ [false] g)) :
  ∃ fd:FuncData,(∀ (s:Shared) (v:Value),BindsTo s fd ⟨[v],[]⟩ [(x,v)])/\ ∀ base:Bs,K.In base->base.Ns mainGlobals mg->base.tabs=ts->FnOk P w K mg base CX0 k fa fd [x] (spL K fN nF g):=by
 obtain ⟨cA,fd,h1,h2⟩:=h
 exact ⟨fd,h1,fun base k1 k2 k3=>(h2 base k1 k2 k3).imp fun vs H Q E q=>q cA⟩
end DN
end
section
namespace DN
open PySem L2
def fin:Rs->Rx PV
 | .ret w=> .ok w
 | .retn xs=> .ok (.lst xs)
 | .nx _=> .ok .non
 | .exc c=> .exc c
 | _=> .bad
theorem runD_eq (ms:List Bool) (n:Nat) (d:DS) (ws:List PV):runD ms n d ws=if ws.length=ms.length then fin (d (inP ms n ws)) else .bad:=by
 unfold runD fin
 split
 ·cases d (inP ms n ws) <;> rfl
 ·rfl
theorem runD_of {ms:List Bool} {n:Nat} {d:DS} {ws:List PV} (h:ws.length=ms.length):runD ms n d ws=fin (d (inP ms n ws)):=by rw [runD_eq,if_pos h]
@[simp] theorem fin_ret (w:PV):fin (.ret w)= .ok w:=rfl
@[simp] theorem fin_retn (xs:List PV):fin (.retn xs)= .ok (.lst xs):=rfl
def finW:Rs->Rx PV
 | .retn xs=> .ok (.lst xs)
 | .exc c=> .exc c
 | _=> .bad
@[simp] theorem finW_retn (xs:List PV):finW (.retn xs)= .ok (.lst xs):=rfl
@[simp] theorem finW_exc (c:Nat):finW (.exc c)= .exc c:=rfl
@[simp] theorem fin_nx (ps:PSt):fin (.nx ps)= .ok .non:=rfl
@[simp] theorem fin_exc (c:Nat):fin (.exc c)= .exc c:=rfl
def isiK (l:List (Nat × Bool)) (q:Nat):Rx PV:=match l.lookup q with | some b=> .ok (.bl b) | none=> .bad
def isiP (l:List (Nat × Bool)) (x:PV):Rx PV:=isiK l (kd x)
@[simp] theorem isiP_non (l:List (Nat × Bool)):isiP l .non=isiK l 0:=rfl
@[simp] theorem isiP_bl (l:List (Nat × Bool)) (b:Bool):isiP l (.bl b)=isiK l 1:=rfl
@[simp] theorem isiP_int (l:List (Nat × Bool)) (b:Int):isiP l (.int b)=isiK l 2:=rfl
@[simp] theorem isiP_str (l:List (Nat × Bool)) (b:Str):isiP l (.str b)=isiK l 3:=rfl
@[simp] theorem isiP_tup (l:List (Nat × Bool)) (b:List PV):isiP l (.tup b)=isiK l 4:=rfl
@[simp] theorem isiP_lst (l:List (Nat × Bool)) (b:List PV):isiP l (.lst b)=isiK l 5:=rfl
@[simp] theorem isiP_obj (l:List (Nat × Bool)) (k:Nat) (b:List PV):isiP l (.obj k b)=isiK l (k + 10):=rfl
def Rs.next (x:Rs) (r:DS):Rs:=match x with | .nx ps'=>r ps' | y=>y
def ifR (x:Rx Bool) (s r:DS) (ps:PSt):Rs:=x.st fun b=>if b=true then s ps else r ps
def andR (x:Rx Bool) (u:DT) (ps:PSt):Rx Bool:=x.bind fun b=>if b=true then u ps else .ok false
def orR (x:Rx Bool) (u:DT) (ps:PSt):Rx Bool:=x.bind fun b=>if b=true then .ok true else u ps
def andVR (x:Rx PV) (b:DP) (ps:PSt):Rx PV:=x.bind fun y=>match y with | .bl true=>b ps | .bl false=> .ok (.bl false) | _=> .bad
def orVR (x:Rx PV) (b:DP) (ps:PSt):Rx PV:=x.bind fun y=>match y with | .bl true=> .ok (.bl true) | .bl false=>b ps | _=> .bad
def ifVR (x:Rx Bool) (a b:DP) (ps:PSt):Rx PV:=x.bind fun y=>if y=true then a ps else b ps
def bind2 (x y:Rx PV) (f:PV->PV->Rx PV):Rx PV:=x.bind fun u=>y.bind fun v=>f u v
def consR (x:Rx PV) (xs:Rx (List PV)):Rx (List PV):=x.bind fun u=>xs.bind fun us=> .ok (u :: us)
section
variable (ps:PSt) (i:Nat) (a b:DP) (d:DA) (t u:DT) (s r:DS) (f:PV->PV->Rx PV)
@[simp] theorem next_nx:(Rs.nx ps).next r=r ps:=rfl
@[simp] theorem next_ret (w:PV):(Rs.ret w).next r= .ret w:=rfl
@[simp] theorem next_retn (xs:List PV):(Rs.retn xs).next r= .retn xs:=rfl
@[simp] theorem next_reti (w:PV) (x:Ow):(Rs.reti w x).next r= .reti w x:=rfl
@[simp] theorem next_brk:(Rs.brk ps).next r= .brk ps:=rfl
@[simp] theorem next_cnt:(Rs.cnt ps).next r= .cnt ps:=rfl
@[simp] theorem next_exc (c:Nat):(Rs.exc c).next r= .exc c:=rfl
@[simp] theorem ifR_t:ifR (.ok true) s r ps=s ps:=rfl
@[simp] theorem ifR_f:ifR (.ok false) s r ps=r ps:=rfl
@[simp] theorem ifR_x (c:Nat):ifR (.exc c) s r ps= .exc c:=rfl
@[simp] theorem andR_t:andR (.ok true) t ps=t ps:=rfl
@[simp] theorem andR_f:andR (.ok false) t ps= .ok false:=rfl
@[simp] theorem orR_t:orR (.ok true) t ps= .ok true:=rfl
@[simp] theorem orR_f:orR (.ok false) t ps=t ps:=rfl
@[simp] theorem andVR_t:andVR (.ok (.bl true)) b ps=b ps:=rfl
@[simp] theorem andVR_f:andVR (.ok (.bl false)) b ps= .ok (.bl false):=rfl
@[simp] theorem orVR_t:orVR (.ok (.bl true)) b ps= .ok (.bl true):=rfl
@[simp] theorem orVR_f:orVR (.ok (.bl false)) b ps=b ps:=rfl
@[simp] theorem ifVR_t:ifVR (.ok true) a b ps=a ps:=rfl
@[simp] theorem ifVR_f:ifVR (.ok false) a b ps=b ps:=rfl
@[simp] theorem bind2_ok (x y:PV):bind2 (.ok x) (.ok y) f=f x y:=rfl
@[simp] theorem consR_ok (x:PV) (xs:List PV):consR (.ok x) (.ok xs)= .ok (x :: xs):=rfl
@[simp] theorem e_var:dVar i ps=match ps[i]? with | some (.v w)=> .ok w | _=> .bad:=rfl
@[simp] theorem e_see:dSee i ps=match ps[i]? with | some (.v w)=> .ok w | some (.own x)=> .ok x.pv | some (.bor w)=> .ok w | some (.dol ks xss)=> .ok (.dbo ks (xss.map PV.lst)) | _=> .bad:=rfl
@[simp] theorem e_C (w:PV):dC w ps= .ok w:=rfl
@[simp] theorem e_2:d2 f a b ps=bind2 (a ps) (b ps) f:=rfl
@[simp] theorem e_Tr:dTr a ps=(a ps).bind fun x=>match x with | .bl b=> .ok b | _=> .bad:=rfl
@[simp] theorem e_andT:dAndT t u ps=andR (t ps) u ps:=rfl
@[simp] theorem e_orT:dOrT t u ps=orR (t ps) u ps:=rfl
@[simp] theorem e_notT:dNotT t ps=(t ps).bind fun x=> .ok (!x):=rfl
@[simp] theorem e_andV:dAndV a b ps=andVR (a ps) b ps:=rfl
@[simp] theorem e_orV:dOrV a b ps=orVR (a ps) b ps:=rfl
@[simp] theorem e_notV:dNotV a ps=(a ps).bind fun x=>match x with | .bl k=> .ok (.bl (!k)) | _=> .bad:=rfl
@[simp] theorem e_neg:dNeg a ps=(a ps).bind fun x=>match x with | .int i=> .ok (.int (-i)) | _=> .bad:=rfl
@[simp] theorem e_ifV:dIfV t a b ps=ifVR (t ps) a b ps:=rfl
@[simp] theorem e_isN:dIsN a ps=(a ps).bind fun x=> .ok (.bl (isN x)):=rfl
@[simp] theorem e_notN:dNotN a ps=(a ps).bind fun x=> .ok (.bl (!isN x)):=rfl
@[simp] theorem e_nil:dNil ps= .ok []:=rfl
@[simp] theorem e_cons:dCons a d ps=consR (a ps) (d ps):=rfl
@[simp] theorem e_tup:dTup d ps=(d ps).bind fun ws=> .ok (.tup ws):=rfl
@[simp] theorem e_ofN:dOfN d ps=(d ps).bind fun ws=> .ok (.lst ws):=rfl
@[simp] theorem e_call (g:List PV->Rx PV):dCall g d ps=(d ps).bind g:=rfl
@[simp] theorem e_callN (g:List PV->Rx (List PV)):dCallN g d ps=(d ps).bind g:=rfl
@[simp] theorem e_new (c:Nat):dNew c d ps=(d ps).bind fun ws=> .ok (.obj c ws):=rfl
@[simp] theorem e_items:dItems a ps=(a ps).bind fun x=>match x with | .lst xs=> .ok xs | _=> .bad:=rfl
@[simp] theorem e_itemsT:dItemsT a ps=(a ps).bind fun x=>match x with | .tup xs=> .ok xs | _=> .bad:=rfl
@[simp] theorem e_isi (l:List (Nat × Bool)):dIsi l a ps=(a ps).bind (isiP l):=rfl
@[simp] theorem e_cut (dl dh:PSt->Rx (Option Int)):dCut a dl dh ps=(a ps).bind fun x=>(dl ps).bind fun lo=>(dh ps).bind fun hi=>match x with | .lst xs=> .ok (cutP xs lo hi) | _=> .bad:=rfl
@[simp] theorem e_O0:dO0 ps= .ok none:=rfl
@[simp] theorem e_O1:dO1 a ps=(a ps).bind fun x=>match x with | .int i=> .ok (some i) | _=> .bad:=rfl
@[simp] theorem e_catL:dCatL a b ps=(a ps).bind fun x=>(b ps).bind fun y=>match x,y with | .lst xs,.lst ys=>if xs.length + ys.length<=sizeLine then .ok (xs ++ ys) else .bad | _,_=> .bad:=rfl
@[simp] theorem e_next:sNext ps= .nx ps:=rfl
@[simp] theorem e_brk:sBrk ps= .brk ps:=rfl
@[simp] theorem e_cnt:sCnt ps= .cnt ps:=rfl
@[simp] theorem e_seq:sSeq s r ps=(s ps).next r:=rfl
@[simp] theorem e_set:sSet i a ps=(a ps).st fun w=> .nx (ps.set i (.v w)):=rfl
@[simp] theorem e_setM (m:DM):sSetM i m ps=(m ps).st fun w=> .nx (w.2.set i (.v w.1)):=rfl
@[simp] theorem e_own:sOwn i d ps=(d ps).st fun ws=>if i < ps.length then .nx (ps.set i (.own (.lst ws))) else .bad:=rfl
@[simp] theorem e_asg (g:DG):sAsg g a ps=(a ps).st fun w=>(g w ps).st fun ps'=> .nx ps':=rfl
@[simp] theorem e_expr (m:DM):sExpr m ps=(m ps).st fun w=> .nx w.2:=rfl
@[simp] theorem e_retW:sRetW d ps=(d ps).st fun xs=> .retn xs:=rfl
@[simp] theorem e_retO:sRetO i ps=match ps[i]? with | some (.own (.lst xs))=> .retn xs | _=> .bad:=rfl
@[simp] theorem e_ret:sRet a ps=(a ps).st fun w=> .ret w:=rfl
@[simp] theorem e_retM (m:DM):sRetM m ps=(m ps).st fun w=> .ret w.1:=rfl
@[simp] theorem e_retN:sRetN ps= .ret .non:=rfl
@[simp] theorem e_if:sIf t s r ps=ifR (t ps) s r ps:=rfl
@[simp] theorem e_for (g:DG):sFor d g s ps=(d ps).st fun ws=>forD g s ws ps:=rfl
@[simp] theorem e_lift:dLift a ps=(a ps).bind fun w=> .ok (w,ps):=rfl
@[simp] theorem e_mnil:mNil ps= .ok ([],ps):=rfl
@[simp] theorem e_mcons (m:DM) (n:DMA):mCons m n ps=(m ps).bind fun x=>(n x.2).bind fun y=> .ok (x.1 :: y.1,y.2):=rfl
@[simp] theorem e_mtup (n:DMA):mTup n ps=(n ps).bind fun x=>if x.1.length<=1000 then .ok (.tup x.1,x.2) else .bad:=rfl
@[simp] theorem e_mcall (n:DMA) (g:List PV->Rx PV):mCall g n ps=(n ps).bind fun x=>(g x.1).bind fun w=> .ok (w,x.2):=rfl
@[simp] theorem e_frz:mFrz i ps=match ps[i]? with | some (.own y)=> .ok (y.pv,ps.set i (.v y.pv)) | some (.v w)=> .ok (w,ps) | _=> .bad:=rfl
@[simp] theorem e_pop:mPop i ps=match ps[i]? with | some (.own (.lst xs))=>(match xs.getLast? with | some w=> .ok (w,ps.set i (.own (.lst xs.dropLast))) | none=> .bad) | _=> .bad:=rfl
@[simp] theorem e_app (m:DM):mApp i m ps=match ps[i]? with
 | some (.own (.lst _))=>(m ps).bind fun x=>(match x.2[i]? with | some (.own (.lst xs))=>if xs.length < sizeLine then .ok (.non,x.2.set i (.own (.lst (xs ++ [x.1])))) else .bad | _=> .bad)
 | _=> .bad:=rfl
@[simp] theorem e_gset (w:PV):gSet i w ps= .ok (ps.set i (.v w)):=rfl
@[simp] theorem e_gnil:gNilD [] ps= .ok ps:=rfl
@[simp] theorem e_gcons (g:DG) (gs:List PV->PSt->Rx PSt) (w:PV) (ws:List PV):gConsD g gs (w :: ws) ps=(g w ps).bind fun ps'=>gs ws ps':=rfl
@[simp] theorem e_gtup (n:Nat) (gs:List PV->PSt->Rx PSt) (ws:List PV):gTupD n gs (.tup ws) ps=if ws.length=n then gs ws ps else .bad:=rfl
@[simp] theorem e_fIi (g:Int->Int->PV) (x y:Int):fI g (.int x) (.int y)= .ok (g x y):=rfl
@[simp] theorem e_fIc (C:Int->Int->Prop) [∀ i j,Decidable (C i j)] (g:Int->Int->PV) (x y:Int):fIc C g (.int x) (.int y)=if C x y then .ok (g x y) else .bad:=rfl
@[simp] theorem e_eqI (x y:Int):fEq (.int x) (.int y)= .ok (.bl (x == y)):=rfl
@[simp] theorem e_eqS (x y:Str):fEq (.str x) (.str y)= .ok (.bl (x == y)):=rfl
@[simp] theorem e_eqB (x y:Bool):fEq (.bl x) (.bl y)= .ok (.bl (x == y)):=rfl
@[simp] theorem e_neI (x y:Int):fNe (.int x) (.int y)= .ok (.bl (!(x == y))):=rfl
@[simp] theorem e_neS (x y:Str):fNe (.str x) (.str y)= .ok (.bl (!(x == y))):=rfl
@[simp] theorem e_neB (x y:Bool):fNe (.bl x) (.bl y)= .ok (.bl (!(x == y))):=rfl
@[simp] theorem e_ixL (xs:List PV) (j:Int):fIx (.lst xs) (.int j)=match atI xs j with | some w=> .ok w | none=> .bad:=rfl
@[simp] theorem e_ixT (xs:List PV) (j:Int):fIx (.tup xs) (.int j)=match atI xs j with | some w=> .ok w | none=> .bad:=rfl
@[simp] theorem e_lenL (xs:List PV):bLen [.lst xs]= .ok (.int xs.length):=rfl
@[simp] theorem e_lenT (xs:List PV):bLen [.tup xs]= .ok (.int xs.length):=rfl
@[simp] theorem e_fornil (g:DG):forD g s [] ps= .nx ps:=rfl
end
def callM (tab:List (Nat × Nat)) (g:Nat->List PV->Rx PV) (x:PV) (ws:List PV):Rx PV:=match x with
 | .obj c xs=>(match tab.lookup c with | some f=>g f (.obj c xs :: ws) | none=> .bad)
 | _=> .bad
def callD (tab:List (Nat × Nat)) (g:Nat->List PV->Rx PV) (x:PV) (m:Rx (List PV)):Rx PV:=match x with
 | .obj c xs=>(match tab.lookup c with | some f=>m.bind fun ws=>g f (.obj c xs :: ws) | none=> .bad)
 | _=> .bad
@[simp] theorem callD_ok (tab:List (Nat × Nat)) (g:Nat->List PV->Rx PV) (x:PV) (ws:List PV):callD tab g x (.ok ws)=callM tab g x ws:=rfl
@[simp] theorem e_meth (tab:List (Nat × Nat)) (g:Nat->List PV->Rx PV) (a:DP) (d:DA) (ps:PSt):dMeth tab g a d ps=(a ps).bind fun x=>callD tab g x (d ps):=rfl
def fldP (l:List (Nat × Nat)) (x:PV):Rx PV:=match x with
 | .obj k xs=>(match l.lookup k with | some j=>(match xs[j]? with | some w=> .ok w | none=> .bad) | none=> .bad)
 | _=> .bad
@[simp] theorem e_fld (l:List (Nat × Nat)) (a:DP) (ps:PSt):dFld l a ps=(a ps).bind (fldP l):=rfl
end DN
end
section
namespace DN
open PySem PySem.Spec PyProof.Rows L2
section
variable {X:Cx} {G:Pg} {e a b o tg:Expr} {es:List Expr} {da db:DP} {d:DA} {pos p p2 apos cpos:Pos} {x m:Str} {k i:Nat}
def dLRng (d:DA):DA:=fun ps=>(d ps).bind fun ws=>match ws with | [.int j]=>if -(2 ^ 62)<=j/\j<=2 ^ 24 then .ok (rngP 0 j.toNat) else .bad | _=> .bad
end
@[simp] theorem e_lrng (ps:PSt) (d:DA):dLRng d ps=(d ps).bind fun ws=>match ws with | [.int j]=>if -(2 ^ 62)<=j/\j<=2 ^ 24 then .ok (rngP 0 j.toNat) else .bad | _=> .bad:=rfl
def dIsiT (l m:List (Nat × Bool)) (d:DP):DP:=fun ps=>(d ps).bind fun x=>match l.lookup (kd x),m.lookup (kd x) with | some a,some b=> .ok (.bl (a || b)) | _,_=> .bad
section
variable {X:Cx} {G:Pg} {e c1 c2:Expr} {da:DP} {pos p:Pos}
theorem kit2 {K:Fg} {t a b:Value} {x y:Bool} (h1:PySem.W.kitOne K t a=some x) (h2:PySem.W.kitOne K t b=some y):PySem.W.kitAny K t [a,b]=some (x || y):=by
 unfold PySem.W.kitAny
 rw [h1]
 cases x with
 | true=>rfl
 | false =>
  show PySem.W.kitAny K t [b]=some y
  unfold PySem.W.kitAny
  rw [h2]
  cases y <;> rfl
theorem call_isiT (C D:Addr) (l m:List (Nat × Bool)) (ok:IsiOk X.K G (.ref C) l) (ok2:IsiOk X.K G (.ref D) m):CallR X (.builtin "isinstance") (fun xs H Q=> ∃ A w v tp a b,xs=[v,.ref tp]/\H tp=some (.tup [.ref C,.ref D])/\RepB X.K G H A w v/\l.lookup (kd w)=some a/\m.lookup (kd w)=some b/\Q (.bl (a || b)) H):=by
 intro pins s σ H xs us Q I r h
 obtain ⟨A,w,v,tp,a,b,rfl,hT,rw',hl,hm,q⟩:=h
 obtain ⟨u,u',rfl,ru,rc⟩:=vals2 r
 obtain rfl:u'=Value.ref tp:=rc
 have k1:=ok.kit _ _ hl
 have k2:=ok2.kit _ _ hm
 have kit:=kit2 k1 k2
 obtain ⟨its,ri,⟨⟨tc,tdd,td,tsl⟩,h1,h2,n,h3⟩,_⟩:=I.tuple (SqT.of hT)
 simp only at h2 h3
 subst h2 h3
 have ei:its=[.ref C,.ref D]:=by
  cases ri with
  | cons r1 rr =>
   cases rr with
   | cons r2 rr =>
    cases rr
    rw [show _=Value.ref C from r1,show _=Value.ref D from r2]
 subst ei
 have fin: ∀ tk,EP X pins σ Q (.bool (a || b)) { s with toks:=tk }:=fun tk=>⟨.bl _,H,I.tok tk,rfl,q⟩
 cases w with
 | non=>rw [rw'.non] at ru; cases (show u=Value.none from ru); exact PySem.W.kia_tup PySem.W.kitx_none I.kIn True.intro h1 kit (fun z=>nomatch z) fin
 | bl k=>rw [rw'.bl] at ru; cases (show u=Value.bool k from ru); exact PySem.W.kia_tup PySem.W.kitx_bool I.kIn True.intro h1 kit (fun z=>nomatch z) fin
 | int i=>rw [rw'.int] at ru; obtain ⟨t,q⟩:=(show ∃ t,u=Value.int i t from ru); cases q; exact PySem.W.kia_tup PySem.W.kitx_int I.kIn True.intro h1 kit (fun z=>nomatch z) fin
 | str i=>rw [rw'.str] at ru; obtain ⟨t,q⟩:=(show ∃ t,u=Value.str i t from ru); cases q; exact PySem.W.kia_tup PySem.W.kitx_str I.kIn True.intro h1 kit (fun z=>nomatch z) fin
 | tup ws =>
  obtain ⟨a,vs,rfl,sq,rs⟩:=rw'.tup
  cases (show u=Value.ref a from ru)
  obtain ⟨its,_,p,_⟩:=I.tuple sq
  obtain ⟨o,h1',h2',_⟩:=p
  exact PySem.W.kia_tup PySem.W.kitx_tuple I.kIn ⟨o,h1',h2'⟩ h1 kit (fun z=>nomatch z) fin
 | lst ws =>
  obtain ⟨a,vs,rfl,sq,rs⟩:=rw'.lst
  cases (show u=Value.ref a from ru)
  obtain ⟨its,_,⟨o,n,h1',h2',_⟩,_⟩:=I.list sq
  exact PySem.W.kia_tup PySem.W.kitx_list I.kIn ⟨o,h1',h2'⟩ h1 kit (fun z=>nomatch z) fin
 | clo f ws=>exact absurd hl (ok.n9 _)
 | dit ks ws=>exact absurd hl (ok.n9 _)
 | dbo ks ws=>exact absurd hl (ok.n9 _)
 | exn _=>exact absurd hl (ok.n9 _)
 | dic ks ws =>
  obtain ⟨a,vs,ep,rfl,hH,_,rs⟩:=rw'.dic
  cases (show u=Value.ref a from ru)
  obtain ⟨_,_,vs,_,p⟩:=(show ObjOk X.prog X.w H s.heap a (.dK _ _) from I.hok a _ hH)
  obtain ⟨o,es,h1',h2',_⟩:=p
  exact PySem.W.kia_tup PySem.W.kitx_dict I.kIn ⟨o,h1',h2'.1⟩ h1 kit (fun z=>nomatch z) fin
 | obj k ws =>
  obtain ⟨a,dx,vs,rfl,hH,_,rs⟩:=rw'.obj
  cases (show u=Value.ref a from ru)
  have ty:=ok.cls k _ hl H a dx _ hH
  cases ty with
  | ins ea cl ha hn htk hm =>
   obtain ⟨mA,O,_⟩:=ins_get I.hok ea
   obtain ⟨od,J,_⟩:=O.look
   exact PySem.W.kia_tup (PySem.W.kitx_own (cl.get _) cl.hd ha hn htk hm) I.kIn J h1 kit (fun z=>nomatch z) fin
theorem p_isiT {C D:Addr} {l m:List (Nat × Bool)} {k:Nat} {pt:Pos} (hg:Gl X "isinstance") (hm:X.mg "isinstance"=none) (ok:IsiOk X.K G (.ref C) l) (ok2:IsiOk X.K G (.ref D) m) (ha:JB X G e da) (h1:PE X c1 (tC (.ref C))) (h2:PE X c2 (tC (.ref D)))
  (he:starEach [e,.Tuple [c1,c2] k pt] X.env=(false,eval e X.env) :: starEach [.Tuple [c1,c2] k pt] X.env:=by rfl) (he2:starEach [.Tuple [c1,c2] k pt] X.env=(false,eval (.Tuple [c1,c2] k pt) X.env) :: starEach [] X.env:=by rfl)
  (he3:starEach [c1,c2] X.env=(false,eval c1 X.env) :: starEach [c2] X.env:=by rfl) (he4:starEach [c2] X.env=(false,eval c2 X.env) :: starEach [] X.env:=by rfl) (hpl:(backTo pos (starEach [.Tuple [c1,c2] k pt] X.env)).any (·.1)=false:=by rfl) :
  JP X G (.Call (.Name "isinstance" p) [e,.Tuple [c1,c2] k pt] [] pos) (dIsiT l m da) :=
 imp (pe_callB (call_isiT C D l m ok ok2) hg hm boot_isinstance (pa_cons ha (pa_cons (pe_tup (pa_cons h1 (pa_cons h2 pa_nil he4) he3)) pa_nil he2) he) (by decide) (by decide) he hpl) fun σ H Q ⟨c,ow,ps,w,R,e,q⟩=>by
  obtain ⟨x,e1,e2⟩:=bind_ok e
  refine ⟨c,ow,ps,x,R,e1,fun v H' s r=>⟨by show 2<=sizeLine; decide,fun tp htp=> ?_⟩⟩
  have s2:=same_upd htp (.tup [.ref C,.ref D])
  split at e2
  ·rename_i a b hl hm
   cases e2
   exact ⟨_,x,v,tp,a,b,rfl,upd_same,r.same s2,hl,hm,q _ _ (s.trans s2) rfl⟩
  ·cases e2
end
def isiP2 (l m:List (Nat × Bool)) (x:PV):Rx PV:=match l.lookup (kd x),m.lookup (kd x) with | some a,some b=> .ok (.bl (a || b)) | _,_=> .bad
@[simp] theorem e_isiT (l m:List (Nat × Bool)) (a:DP) (ps:PSt):dIsiT l m a ps=(a ps).bind (isiP2 l m):=rfl
end DN
end
section
namespace DN
open PySem L2
end DN
end
section
namespace L2
open PySem PySem.Spec PyProof.Rows
section
variable {X:Cx} {tg:Expr}
end
end L2
namespace DN
open PySem PySem.Spec PyProof.Rows L2
def sgP (x:Str):List PV:=x.cps.toList.map fun c=>PV.str ⟨#[c]⟩
section
variable {X:Cx} {G:Pg} {e a b o tg iter:Expr} {es:List Expr} {body:List Stmt} {da db dk dv:DP} {d:DA} {ds:DS} {pos pos' p apos:Pos} {x m:Str} {k i:Nat} {ms:List Bool}
def dItemsS (d:DP):DA:=fun ps=>(d ps).bind fun x=>match x with | .str y=> .ok (sgP y) | _=> .bad
@[simp] theorem e_itemsS (d:DP) (ps:PSt) (y:Str) (h:d ps= .ok (.str y)):dItemsS d ps= .ok (sgP y):=by unfold dItemsS; rw [h]; rfl
def keyP:PV->Option Key
 | .int i=>some (.inl i)
 | .str y=>some (.inr y)
 | _=>none
def inK (ks:List Key) (k:Key):Bool:=ks.any fun k'=>decide (k'=k)
def putXs {α :Type} (ks:List Key) (xs:List α) (k:Key) (w: α):List α :=if inK ks k=true then List.zipWith (fun k' x=>if k'=k then w else x) ks xs else xs ++ [w]
theorem reps_zw {K:Fg} {H:Hp} {A:Av} {k:Key} {w:PV} {v:V} (r:Rep K G H A w v): ∀ {ks:List Key} {ws:List PV} {vs:List V},Reps K G H A ws vs->Reps K G H A (List.zipWith (fun k' x=>if k'=k then w else x) ks ws) (List.zipWith (fun k' x=>if k'=k then v else x) ks vs)
 | [],ws,vs,h=>rfl
 | a :: ks,[],vs,h=>by have h:vs=[]:=h; subst h; rfl
 | a :: ks,x :: ws,vs,h=>by
  obtain ⟨u,rr,rfl,h1,h2⟩:=h
  refine ⟨_,_,rfl,?_,reps_zw r h2⟩
  by_cases e:a=k
  ·simp only [if_pos e]; exact r
  ·simp only [if_neg e]; exact h1
theorem Reps.put {K:Fg} {H:Hp} {A:Av} {ks:List Key} {k:Key} {w:PV} {v:V} {ws:List PV} {vs:List V} (h:Reps K G H A ws vs) (r:Rep K G H A w v):Reps K G H A (putXs ks ws k w) (putXs ks vs k v):=by
 unfold putXs
 split
 ·exact reps_zw r h
 ·exact h.snoc r
end
section
variable {K:Fg} {G:Pg} {H:Hp} {A:Av}
end
section
variable {X:Cx} {G:Pg} {e a b o i f value:Expr} {es:List Expr} {da db dd dk dv:DP} {d:DA} {dm:DM} {pos pos' p apos cpos tpos:Pos} {x:Str} {j:Nat}
end
end DN
end
section
namespace L2
open PySem PySem.Spec PyProof.Rows
end L2
namespace DN
open PySem PySem.Spec PyProof.Rows L2
section
variable {X:Cx} {G:Pg} {e a b o tg:Expr} {es:List Expr} {da db:DP} {d:DA} {dm:DM} {ds du:DS} {pos p apos cpos:Pos} {x m:Str} {k i:Nat} {ms:List Bool}
def enumFrom:Nat->List PV->List PV
 | _,[]=>[]
 | k,w :: ws=> .tup [.int (k:Int),w] :: enumFrom (k + 1) ws
def dEnum (d:DP):DA:=fun ps=>(d ps).bind fun x=>match x with | .lst xs=> .ok (enumFrom 0 xs) | _=> .bad
def sForE (d:DP) (g:DG) (body:DS):DS:=sFor (dEnum d) g body
def mExt (i:Nat) (d:DA):DM:=fun ps=>match ps[i]? with
 | some (.own (.lst xs))=>(d ps).bind fun ys=>if xs.length + ys.length<=sizeLine then .ok (.non,ps.set i (.own (.lst (xs ++ ys)))) else .bad
 | _=> .bad
def mClr (i:Nat):DM:=fun ps=>match ps[i]? with
 | some (.own (.lst _))=> .ok (.non,ps.set i (.own (.lst [])))
 | _=> .bad
theorem Reps.reverse {K:Fg} {H:Hp} {A:Av}: ∀ {ws:List PV} {vs:List V},Reps K G H A ws vs->Reps K G H A ws.reverse vs.reverse
 | [],vs,h=>by have h:vs=[]:=h; subst h; rfl
 | w :: ws,vs,h=>by
  obtain ⟨v,r,rfl,h1,h2⟩:=h
  rw [List.reverse_cons,List.reverse_cons]
  exact (Reps.reverse h2).snoc h1
def mRev (i:Nat):DM:=fun ps=>match ps[i]? with
 | some (.own (.lst xs))=> .ok (.non,ps.set i (.own (.lst xs.reverse)))
 | _=> .bad
def dCutT (d:DP) (dl dh:PSt->Rx (Option Int)):DP:=fun ps=>(d ps).bind fun x=>(dl ps).bind fun lo=>(dh ps).bind fun hi=>match x with
 | .tup xs=>if HT.sIx xs.length 0 lo=0/\HT.sIx xs.length xs.length hi=xs.length then .bad else .ok (.tup (cutP xs lo hi))
 | _=> .bad
def fCatT:PV->PV->Rx PV
 | .tup xs,.tup ys=>if xs ≠ []/\xs.length + ys.length<=sizeLine then .ok (.tup (xs ++ ys)) else .bad
 | _,_=> .bad
def dRep (d:DA) (b:DP):DA:=fun ps=>(d ps).bind fun xs=>(b ps).bind fun y=>match y with
 | .int k=>if 0<=k/\k < 2 ^ 62/\xs.length * k.toNat<=sizeLine then .ok (List.replicate k.toNat xs).flatten else .bad
 | _=> .bad
theorem Reps.rep {K:Fg} {H:Hp} {A:Av} {ws:List PV} {vs:List V} (h:Reps K G H A ws vs): ∀ n:Nat,Reps K G H A (List.replicate n ws).flatten (List.replicate n vs).flatten
 | 0=>rfl
 | n + 1=>by
  rw [List.replicate_succ,List.flatten_cons,List.replicate_succ,List.flatten_cons]
  exact h.app (Reps.rep h n)
def dCallW (g:List PV->Rx PV) (d:DA):DA:=fun ps=>(d ps).bind fun ws=>(g ws).bind fun w=>match w with | .lst xs=> .ok xs | _=> .bad
variable (ps:PSt)
@[simp] theorem e_ext:mExt i d ps=match ps[i]? with
 | some (.own (.lst xs))=>(d ps).bind fun ys=>if xs.length + ys.length<=sizeLine then .ok (.non,ps.set i (.own (.lst (xs ++ ys)))) else .bad
 | _=> .bad:=rfl
@[simp] theorem e_clr:mClr i ps=match ps[i]? with
 | some (.own (.lst _))=> .ok (.non,ps.set i (.own (.lst [])))
 | _=> .bad:=rfl
@[simp] theorem e_rev:mRev i ps=match ps[i]? with
 | some (.own (.lst xs))=> .ok (.non,ps.set i (.own (.lst xs.reverse)))
 | _=> .bad:=rfl
@[simp] theorem e_forE (g:DG):sForE da g ds ps=(dEnum da ps).st fun ws=>forD g ds ws ps:=rfl
@[simp] theorem e_enum:dEnum da ps=(da ps).bind fun x=>match x with | .lst xs=> .ok (enumFrom 0 xs) | _=> .bad:=rfl
@[simp] theorem e_cutT (dl dh:PSt->Rx (Option Int)):dCutT da dl dh ps=(da ps).bind fun x=>(dl ps).bind fun lo=>(dh ps).bind fun hi=>match x with
 | .tup xs=>if HT.sIx xs.length 0 lo=0/\HT.sIx xs.length xs.length hi=xs.length then .bad else .ok (.tup (cutP xs lo hi))
 | _=> .bad:=rfl
@[simp] theorem e_catT (xs ys:List PV):fCatT (.tup xs) (.tup ys)=if xs ≠ []/\xs.length + ys.length<=sizeLine then .ok (.tup (xs ++ ys)) else .bad:=rfl
@[simp] theorem e_rep:dRep d db ps=(d ps).bind fun xs=>(db ps).bind fun y=>match y with
 | .int k=>if 0<=k/\k < 2 ^ 62/\xs.length * k.toNat<=sizeLine then .ok (List.replicate k.toNat xs).flatten else .bad
 | _=> .bad:=rfl
@[simp] theorem e_callW (g:List PV->Rx PV):dCallW g d ps=(d ps).bind fun ws=>(g ws).bind fun w=>match w with | .lst xs=> .ok xs | _=> .bad:=rfl
end
end DN
end
section
namespace L2
open PySem PySem.Spec PyProof.Rows
section
variable {X:Cx} {pins:List (Addr × Obj)} {σ :St} {H:Hp} {s s1:Shared} {scope:Scope} {own:List Str} {caps:List (Str × Nat)} {fp:List Addr}
def tCompS (own:List Str) (caps:List (Str × Nat)) (wi:TI) (g:TG) (tc:TT) (te:TE) (i:Nat):TS:=fun D σ H=>wi σ H (CompGo own caps g tc te σ fun v H'=>D.nx (σ.set i (some v)) H')
theorem ps_comp {elt tg iter:Expr} {ifs:List Expr} {pos spos px:Pos} {wi:TI} {g:TG} {tc:TT} {te:TE} {j:Nat} {x:Str} (hN:X.N.Nodup) (hi':X.N[j]? =some x) (hx:Loc X.env.scope x) (S:CompScope X scope own caps) (hc:X.calm=true) (hi:PI X tg iter wi)
  (hg: ∀ C s₀ H₀ fp,PG (cxB X scope C (capN own caps) s₀ H₀ fp) tg g) (ht: ∀ C s₀ H₀ fp,PTs (cxB X scope C (capN own caps) s₀ H₀ fp) ifs tc) (he: ∀ C s₀ H₀ fp,PE (cxB X scope C (capN own caps) s₀ H₀ fp) elt te)
  (hsw:swapsWith (.ListComp elt [⟨tg,iter,ifs,0⟩] scope pos) (some (.Name x px)) spos.line X.env=pure true:=by rfl) (hs: ∀ x,foldedSetIterable iter X.env x=pure x:=by intro _; rfl)
  (hf:X.fn x=true\/X.env.scope.names.lookup x=some .local:=by first | exact .inl rfl | exact .inr rfl | assumption):PS X (.Assign [.Name x px] (.ListComp elt [⟨tg,iter,ifs,0⟩] scope pos) spos) (tCompS own caps wi g tc te j):=by
 intro pins s σ H D0 I h
 rw [exec_Assign_Name_used _ _ _ _ hsw]
 refine wpAny_bind (wpAny_standAt (wpAny_bind ?_))
 show wpAny _ X.A (do let _ <- comprehension (.ListComp elt [⟨tg,iter,ifs,0⟩] scope pos) scope X.env _ (newList []) false (eval iter X.env) (some (assign (.Name x px) X.env))) _ _ s
 have hfree: ∀ y ∈ scope.names,y.2= .free-> ∃ c,X.env.cells.lookup y.1=some c:=fun y hy e=>I.ok.has _ (S.frees.mem y hy e)
 refine wpAny_bind (wpAny_mono (wpAny_comprehension_free (Q:=fun _ s'=>SP X pins D0 .next s') (use:=some (assign (.Name x px) X.env)) rfl hs (closureFor_eq hfree) S.kind S.names (thn (hi pins s σ H _ I h) fun v s1 h1=>thn h1 fun itv s2 h2=> ?_))
  (fun _ s' hq=>wpAny_pure (wpAny_pure hq)) fun _ _ e=>e)
 obtain ⟨it,fp,tn,J,H2,e,I2,T,st2,f2,hW⟩:=h2
 subst e
 -- the new list
 refine wpAny_newList ?_
 have hD:H2 s2.heap.objs.size=none:=I2.fresh
 have I3:=I2.lnew (its:=[]) (ys:=[]) (t':=s2.toks) .nil (Nat.zero_le _)
 have k3: ∀ b o,s2.heap.get? b=some o->(s2.heap.push { cls:= .type "list",data:= .seq ([]:List Value).toArray }).get? b=some o:=fun b o q=>Heap.get?_push_of_some _ q
 have st3:tn 0 (s2.heap.push { cls:= .type "list",data:= .seq ([]:List Value).toArray }):=T.keep _ _ _ st2 fun b _ o q=>k3 b o q
 have lt2: ∀ b ∈ fp,b < s2.heap.objs.size:=fun b hb=>let ⟨o,q,_⟩:=T.obj _ _ st2 b hb; Heap.lt_size q
 have neD: ∀ b ∈ fp,b ≠ s2.heap.objs.size:=fun b hb=>Nat.ne_of_lt (lt2 b hb)
 have f3: ∀ b ∈ fp,FpOk X pins (upd H2 s2.heap.objs.size (.lst [])) b:=fun b hb=>⟨by rw [upd_ne (neD b hb)]; exact (f2 b hb).1,(f2 b hb).2⟩
 obtain ⟨W,⟨m0,w0⟩,turn⟩:=hW _ hD
 generalize eD:s2.heap.objs.size=D at *
 generalize eH:upd H2 D (.lst [])=H3 at *
 generalize eh:s2.heap.push { cls:= .type "list",data:= .seq ([]:List Value).toArray }=hp3 at *
 have I3':Inv X pins σ H3 { s2 with heap:=hp3 }:=I3
 -- the block's frame
 refine wpAny_newFunctionEnv S.nocell (fun y hy=>by simp at hy) (fun h1 hns hsb=> ?_) S.kind
 have kb: ∀ b o,hp3.get? b=some o->h1.get? b=some o:=fun b o q=>hsb.extBut b o (Nat.ne_of_lt (Heap.lt_size q)) (Heap.get?_push_of_some _ q)
 have lt3: ∀ b ∈ fp,b < hp3.objs.size:=fun b hb=>let ⟨o,q,_⟩:=T.obj _ _ st3 b hb; Heap.lt_size q
 have IB:=Inv.block (s:={ s2 with heap:=hp3 }) (h1:=h1) (tk:=s2.toks) I3' S f3 hns kb lt3
 have stB:tn 0 h1:=T.keep _ _ _ st3 fun b _ o q=>kb b o q
 have back: ∀ {σ':St} {H':Hp} {s':Shared} {h':Heap},Inv (cxB X scope hp3.objs.size (capN own caps) { s2 with heap:=hp3 } H3 fp) [] σ' H' s'->Heap.SameBut hp3.objs.size s'.heap h'->Inv X pins σ H' { s' with heap:=h' }:=fun {σ' H' s' h'} J hsm=>by
  have nC: ∀ b o,H' b=some o->b ≠ hp3.objs.size:=fun b o q z=>by
   have:=J.free
   rw [z] at q
   have q2:H' hp3.objs.size=none:=this
   rw [q] at q2; cases q2
  have hok:HOk X.prog X.w H' h':=fun b o q=>(J.hok b o q).stay (fun c v hc z=>hsm.extBut c v (by
   rcases hc with hc | hc
   ·rw [hc]; exact nC b o q
   ·exact nC c _ hc) z) (fun _ z=>z) (fun _ _ z=>z) fun _ _ _ z=>z
  have nb: ∀ b o,hp3.get? b=some o->b ≠ hp3.objs.size:=fun b o q=>Nat.ne_of_lt (Heap.lt_size q)
  have un:Un (frs X.stack) fp H3 H' hp3 h':=⟨fun b o q n hb hx=>hsm.extBut b o (nb b o q) (J.base.keep b o q n hb hx),fun b o q n hb hx=>by
    obtain ⟨sl,z⟩:=J.base.slot b o q n hb hx
    exact ⟨sl,hsm.extBut b _ (nb b o q) z⟩,J.base.free,fun b o q hx=>by
    obtain ⟨o',z⟩:=J.base.there b o q hx
    exact ⟨o',hsm.extBut b _ (nb b o q) z⟩,J.base.tups,J.base.frzs,J.base.tbls⟩
  have os:=J.os
  have bare:=J.bare
  obtain ⟨hh,g,d,t,os'⟩:=s'
  obtain rfl:os'=s2.os:=os
  show Inv X pins σ H' { ({ s2 with heap:=hp3 }:Shared) with heap:=h',gens:=g,drawn:=d,toks:=t }
  exact I3'.call (h':=h') (g':=g) (d':=d) (t':=t) (ch:=fp) un hok bare fun b hb=>⟨(f3 b hb).2.2.2.1,(f3 b hb).2.1,(f3 b hb).2.2.2.2.1,(f3 b hb).2.2.2.2.2⟩
 have statB: ∀ {H':Hp},(∀ b ∈ fp,H' b=none)-> ∀ b ∈ fp,FpOk (cxB X scope hp3.objs.size (capN own caps) { s2 with heap:=hp3 } H3 fp) [] H' b:=fun hn b hb =>
  ⟨hn b hb,Nat.ne_of_lt (lt3 b hb),fun z=>(IB.ok.exfs b hb) z,.inl hb,(IB.ok.exf b hb).2,fun p hp=>absurd (show p ∈ ([]:List (Addr × Obj)) from hp) (by simp)⟩
 have loop: ∀ s₃ :Shared,s₃ ={ s2 with heap:=h1,toks:=s2.toks }->codeAny (model X.prog X.w) X.A (.compLoop (.ListComp elt [⟨tg,iter,ifs,0⟩] scope pos) 0 (.ref it) (.ref D) (compEnvC scope (clos X.env scope.names []) hp3.objs.size X.env))
   (compPost (model X.prog X.w) X.A X.xe (some (assign (.Name x px) X.env)) (fun _ s'=>SP X pins D0 .next s') (.ref D) hp3.objs.size) s₃ :=by
  rintro s₃ rfl
  refine compLoop_any (fun n s'=> ∃ i σ' H',Inv (cxB X scope hp3.objs.size (capN own caps) { s2 with heap:=hp3 } H3 fp) [] σ' H' s'/\tn i s'.heap/\(∀ b ∈ fp,H' b=none)/\W i n σ' H') ?_ m0 ⟨0,capS own caps σ,H3,IB,stB,fun b hb=>(f3 b hb).1,w0⟩
  rintro n s3 ⟨i, σ3,H4,I4,st4,fr4,w4⟩
  rcases turn i n σ3 H4 w4 with ⟨stop,qn⟩ | ⟨go,N,hN,step⟩
  ·refine thn (T.done (cxB X scope hp3.objs.size (capN own caps) { s2 with heap:=hp3 } H3 fp) rfl rfl rfl hc i [] s3 σ3 H4 _ I4 (statB fr4) st4 stop) fun r s4 ⟨hr,I5⟩=> ?_
   subst hr
   obtain ⟨m,hn,_⟩:=I5.loc
   have I6:Inv X pins σ H4 s4:=back I5 ⟨rfl,fun _ _=>rfl⟩
   have neL:hp3.objs.size ≠ X.env.locals:=fun z=>by
    have:=I3'.lt
    rw [<- z] at this
    exact Nat.lt_irrefl _ this
   have neC: ∀ y c,X.env.cells.lookup y=some c->c ≠ hp3.objs.size:=fun y c e z=>by
    obtain ⟨v,q⟩:=I3'.cell y c e
    have:=q.lt
    rw [z] at this
    exact Nat.lt_irrefl _ this
   have neP: ∀ p ∈ X.pn ++ pins,p.1 ≠ hp3.objs.size:=fun p hp z=>by
    have:=Heap.lt_size (I3'.pin p hp).1
    rw [z] at this
    exact Nat.lt_irrefl _ this
   refine wpAny_assign_Name (store_ok2 I6 hN hi' hx (v:= .ref D) rfl (fun s7 I7 ⟨a,sb,ha⟩=> ?_) hf)
   have na:hp3.objs.size ≠ a:=fun z=>by
    rcases ha with ha | ha
    ·exact neL (z.trans ha)
    ·exact neC _ _ ha z.symm
   refine ⟨m,hn.sameBut sb na,fun h' hsm=>⟨_,H4,?_,qn⟩⟩
   exact I7.turned (t':=s7.toks) (it:=hp3.objs.size) (fun b o hb e=>hsm.extBut b o hb e) I5.free neL (.inr I3'.sz) neC neP
  ·refine thn (T.item (cxB X scope hp3.objs.size (capN own caps) { s2 with heap:=hp3 } H3 fp) rfl rfl rfl hc i [] s3 σ3 H4 (fun _ _=>False) I4 (statB fr4) st4 go) fun r s4 ⟨u,hr,h4⟩=> ?_
   subst hr
   refine thn h4 fun _ s5 ⟨x,H5,I5,r5,y5,st5,fr5⟩=> ?_
   have I5':=I5.pinned (statB fr5) (T.obj _ _ st5)
   refine thn (hg hp3.objs.size { s2 with heap:=hp3 } H3 fp _ s5 σ3 H5 x u _ I5' r5 (step x H5 y5)) fun _ s6 ⟨σ6,H6,I6,q6⟩=> ?_
   refine thn (ht hp3.objs.size { s2 with heap:=hp3 } H3 fp _ s6 σ6 H6 _ I6 q6) fun ok s7 ⟨H7,I7,q7⟩=> ?_
   have again: ∀ {σ7:St} {H7:Hp} {s7:Shared},Inv (cxB X scope hp3.objs.size (capN own caps) { s2 with heap:=hp3 } H3 fp) ([] ++ pinsAt fp s5.heap) σ7 H7 s7->N σ7 H7-> ∃ m,m < n/\ ∃ i σ' H',Inv (cxB X scope hp3.objs.size (capN own caps) { s2 with heap:=hp3 } H3 fp) [] σ' H' s7/\tn i s7.heap/\(∀ b ∈ fp,H' b=none)/\W i m σ' H':=fun {σ7 H7 s7} I7 n7=>by
    obtain ⟨m',hm,w7⟩:=hN σ7 H7 n7
    refine ⟨m',hm,i + 1, σ7,H7,I7.unpinned,T.keep _ _ _ st5 fun b hb o e=>(I7.pin (b,o) (List.mem_append_right _ (List.mem_append_right _ (mem_pinsAt hb e)))).1,fun b hb=> ?_,w7⟩
    obtain ⟨o,e,d⟩:=T.obj _ _ st5 b hb
    exact (I7.pin (b,o) (List.mem_append_right _ (List.mem_append_right _ (mem_pinsAt hb e)))).2.1
   cases ok with
   | false =>
    rw [if_neg (by decide)]
    rw [if_neg (by decide)] at q7
    exact again I7 q7
   | true =>
    rw [if_pos rfl]
    rw [if_pos rfl] at q7
    refine thn (he hp3.objs.size { s2 with heap:=hp3 } H3 fp _ s7 σ6 H7 _ I7 q7) fun y s8 ⟨yv,H8,I8,r8,ys,e8,z8,n8⟩=> ?_
    refine thn (mt_append (X:=cxB X scope hp3.objs.size (capN own caps) { s2 with heap:=hp3 } H3 fp) _ s8 σ6 H8 (.ref D) [yv] (.ref D) [y] (fun _ H'=>N σ6 H') I8 rfl (.cons r8 .nil) ⟨D,ys,yv,rfl,rfl,e8,z8,n8⟩) fun _ s9 ⟨v9,H9,I9,_,q9⟩=> ?_
    exact again I9 q9
 exact codeAny_compStart_list (loop _ rfl) (T.self _ 0 _ _ _ stB (loop _ rfl))
end
end L2
namespace DN
open PySem PySem.Spec PyProof.Rows L2
section
variable {X:Cx} {G:Pg} {e a b o tg:Expr} {es:List Expr} {da db:DP} {d:DA} {dm:DM} {ds du:DS} {pos p apos cpos:Pos} {x m:Str} {k i:Nat} {ms:List Bool}
theorem s_setC {elt iter:Expr} {ifs:List Expr} {scope:Scope} {own:List Str} {caps:List (Str × Nat)} {di:DA} {g:DG} {dt:DT} {de:DP} (hN:X.N.Nodup) (hi':X.N[i]? =some x) (hx:Loc X.env.scope x) (S:CompScope X scope own caps) (hc:X.calm=true) (hi:JIs X G tg iter di)
  (hg: ∀ C s₀ H₀ fp,JG (cxB X scope C (capN own caps) s₀ H₀ fp) G tg g) (ht: ∀ C s₀ H₀ fp,JTs (cxB X scope C (capN own caps) s₀ H₀ fp) G ifs dt) (he: ∀ C s₀ H₀ fp,JP (cxB X scope C (capN own caps) s₀ H₀ fp) G elt de)
  (gk: ∀ (w:PV) (ps ps':PSt),g w ps= .ok ps'-> ∀ (i:Nat) (x:Ow),ps'[i]? =some (Sl.own x)->ps[i]? =some (Sl.own x))
  (hsw:swapsWith (.ListComp elt [⟨tg,iter,ifs,0⟩] scope cpos) (some (.Name x p)) pos.line X.env=pure true:=by rfl) (hs: ∀ x,foldedSetIterable iter X.env x=pure x:=by intro _; rfl)
  (hf:X.fn x=true\/X.env.scope.names.lookup x=some .local:=by first | exact .inl rfl | exact .inr rfl | assumption):JS X G (.Assign [.Name x p] (.ListComp elt [⟨tg,iter,ifs,0⟩] scope cpos) pos) (sSet i (dOfN (dComp own caps di g dt de))) :=
 impS (ps_comp (wi:=tPs X.K G di) (g:=tG X.K G g) (tc:=tPt X.K G dt) (te:=tPv X.K G de) hN hi' hx S hc hi hg ht he hsw hs hf) fun D σ H ⟨c,ow,ps,R,q⟩=>by
  obtain ⟨w,e0,q⟩:=ends_st q
  obtain ⟨ws,e1,e2⟩:=bind_ok e0
  cases e2
  exact comp_go gk ⟨c,ow,ps,ws,R,e1,fun p vs H' s hp hv r=>q _ _ _ ((R.grow s).setV ⟨p,vs,rfl,.inl ⟨hv,fun z=>R.used p z hp⟩,(Kp.weak fun a z=>Or.inl z).reps r⟩) ((Kp.of_same s).trans (Kp.weak av_off))⟩
theorem comp_emb {α :Type} {dt:DT} {de:DP} {ps0:PSt} (emb: α ->PV) (q: α ->Bool) (f: α ->PV): ∀ (us:List α) (s:Sl),(∀ u,u ∈ us->dt (.v (emb u) :: ps0)= .ok (q u)/\(q u=true->de (.v (emb u) :: ps0)= .ok (f u)))->compD (gSet 0) dt de (us.map emb) (s :: ps0)= .ok ((us.filter q).map f)
 | [],s,_=>rfl
 | u :: us,s,h=>by
  obtain ⟨h1,h2⟩:=h u List.mem_cons_self
  have ih:=comp_emb emb q f us (.v (emb u)) fun w' hw=>h w' (List.mem_cons_of_mem _ hw)
  have e0:gSet 0 (emb u) (s :: ps0)= .ok (.v (emb u) :: ps0):=rfl
  rw [List.map_cons,compD,e0,ok_bind,h1,ok_bind]
  cases hp:q u with
  | true=>rw [if_pos rfl,h2 hp,ok_bind,ih,ok_bind,List.filter_cons,if_pos hp]; rfl
  | false=>rw [if_neg Bool.false_ne_true,ih,List.filter_cons,if_neg (by rw [hp]; exact Bool.false_ne_true)]
mutual
def PV.data:PV->Bool
 | .obj _ _=>false
 | .dic _ _=>false
 | .clo _ _=>false
 | .tup xs=>pdata xs
 | .lst xs=>pdata xs
 | .dit _ _=>false
 | .dbo _ _=>false
 | .exn _=>false
 | _=>true
def pdata:List PV->Bool
 | []=>true
 | x :: xs=>x.data && pdata xs
end
end
theorem putF_new {f:Str} {v:V}: ∀ {ns:List Str} {vs:List V},f ∉ ns->ns.length=vs.length->putF f v (ns.zip vs)=(ns ++ [f]).zip (vs ++ [v])
 | [],[],_,_=>rfl
 | [],_ :: _,_,h=>by simp at h
 | _ :: _,[],_,h=>by simp at h
 | n :: ns,u :: vs,h,l=>by
  have h1:n ≠ f:=fun z=>h (by rw [z]; exact List.mem_cons_self)
  rw [List.zip_cons_cons]
  show (if n=f then _ else _)=_
  rw [if_neg h1,putF_new (fun z=>h (List.mem_cons_of_mem _ z)) (by simpa using l)]
  rfl
theorem zip_at {f:Str}: ∀ {ns:List Str} {vs:List V} {j:Nat} {v:V},ns.Nodup->ns[j]? =some f->vs[j]? =some v->(ns.zip vs).lookup f=some v
 | [],_,_,_,_,h,_=>by simp at h
 | _ :: _,[],_,_,_,_,h=>by simp at h
 | n :: ns,u :: vs,0,v,nd,h1,h2=>by
  simp at h1 h2
  subst h1; subst h2
  rw [List.zip_cons_cons,List.lookup_cons]; simp
 | n :: ns,u :: vs,j + 1,v,nd,h1,h2=>by
  have h1:ns[j]? =some f:=by simpa using h1
  have h2:vs[j]? =some v:=by simpa using h2
  have hne:f ≠ n:=fun z=>(List.nodup_cons.mp nd).1 (by rw [<- z]; exact List.mem_of_getElem? h1)
  have hb:(f == n)=false:=by simpa using hne
  rw [List.zip_cons_cons,List.lookup_cons,hb]
  exact zip_at (List.nodup_cons.mp nd).2 h1 h2
theorem putF_at {f:Str} {v:V}: ∀ {ns:List Str} {vs:List V} {j:Nat},ns.Nodup->ns[j]? =some f->ns.length=vs.length->putF f v (ns.zip vs)=ns.zip (vs.set j v)
 | [],_,_,_,h,_=>by simp at h
 | _ :: _,[],_,_,_,h=>by simp at h
 | n :: ns,u :: vs,0,nd,h1,l=>by
  simp at h1
  subst h1
  rw [List.zip_cons_cons]
  show (if n=n then _ else _)=_
  rw [if_pos rfl]; rfl
 | n :: ns,u :: vs,j + 1,nd,h1,l=>by
  have h1:ns[j]? =some f:=by simpa using h1
  have hne:n ≠ f:=fun z=>(List.nodup_cons.mp nd).1 (by rw [z]; exact List.mem_of_getElem? h1)
  rw [List.zip_cons_cons]
  show (if n=f then _ else _)=_
  rw [if_neg hne,putF_at (List.nodup_cons.mp nd).2 h1 (by simpa using l)]; rfl
section
variable {X:Cx} {G:Pg} {e a b o tg:Expr} {es:List Expr} {da db:DP} {d:DA} {dm:DM} {ds du:DS} {pos p apos cpos:Pos} {x m:Str} {k i:Nat} {ms:List Bool}
def fldO (l:List (Nat × Nat)) (k:Nat) (xs:List PV):Rx PV:=match l.lookup k with | some j=>(match xs[j]? with | some w=> .ok w | none=> .bad) | none=> .bad
def dFldI (l:List (Nat × Nat)) (i:Nat):DP:=fun ps=>match ps[i]? with
 | some (.ino (.obj k xs))=>fldO l k xs
 | some (.own (.obj k xs))=>fldO l k xs
 | some (.bor (.obj k xs))=>fldO l k xs
 | some (.ini k xs)=>fldO l k xs
 | some (.v (.obj k xs))=>fldO l k xs
 | _=> .bad
theorem fldO_ok {l:List (Nat × Nat)} {k:Nat} {xs:List PV} {w:PV} (h:fldO l k xs= .ok w): ∃ j,l.lookup k=some j/\xs[j]? =some w:=by
 unfold fldO at h
 split at h
 ·rename_i j hj
  split at h
  ·rename_i w' hw; cases h; exact ⟨j,hj,hw⟩
  ·cases h
 ·cases h
theorem p_fldI {f:Str} {l:List (Nat × Nat)} (i:Nat) (ok:FldOk X.K G f l) (hN:X.N[i]? =some x:=by rfl) (hv:Vis X.env.scope x:=by first | exact Or.inl rfl | exact Or.inr (Or.inl rfl) | exact Or.inr (Or.inr rfl)) (hd:(x == ("__debug__":Str))=false:=by decide)
  (hcd:(x == ("__classdict__":Str))=false:=by decide) (hb:attributeBase (.Name x p) f X.env (eval (.Name x p) X.env)=eval (.Name x p) X.env:=by rfl):JP X G (.Attribute (.Name x p) f pos) (dFldI l i) :=
 imp (pe_fld (pe_var hN hv hd hcd) hb) fun σ H Q ⟨c,ow,ps,w,R,e,q⟩=>by
  have full: ∀ {k:Nat} {xs:List PV} {p:Addr} {dx:Addr} {vs:List V},fldO l k xs= .ok w-> σ[i]? =some (some (.ref p))->H p=some (.ins (G.cA k) dx ((G.fN k).zip vs))->Reps X.K G H (av c ow) xs vs->tFld X.K (tVar i) f σ H Q:=fun {k xs p dx vs} h hσ hH rs=>by
   obtain ⟨j,hj,hw⟩:=fldO_ok h
   obtain ⟨c1,c2,c3,c4⟩:=ok.all k j hj
   obtain ⟨v,hv,rv⟩:=rs.get hw
   exact ⟨.ref p,hσ,p,_,dx,_,v,rfl,hH,c1,c2,zip_at c3 c4 hv,q v H (Same.refl H) rv⟩
  unfold dFldI at e
  split at e
  ·rename_i k xs hx
   obtain ⟨o',eo,_,_,pp,e2,_,dx,vs,hH,hl,rs⟩:=R.get hx
   rw [e2] at eo
   exact full e eo hH rs
  ·rename_i k xs hx
   obtain ⟨pp,e1,e2,dx,vs,hH,hl,rs⟩:=R.getO hx
   exact full e e2 hH rs
  ·rename_i k xs hx
   obtain ⟨o',eo,_,v,e2,r⟩:=R.get hx
   rw [e2] at eo
   have rb:RepB X.K G H (av c ow) (.obj k xs) v:=by
    rcases r with r | ⟨y,pp,z1,z2,z3,_⟩ | r
    ·exact .inl r
    ·exact .inr (.inl ⟨y,pp,z1,z2,z3⟩)
    ·exact .inr (.inr (r.mono fun _ _ _=>trivial))
   obtain ⟨aa,dx,vs,rfl,hH,hl,rs⟩:=rb.obj
   exact full e eo hH rs
  ·rename_i k xs hx
   obtain ⟨o',eo,_,_,pp,e2,_,dx,vs,hH,hl,rs⟩:=R.get hx
   rw [e2] at eo
   obtain ⟨j,hj,hw⟩:=fldO_ok e
   obtain ⟨c1,c2,c3,c4⟩:=ok.all k j hj
   obtain ⟨v,hv,rv⟩:=rs.get hw
   have hlt:j < xs.length:=(List.getElem?_eq_some_iff.mp hw).1
   have c4':((G.fN k).take xs.length)[j]? =some f:=by rw [List.getElem?_take_of_lt hlt]; exact c4
   exact ⟨.ref pp,eo,pp,_,dx,_,v,rfl,hH,c1,c2,zip_at (c3.sublist (List.take_sublist _ _)) c4' hv,q v H (Same.refl H) rv⟩
  ·rename_i k xs hx
   obtain ⟨v,ev,aa,dx,vs,rfl,hH,hl,na,rs⟩:=R.getV hx
   exact full e ev hH rs
  ·cases e
def sIni (k j:Nat) (d:DP):DS:=fun ps=>match ps[(0:Nat)]? with
 | some (.ini k' xs)=>if k'=k/\xs.length=j then (d ps).st fun w=> .nx (ps.set 0 (.ini k (xs ++ [w]))) else .bad
 | _=> .bad
theorem s_ini {f:Str} {j:Nat} (k:Nat) (cl:Cls X.K (G.cA k)) (na:NoAttr X.K (G.cA k) f) (nd:(G.fN k).Nodup) (hf:(G.fN k)[j]? =some f) (hsm:(G.fN k).length < 1000) (he:JP X G e da) (hN:X.N[0]? =some x:=by rfl) (hv:Vis X.env.scope x:=by first | exact Or.inl rfl | exact Or.inr (Or.inl rfl) | exact Or.inr (Or.inr rfl))
  (hd:(x == ("__debug__":Str))=false:=by decide) (hcd:(x == ("__classdict__":Str))=false:=by decide) (hs:swapsWith e (some (.Attribute (.Name x p) f apos)) pos.line X.env=pure false:=by rfl) :
  JS X G (.Assign [.Attribute (.Name x p) f apos] e pos) (sIni k j da):=impS (ps_fld (pe_var hN hv hd hcd) he hs) fun D σ H ⟨c,ow,ps,R,q⟩=>by
 unfold sIni at q
 split at q
 ·rename_i k' xs hx
  split at q
  ·rename_i hk
   obtain ⟨rfl,rfl⟩:=hk
   obtain ⟨w,e1,q⟩:=ends_st q
   refine ⟨c,ow,ps,w,R,e1,fun v H1 s1 r1=> ?_⟩
   have R1:=R.grow s1
   obtain ⟨o',eo,z1,z2,pp,e2,el,dx,vs,hH,hl,rs⟩:=R1.get hx
   rw [e2] at eo
   have hlt:xs.length < (G.fN k').length:=(List.getElem?_eq_some_iff.mp hf).1
   have hlen:((G.fN k').take xs.length).length=vs.length:=by rw [List.length_take, <- rs.len]; omega
   have hfe:(G.fN k')[xs.length]=f:=by
    have:=List.getElem?_eq_getElem hlt
    rw [this] at hf
    exact Option.some.inj hf
   have htk:(G.fN k').take (xs.length + 1)=(G.fN k').take xs.length ++ [f]:=by rw [List.take_succ_eq_append_getElem hlt,hfe]
   have hnot:f ∉ (G.fN k').take xs.length:=fun z=>by
    have nd':=nd.sublist (List.take_sublist (xs.length + 1) (G.fN k'))
    rw [htk] at nd'
    exact (List.nodup_append.mp nd').2.2 f z f (by simp) rfl
   have hput:=putF_new (v:=v) hnot hlen
   refine ⟨.ref pp,eo,pp,_,dx,_,rfl,hH,cl,na,?_,?_⟩
   ·rw [List.length_zip,hlen,Nat.min_self, <- rs.len]; omega
   ·have mD:Mt (HO.ins (G.cA k') dx (((G.fN k').take xs.length).zip vs)):=And.intro (fun _ z=>by cases z) (fun _ _ z=>by cases z)
    have k0:Kp X.K G H1 (av c ow) (upd H1 pp (.ins (G.cA k') dx (putF f v (((G.fN k').take xs.length).zip vs)))) (av c ow):=Kp.own (.inl (R1.lent pp el).1) hH mD
    have:=R1.chgL (s':= .ini k' (xs ++ [w])) (u:= .ins (G.cA k') dx (putF f v (((G.fN k').take xs.length).zip vs))) hx el hH mD fun v' hv'=>by
     rw [eo] at hv'
     cases hv'
     refine ⟨z1,rfl,pp,rfl,el,dx,vs ++ [v],?_,?_,k0.reps (rs.snoc r1)⟩
     ·rw [upd_same,hput,List.length_append,List.length_singleton,htk]
     ·rw [List.length_append,List.length_singleton]; omega
    exact q _ _ ow this.1 ((Kp.of_same s1).trans this.2)
  ·exact q.elim
 ·exact q.elim
end
def inI (k:Nat) (ms:List Bool) (n:Nat) (ws:List PV):PSt:= .ini k [] :: inP ms (n - 1) ws
def runI (k nf:Nat) (ms:List Bool) (n:Nat) (d:DS) (ws:List PV):Rx PV:=if ws.length=ms.length then (match d (inI k ms n ws) with
 | .nx ps=>(match ps[(0:Nat)]? with | some (.ini k' fs)=>if k'=k/\fs.length=nf then .ok (.obj k fs) else .bad | _=> .bad)
 | .exc c=> .exc c
 | _=> .bad) else .bad
def spIn (K:Fg) (G:Pg) (k:Nat) (ms:List Bool) (g:List PV->Rx PV):Sp:=fun vs H Q _=> ∃ (A:Av) (H1:Hp) (ws:List PV) (x dx:Addr) (us:List V) (fs:List PV),vs= .ref x :: us/\H x=some (.ins (G.cA k) dx [])/\H1 x=none/\Same H1 H/\Used H1 A/\RepM K G H1 A ms ws us/\g ws= .ok (.obj k fs) /\
 ∀ H' dx' vs',Same H1 H'->H' x=some (.ins (G.cA k) dx' ((G.fN k).zip vs'))->(G.fN k).length=vs'.length->Reps K G H' (fun a=>A a\/a=x) fs vs'->Q .non H'
theorem RepF.keep {K:Fg} {G:Pg} {H H':Hp} {A A' B:Av} {ps:PSt} {σ :L2.St} (R:RepF K G B H A ps σ) (k:Kp K G H A H' A') (e: ∀ p,B p->H' p=H p):RepF K G B H' A' ps σ :=by
 refine ⟨R.len,fun i s o h1 h2=> ?_⟩
 have q:=R.slot i s o h1 h2
 cases s with
 | no=>exact True.intro
 | v w=>obtain ⟨v,e,r⟩:=q; exact ⟨v,e,k.rep r⟩
 | own x=>exact q.elim
 | ino x=>exact q.elim
 | ini k xs=>exact q.elim
 | dol ks xss=>exact q.elim
 | als d j=>exact q.elim
 | bor w =>
  obtain ⟨v,e1,r⟩:=q
  refine ⟨v,e1,?_⟩
  rcases r with r | ⟨x,p,e1,e2,r,n⟩ | r
  ·exact .inl (k.rep r)
  ·exact .inr (.inl ⟨x,p,e1,e2,r.keep k (e p n),n⟩)
  ·exact .inr (.inr (r.keep k fun p n _=>e p n))
theorem RepF.cons {K:Fg} {G:Pg} {H:Hp} {A B:Av} {ps:PSt} {σ :L2.St} {s:Sl} {v:V} {x:Addr} (R:RepF K G B H A ps σ) (u:Used H A) (ub: ∀ a,B a->H a ≠ none/\a ≠ x) (hx:A x) (hs:SlAt K G ⟨H,A,B,some x⟩ (ps.length + 1) H (av ⟨H,A,B,some x⟩ ow0) ow0 0 s (some v)):RepS K G ⟨H,A,B,some x⟩ H ow0 (s :: ps) (some v :: σ):=by
 refine ⟨by simp [R.len],SmL.of (Same.refl H),(fun p e=> ?_),u,(fun a z=>⟨(ub a z).1,fun e=>(ub a z).2 (Option.some.inj e).symm⟩),(fun i p e=>(nomatch e)),(fun i j p e=>(nomatch e)),(fun _ _ e=>(nomatch e)),fun i s' o e1 e2=> ?_⟩
 ·cases e; exact ⟨hx,u x hx⟩
 ·cases i with
  | zero=>simp at e1 e2; subst e1; subst e2; exact hs
  | succ i =>
   have q:=R.slot i s' o (by simpa using e1) (by simpa using e2)
   have k:Kp K G H A H (av ⟨H,A,B,some x⟩ ow0):=Kp.weak fun a z=>av0 a z
   cases s' with
   | no=>rfl
   | v w=>obtain ⟨v,e,r⟩:=q; exact ⟨rfl,v,e,k.rep r⟩
   | own x=>exact q.elim
   | ino x=>exact q.elim
   | ini k xs=>exact q.elim
   | dol ks xss=>exact q.elim
   | als d j=>exact q.elim
   | bor w =>
    obtain ⟨v,e,r⟩:=q
    refine ⟨rfl,v,e,?_⟩
    rcases r with r | ⟨x,p,e1,e2,r,n⟩ | r
    ·exact .inl (k.rep r)
    ·exact .inr (.inl ⟨x,p,e1,e2,r.keep k rfl,n⟩)
    ·exact .inr (.inr (r.keep k fun _ _ _=>rfl))
theorem start_cons {N:List Str} {v:V} {us:List V} (h:0 < N.length):L2.start N (v :: us)=some v :: L2.start N.tail us:=by
 unfold L2.start
 cases N with
 | nil=>simp at h
 | cons n N=>simp
theorem fn_okI {P:Program} {w:World} {K:Fg} {mg:Str->Option Value} {base:Bs} {G:Pg} {x qual:Str} {st:Stmt} {f:Addr} {fd:FuncData} {N ps:List Str} {k c nf:Nat} {ms:List Bool} {d:DS} (F:Fun K x qual st f fd) (S:FnScope N ps (defScope st)) (hm:ms.length + 1=ps.length) (hn:0 < N.length) (hnf:(G.fN c).length=nf)
  (hb: ∀ (cdv:Value) (A:Around) (outer:List Env) (s:Shared) (H:Hp) (E:XK),Room k (A.deeper (envOfC qual (defScope st) s.heap.objs.size f cdv))->JSs (cxOf CX0 P w K mg base N qual (defScope st) f cdv A outer s H E).nox G (defBody st) d) :
  FnOk P w K mg base CX0 (k + 1) f fd ps (spIn K G c ms (runI c nf ms N.length d)):=by
 refine F.ok S (fun vs H Q E h=> ?_) (fun cdv A outer s H vs Q E hr h=> ?_)
 ·obtain ⟨A,H1,ws,xa,dx,us,fs,rfl,_,_,_,_,r,_⟩:=h
  rw [List.length_cons,r.len.2,hm]
 ·obtain ⟨A',H1,ws,xa,dx,us,fs,rfl,hx,hx1,sm,u,r,e,q⟩:=h
  refine ⟨_,hb cdv A outer s H E hr,?_⟩
  have hlen:N.tail.length=N.length - 1:=List.length_tail
  have F0:=in_rep (N:=N.tail) r
  rw [hlen] at F0
  have nx: ∀ a,H1 a ≠ none->a ≠ xa:=fun a z y=>z (by rw [y]; exact hx1)
  have kp:Kp K G H1 A' H (fun a=>A' a\/a=xa):=Kp.take hx1 sm fun a z=>z.symm
  have F1:RepF K G (fun p=>H1 p ≠ none) H (fun a=>A' a\/a=xa) (inP ms (N.length - 1) ws) (L2.start N.tail us):=F0.keep kp fun p hp=>by
   cases e1:H1 p with
   | none=>exact absurd e1 hp
   | some o=>exact sm _ _ e1
  have us':Used H (fun a=>A' a\/a=xa):=fun a z=>by
   rcases z with z | z
   ·cases e1:H1 a with
    | none=>exact absurd e1 (u a z)
    | some o=>rw [sm _ _ e1]; simp
   ·rw [z,hx]; simp
  have S0:=F1.cons (s:= .ini c []) (v:= .ref xa) (x:=xa) us' (fun a z=>⟨by
   cases e1:H1 a with
   | none=>exact absurd e1 z
   | some o=>rw [sm _ _ e1]; simp,nx a z⟩) (.inr rfl) ⟨rfl,rfl,xa,rfl,rfl,dx,[],by rw [hx]; rfl,Nat.zero_le _,rfl⟩
  rw [start_cons hn]
  refine ⟨_,ow0,inI c ms N.length ws,S0,?_⟩
  unfold runI at e
  rw [if_pos r.len.1] at e
  cases ed:d (inI c ms N.length ws) with
  | nx ps' =>
   rw [ed] at e
   have e:(match ps'[(0:Nat)]? with | some (.ini k' fs)=>if k'=c/\fs.length=nf then Rx.ok (PV.obj c fs) else .bad | _=> .bad)= .ok (.obj c fs):=e
   split at e
   ·rename_i k' fs' hp0
    split at e
    ·rename_i hk
     cases e
     obtain ⟨rfl,hfl⟩:=hk
     intro σ' H' ow' R' _
     obtain ⟨o',eo,z1,z2,pp,e2,el,dx',vs',hH,hl,rs⟩:=R'.get hp0
     cases el
     refine q H' dx' vs' (fun a o h=> ?_) ?_ ?_ ((Kp.weak fun a z=>Or.inl z).reps rs)
     ·exact R'.same a o (sm _ _ h) (fun z=>nx a (by rw [h]; simp) (Option.some.inj z).symm)
     ·rw [hH,List.take_of_length_le (by rw [hfl,hnf]; exact Nat.le_refl _)]
     ·rw [hnf, <- hfl,rs.len]
    ·cases e
   ·cases e
  | ret w2=>rw [ed] at e; cases e
  | retn xs=>rw [ed] at e; cases e
  | reti w x=>rw [ed] at e; cases e
  | brk _=>rw [ed] at e; cases e
  | cnt _=>rw [ed] at e; cases e
  | bad=>rw [ed] at e; cases e
  | exc _=>rw [ed] at e; cases e
structure NewI (P:Program) (w:World) (K:Fg) (mg:Str->Option Value) (base:Bs) (G:Pg) (k:Nat) (x:Str) (c:Nat) (ms:List Bool) (g:List PV->Rx PV):Prop where
 glob:mg x=some (.ref (G.cA c))
 cl:Cls K (G.cA c)
 ex: ∃ (f:Addr) (fd:FuncData) (ps:List Str),Mk K (G.cA c) f/\FnOk P w K mg base CX0 k f fd ps (spIn K G c ms g)/\Binds K fd ps []
section
variable {X:Cx} {G:Pg} {e a b o tg:Expr} {es:List Expr} {da db:DP} {d:DA} {pos p:Pos} {x:Str} {k i c:Nat} {ms:List Bool} {g:List PV->Rx PV}
theorem pe_newI {t:TA} (h:NewI X.prog X.w X.K X.mg X.base G k x c ms g) (hr:Room (k + 1) X.A) (hg:Gl X x) (ha:PA X (e :: es) t) (hdb:(x == ("__debug__":Str))=false:=by decide)
  (he:starEach (e :: es) X.env=(false,eval e X.env) :: starEach es X.env:=by rfl) (hpl:(backTo pos (starEach es X.env)).any (·.1)=false:=by rfl):PE X (.Call (.Name x p) (e :: es) [] pos) (tMake (G.cA c) (spIn X.K G c ms g) [] E0 t):=by
 obtain ⟨f,fd,ps,M,F,hb⟩:=h.ex
 exact pe_make M F hr hg h.glob hb .nil pass0 ha hdb he hpl
theorem newI_of {H:Hp} {Q:VK} {cf:Fr} {ow:Ows} {ps:PSt} {σ :L2.St} {ws:List PV} {vs:List V} {fs:List PV} (R:RepS X.K G cf H ow ps σ) (r:RepM X.K G H (av cf ow) ms ws vs) (e:g ws= .ok (.obj c fs))
  (q: ∀ x dx us H',Same H H'->H x=none->H' x=some (.ins (G.cA c) dx ((G.fN c).zip us))->(G.fN c).length=us.length->Reps X.K G H' (fun a=>av cf ow a\/a=x) fs us->Q (.ref x) H') :
  ∀ x dx,H x=none->H dx=none->dx ≠ x->spIn X.K G c ms g (.ref x :: (vs ++ [])) (upd (upd H dx (.own x)) x (.ins (G.cA c) dx [])) (fun v H2=>v= .non/\Q (.ref x) H2) E0:=by
 intro x dx n1 n2 ne
 have sn:Same H (upd (upd H dx (.own x)) x (.ins (G.cA c) dx [])):=fun b o h=>by rw [upd_ne (ne_of_none h n1),upd_ne (ne_of_none h n2)]; exact h
 exact ⟨av cf ow,H,ws,x,dx,vs,fs,by rw [List.append_nil],upd_same,n1,sn,R.used,r,e,fun H' dx' vs' s h1 h2 h3=>⟨rfl,q x dx' vs' H' s n1 h1 h2 h3⟩⟩
theorem runI_obj {k nf n:Nat} {ms:List Bool} {d:DS} {ws:List PV} {w:PV} (h:runI k nf ms n d ws= .ok w): ∃ fs,w= .obj k fs:=by
 unfold runI at h
 split at h
 ·split at h
  ·split at h
   ·split at h
    ·cases h; exact ⟨_,rfl⟩
    ·cases h
   ·cases h
  ·cases h
  ·cases h
 ·cases h
theorem spIn_none {P:Program} {w:World} {K:Fg} {mg:Str->Option Value} {base:Bs} {n:Nat} {f:Addr} {fd:FuncData} {ps:List Str} {g:List PV->Rx PV} (h: ∀ ws,g ws= .bad):FnOk P w K mg base CX0 n f fd ps (spIn K G c ms g) :=
 fn_none fun vs H Q E ⟨A,H1,ws,x,dx,us,fs,_,_,_,_,_,_,e,_⟩=>by rw [h] at e; cases e
variable (ps:PSt)
@[simp] theorem e_ini (k j:Nat):sIni k j da ps=match ps[(0:Nat)]? with
 | some (.ini k' xs)=>if k'=k/\xs.length=j then (da ps).st fun w=> .nx (ps.set 0 (.ini k (xs ++ [w]))) else .bad
 | _=> .bad:=rfl
@[simp] theorem e_fldI (l:List (Nat × Nat)) (i:Nat):dFldI l i ps=match ps[i]? with
 | some (.ino (.obj k xs))=>fldP l (.obj k xs)
 | some (.own (.obj k xs))=>fldP l (.obj k xs)
 | some (.bor (.obj k xs))=>fldP l (.obj k xs)
 | some (.ini k xs)=>fldP l (.obj k xs)
 | some (.v (.obj k xs))=>fldP l (.obj k xs)
 | _=> .bad:=rfl
end
def SameX (p:Addr) (H H':Hp):Prop:= ∀ a o,H a=some o->a ≠ p->H' a=some o
section
variable {K:Fg} {G:Pg} {H H':Hp} {A A':Av} {c:Fr} {ow:Ows} {ps:PSt} {σ :L2.St}
theorem Kp.sameX {p:Addr} {o:HO} (s:SameX p H H') (hA:A p) (hp:H p=some o) (m:Mt o):Kp K G H A H' A :=
 ⟨fun a x h n=>s a x h fun z=>n (z ▸ hA),fun a vs h=>s a _ h fun z=>m.1 vs (by subst z; rw [hp] at h; exact Option.some.inj h),fun a o' u h=>s a _ h fun z=>m.2 o' u (by subst z; rw [hp] at h; exact Option.some.inj h),fun a _ h=>h⟩
theorem RepS.extO (R:RepS K G c H ow ps σ) {i:Nat} {x y:Ow} {p:Addr} (e:ps[i]? =some (.own x)) (ep:ow i=some p) (s:SameX p H H') (r:RepO K G H' (av c ow) y p) :
  RepS K G c H' ow (ps.set i (.own y)) σ /\Kp K G H (av c ow) H' (av c ow):=by
 obtain ⟨p',e1,e2,r1⟩:=R.getO e
 rw [ep] at e1; cases e1
 obtain ⟨o,eo,m⟩:=r1.at
 have k:Kp K G H (av c ow) H' (av c ow):=Kp.sameX s (.inr ⟨i,ep⟩) eo m
 have np0:=R.fresh i p ep
 have sm:SmL c H':=fun b o' h n=>s b o' (R.same b o' h n) (by intro z; subst z; rw [np0] at h; cases h)
 have npl: ∀ q,c.lx=some q->q ≠ p:=fun q h z=>by
  subst z
  exact absurd np0 (R.a0 q (R.lent q h).1)
 have keepAt: ∀ {q:Addr} {o':HO},H q=some o'->q ≠ p->H' q=H q:=fun {q o'} h n=>by rw [s q o' h n,h]
 have us: ∀ j q,j ≠ i->ow j=some q->H' q=H q:=fun j q hj h=>by
  cases e5:H q with
  | none=>exact absurd e5 (R.used q (.inr ⟨j,h⟩))
  | some o'=>exact s q o' e5 (by intro z; subst z; exact hj (R.inj j i q h ep))
 have ul: ∀ q,c.lx=some q->H' q=H q:=fun q h=>by
  cases e5:H q with
  | none=>exact absurd e5 (R.lent q h).2
  | some o'=>exact s q o' e5 (npl q h)
 have hl:i < ps.length:=(List.getElem?_eq_some_iff.mp e).1
 refine ⟨⟨by simp [R.len],sm,fun q h=>⟨(R.lent q h).1,by rw [ul q h]; exact (R.lent q h).2⟩,R.a0,R.b0,R.fresh,R.inj,fun j q h=> ?_,fun j z o' h1 h2=> ?_⟩,k⟩
 ·rw [List.length_set]
  by_cases hj:j=i
  ·left; rw [hj]; exact hl
  ·rcases R.out j q h with z | z
   ·exact .inl z
   ·right; rw [us j q hj h]; exact z
 ·rw [List.length_set]
  by_cases hj:j=i
  ·subst hj
   rw [List.getElem?_set_self hl] at h1
   cases h1
   rw [e2] at h2; cases h2
   exact ⟨p,ep,rfl,r⟩
  ·rw [List.getElem?_set_ne (fun z=>hj z.symm)] at h1
   exact (R.slot j z o' h1 h2).keep R.b0 R.same sm k rfl (fun _ _ _ h=>h) (fun q h=>us j q hj h) (fun jj q _ h=>us _ q (by unfold vx; omega) h) ul
theorem RepS.extL (R:RepS K G c H ow ps σ) {s s':Sl} {p:Addr} {o:HO} (e:ps[0]? =some s) (hl:c.lx=some p) (hp:H p=some o) (m:Mt o) (sx:SameX p H H') (hp':H' p ≠ none) (r: ∀ v, σ[0]? =some v->SlAt K G c ps.length H' (av c ow) ow 0 s' v) :
  RepS K G c H' ow (ps.set 0 s') σ /\Kp K G H (av c ow) H' (av c ow):=by
 have hA:=(R.lent p hl).1
 have k:Kp K G H (av c ow) H' (av c ow):=Kp.sameX sx (.inl hA) hp m
 have sm:SmL c H':=fun b o' h n=>sx b o' (R.same b o' h n) (by intro z; subst z; exact n hl)
 have us: ∀ j q,ow j=some q->H' q=H q:=fun j q h=>by
  cases e5:H q with
  | none=>exact absurd e5 (R.used q (.inr ⟨j,h⟩))
  | some o'=>exact sx q o' e5 (by intro z; subst z; exact absurd (R.fresh j q h) (R.a0 q hA))
 refine ⟨⟨by simp [R.len],sm,fun q h=>⟨(R.lent q h).1,?_⟩,R.a0,R.b0,R.fresh,R.inj,fun j q h=> ?_,fun j z o' h1 h2=> ?_⟩,k⟩
 ·rw [hl] at h; cases h; exact hp'
 ·rw [List.length_set]
  rcases R.out j q h with z | z
  ·exact .inl z
  ·right; rw [us j q h]; exact z
 ·rw [List.length_set]
  by_cases hj:j=0
  ·subst hj
   have hlt:0 < ps.length:=(List.getElem?_eq_some_iff.mp e).1
   rw [List.getElem?_set_self hlt] at h1
   cases h1
   exact r o' h2
  ·rw [List.getElem?_set_ne (fun z=>hj z.symm)] at h1
   have q:=R.slot j z o' h1 h2
   cases z with
   | no=>exact q
   | v w'=>obtain ⟨z,v',e3,r'⟩:=q; exact ⟨z,v',e3,k.rep r'⟩
   | own y'=>obtain ⟨p',e3,e4,r'⟩:=q; exact ⟨p',e3,e4,r'.keep k (us j p' e3)⟩
   | bor w=>obtain ⟨z,v',e3,r'⟩:=q; exact ⟨z,v',e3,bor_keep R.b0 R.same sm k r'⟩
   | ino y=>exact absurd q.2.1 hj
   | ini kk xs=>exact absurd q.2.1 hj
   | dol ks xss =>
    obtain ⟨p',qs,e1,e2,hp',l1,l2,l3,h⟩:=q
    refine ⟨p',qs,e1,e2,by rw [us j p' e1]; exact hp',l1,l2,l3,fun jj q xs h1 h2=> ?_⟩
    obtain ⟨h3,h4⟩:=h jj q xs h1 h2
    exact ⟨h3,h4.keep k (us _ q h3)⟩
   | als d jj=>exact q
end
def spO (K:Fg) (G:Pg) (ms:List Bool) (g:List PV->Rx PV):Sp:=fun vs H Q _=> ∃ (A:Av) (H1:Hp) (p:Addr) (k:Nat) (xs ws:List PV) (us:List V) (w:PV) (k':Nat) (xs':List PV),vs= .ref p :: us/\A p/\H1 p=none/\Same H1 H/\Used H A/\RepO K G H A (.obj k xs) p/\RepM K G H1 A ms ws us /\
 g (.obj k xs :: ws)= .ok (.tup [w,.obj k' xs'])/\ ∀ v H',SameX p H H'->RepO K G H' A (.obj k' xs') p->Rep K G H' A w v->Q v H'
def inO (x:Ow) (ms:List Bool) (n:Nat) (ws:List PV):PSt:= .ino x :: inP ms (n - 1) ws
def finO:Rs->Rx PV
 | .reti w x=> .ok (.tup [w,x.pv])
 | .nx ps=>(match ps[(0:Nat)]? with | some (.ino x)=> .ok (.tup [.non,x.pv]) | _=> .bad)
 | .exc c=> .exc c
 | _=> .bad
def runO (ms:List Bool) (n:Nat) (d:DS):List PV->Rx PV
 | .obj k xs :: ws=>if ws.length=ms.length then finO (d (inO (.obj k xs) ms n ws)) else .bad
 | _=> .bad
theorem pv_obj {x:Ow} {k:Nat} {xs:List PV} (h:x.pv= .obj k xs):x= .obj k xs:=by
 cases x <;> cases h; rfl
theorem fn_okO {P:Program} {w:World} {K:Fg} {mg:Str->Option Value} {base:Bs} {G:Pg} {x qual:Str} {st:Stmt} {f:Addr} {fd:FuncData} {N ps:List Str} {k:Nat} {ms:List Bool} {d:DS} (F:Fun K x qual st f fd) (S:FnScope N ps (defScope st)) (hm:ms.length + 1=ps.length) (hn:0 < N.length)
  (hb: ∀ (cdv:Value) (A:Around) (outer:List Env) (s:Shared) (H:Hp) (E:XK),Room k (A.deeper (envOfC qual (defScope st) s.heap.objs.size f cdv))->JSs (cxOf CX0 P w K mg base N qual (defScope st) f cdv A outer s H E).nox G (defBody st) d) :
  FnOk P w K mg base CX0 (k + 1) f fd ps (spO K G ms (runO ms N.length d)):=by
 refine F.ok S (fun vs H Q E h=> ?_) (fun cdv A outer s H vs Q E hr h=> ?_)
 ·obtain ⟨A,H1,p,k0,xs,ws,us,w,k',xs',rfl,_,_,_,_,_,r,_⟩:=h
  rw [List.length_cons,r.len.2,hm]
 ·obtain ⟨A',H1,p,k0,xs,ws,us,w',k',xs',rfl,hA,hp1,sm,u,ro,r,e,q⟩:=h
  refine ⟨_,hb cdv A outer s H E hr,?_⟩
  have hlen:N.tail.length=N.length - 1:=List.length_tail
  have F0:=in_rep (N:=N.tail) r
  rw [hlen] at F0
  have F1:RepF K G (fun p=>H1 p ≠ none) H A' (inP ms (N.length - 1) ws) (L2.start N.tail us):=F0.keep (Kp.of_same sm) fun p hp=>by
   cases e1:H1 p with
   | none=>exact absurd e1 hp
   | some o=>exact sm _ _ e1
  have S0:=F1.cons (s:= .ino (.obj k0 xs)) (v:= .ref p) (x:=p) u (fun a z=>⟨by
   cases e1:H1 a with
   | none=>exact absurd e1 z
   | some o=>rw [sm _ _ e1]; simp,fun y=>z (by rw [y]; exact hp1)⟩) hA ⟨rfl,rfl,p,rfl,rfl,ro.keep (Kp.weak fun a z=>av0 a z) rfl⟩
  rw [start_cons hn]
  refine ⟨_,ow0,inO (.obj k0 xs) ms N.length ws,S0,?_⟩
  have e:(if ws.length=ms.length then finO (d (inO (.obj k0 xs) ms N.length ws)) else .bad)= .ok (.tup [w',.obj k' xs']):=e
  rw [if_pos r.len.1] at e
  have sx: ∀ {H':Hp},SmL ⟨H,A',fun p=>H1 p ≠ none,some p⟩ H'->SameX p H H':=fun {H'} s a o h n=>s a o h fun z=>n (Option.some.inj z).symm
  cases ed:d (inO (.obj k0 xs) ms N.length ws) with
  | reti w2 x2 =>
   rw [ed] at e
   have e:Rx.ok (PV.tup [w2,x2.pv])= .ok (.tup [w',.obj k' xs']):=e
   injection e with e
   injection e with e
   injection e with e1 e2
   injection e2 with e2 _
   subst e1
   have:=pv_obj e2
   subst this
   intro v H' pp s hl ro' rw'
   cases hl
   exact q v H' (sx s) ro' rw'
  | nx ps' =>
   rw [ed] at e
   have e:(match ps'[(0:Nat)]? with | some (.ino x)=>Rx.ok (PV.tup [.non,x.pv]) | _=> .bad)= .ok (.tup [w',.obj k' xs']):=e
   split at e
   ·rename_i x2 hp0
    injection e with e
    injection e with e
    injection e with e1 e2
    injection e2 with e2 _
    subst e1
    have:=pv_obj e2
    subst this
    intro σ' H' ow' R' _
    obtain ⟨o',eo,z1,z2,pp,e2,el,ro'⟩:=R'.get hp0
    cases el
    exact q .non H' (sx R'.same) (ro'.keep (Kp.weak fun a z=>Or.inl z) rfl) rfl
   ·cases e
  | ret w2=>rw [ed] at e; cases e
  | retn xs=>rw [ed] at e; cases e
  | brk _=>rw [ed] at e; cases e
  | cnt _=>rw [ed] at e; cases e
  | bad=>rw [ed] at e; cases e
  | exc _=>rw [ed] at e; cases e
theorem spO_none {P:Program} {w:World} {K:Fg} {mg:Str->Option Value} {base:Bs} {G:Pg} {ms:List Bool} {n:Nat} {f:Addr} {fd:FuncData} {ps:List Str} {g:List PV->Rx PV} (h: ∀ ws,g ws= .bad):FnOk P w K mg base CX0 n f fd ps (spO K G ms g) :=
 fn_none fun vs H Q E ⟨A,H1,p,k,xs,ws,us,w,k',xs',_,_,_,_,_,_,_,e,_⟩=>by rw [h] at e; cases e
structure MtO (P:Program) (w:World) (K:Fg) (mg:Str->Option Value) (base:Bs) (G:Pg) (k:Nat) (m:Str) (ms:List Bool) (tab:List (Nat × Nat)) (g:Nat->List PV->Rx PV):Prop where
 all: ∀ c f,tab.lookup c=some f->MethAt P w K mg base CX0 k (G.cA c) m (spO K G ms (g f))/\m ∉ G.fN c
section
variable {X:Cx} {G:Pg} {e a b o tg:Expr} {es:List Expr} {da db:DP} {d:DA} {dm:DM} {dma:DMA} {ds du:DS} {dt:DT} {pos p apos cpos:Pos} {x m:Str} {k i:Nat} {ms:List Bool}
def objAt (ps:PSt) (i:Nat):Option (Nat × List PV):=match ps[i]? with
 | some (.own (.obj k xs))=>some (k,xs)
 | some (.ino (.obj k xs))=>some (k,xs)
 | _=>none
def putO (ps:PSt) (i k:Nat) (xs:List PV):PSt:=match ps[i]? with
 | some (.own _)=>ps.set i (.own (.obj k xs))
 | _=>ps.set i (.ino (.obj k xs))
def resO (ps:PSt) (i:Nat):PV->Rx (PV × PSt)
 | .tup [w,.obj k xs]=> .ok (w,putO ps i k xs)
 | _=> .bad
def mMethO (tab:List (Nat × Nat)) (g:Nat->List PV->Rx PV) (i:Nat) (d:DA):DM:=fun ps=>match objAt ps i with
 | some (k,xs)=>(match tab.lookup k with | some f=>(d ps).bind fun ws=>(g f (.obj k xs :: ws)).bind (resO ps i) | none=> .bad)
 | none=> .bad
theorem objAt_get {c:Fr} {ow:Ows} {ps:PSt} {σ :L2.St} {H:Hp} {k:Nat} {xs:List PV} (R:RepS X.K G c H ow ps σ) (h:objAt ps i=some (k,xs)): ∃ p, σ[i]? =some (some (.ref p))/\av c ow p/\RepO X.K G H (av c ow) (.obj k xs) p /\
  ∀ H' k' xs',SameX p H H'->RepO X.K G H' (av c ow) (.obj k' xs') p->RepS X.K G c H' ow (putO ps i k' xs') σ /\Kp X.K G H (av c ow) H' (av c ow):=by
 unfold objAt at h
 split at h
 ·rename_i k0 xs0 hx
  cases h
  obtain ⟨p,e1,e2,r⟩:=R.getO hx
  refine ⟨p,e2,.inr ⟨i,e1⟩,r,fun H' k' xs' s r'=> ?_⟩
  have:=R.extO hx e1 s r'
  unfold putO
  rw [hx]
  exact this
 ·rename_i k0 xs0 hx
  cases h
  obtain ⟨o',eo,z1,z2,p,e2,el,r⟩:=R.get hx
  subst z2
  rw [e2] at eo
  obtain ⟨o5,e5,m5⟩:=r.at
  refine ⟨p,eo,.inl (R.lent p el).1,r,fun H' k' xs' s r'=> ?_⟩
  obtain ⟨o6,e6,_⟩:=r'.at
  have:=R.extL (s':= .ino (.obj k' xs')) hx el e5 m5 s (by rw [e6]; simp) fun v hv=>by
   rw [eo] at hv; cases hv
   exact ⟨z1,rfl,p,rfl,el,r'⟩
  unfold putO
  rw [hx]
  exact this
 ·cases h
theorem methO_of {tab:List (Nat × Nat)} {g:Nat->List PV->Rx PV} (h:MtO X.prog X.w X.K X.mg X.base G k m ms tab g) (hms:ms.all (! ·)=true) {σ :L2.St} {H:Hp} {Q:VK} (hq:tMv X.K G (mMethO tab g i d) σ H Q) :
  tMethD (ι :={ q:Nat × Nat // tab.lookup q.1=some q.2 }) (fun i=>G.cA i.1.1) m (fun i=>spO X.K G ms (g i.1.2)) E0 (tVar i) (tPa X.K G ms d) σ H Q:=by
 obtain ⟨c,ow,ps,w,ps',R,e,q⟩:=hq
 unfold mMethO at e
 split at e
 ·rename_i k0 xs hx
  split at e
  ·rename_i f hf
   obtain ⟨ws,e1,e⟩:=bind_ok e
   obtain ⟨r,e2,e3⟩:=bind_ok e
   obtain ⟨p,hσ,hA,ro,_⟩:=objAt_get R hx
   obtain ⟨dx,vs,hH,hl,rs⟩:=ro
   refine ⟨.ref p,hσ,⟨(k0,f),hf⟩,p,dx,_,rfl,hH,zip_none (h.all k0 f hf).2,c,ow,ps,ws,R,e1,fun us H2 s2 rm=> ?_⟩
   have R2:=R.grow s2
   obtain ⟨p',hσ',hA',ro',upd'⟩:=objAt_get R2 hx
   rw [hσ] at hσ'
   cases hσ'
   unfold resO at e3
   split at e3
   ·rename_i w0 k' xs'
    cases e3
    obtain ⟨o5,e5,m5⟩:=ro'.at
    let H1:Hp:=fun a=>if a=p then none else H2 a
    have s12:Same H1 H2:=fun a o ha=>by
     by_cases z:a=p
     ·have:H1 a=none:=if_pos z
      rw [this] at ha; cases ha
     ·have:H1 a=H2 a:=if_neg z
      rw [this] at ha; exact ha
    have sx:SameX p H2 H1:=fun a o ha n=>by
     have:H1 a=H2 a:=if_neg n
     rw [this]; exact ha
    have kp:Kp X.K G H2 (av c ow) H1 (av c ow):=Kp.sameX sx hA' e5 m5
    have rm1:RepM X.K G H1 (av c ow) ms ws us:=RepM.weak (kp.reps (rm.reps' hms)) rm.len.1
    exact ⟨av c ow,H1,p,k0,xs,ws,us,w,k',xs',rfl,hA',if_pos rfl,s12,R2.used,ro',rm1,e2,fun v H' sx' ro'' rv=>by
     obtain ⟨R3,k3⟩:=upd' H' k' xs' sx' ro''
     exact q v H' ow R3 ((Kp.of_same s2).trans k3) rv⟩
   ·cases e3
  ·cases e
 ·cases e
theorem m_methO {tab:List (Nat × Nat)} {g:Nat->List PV->Rx PV} {pl:Sem Bool} (i:Nat) (h:MtO X.prog X.w X.K X.mg X.base G k m ms tab g) (hr:Room k X.A) (ha:JA X G ms (e :: es) d) (hms:ms.all (! ·)=true:=by rfl) (hN:X.N[i]? =some x:=by rfl) (hv:Vis X.env.scope x:=by first | exact Or.inl rfl | exact Or.inr (Or.inl rfl) | exact Or.inr (Or.inr rfl))
  (hd:(x == ("__debug__":Str))=false:=by decide) (hcd:(x == ("__classdict__":Str))=false:=by decide)
  (hst:starEach (e :: es) X.env=(false,eval e X.env) :: starEach es X.env:=by rfl) (hpl:(backTo pos (starEach es X.env)).any (·.1)=false:=by rfl)
  (ht:eval (.Call (.Attribute (.Name x p) m apos) (e :: es) [] pos) X.env=(do
   let ov <- eval (.Name x p) X.env
   standAt apos.atName
   let (f,first) <- holding [ov] (getMethod ov m pl)
   callWith pos f first (backTo pos (starEach (e :: es) X.env)) (backToKw pos (keywordEach [] X.env))):=by rfl):JM X G (.Call (.Attribute (.Name x p) m apos) (e :: es) [] pos) (mMethO tab g i d) :=
 imp (pe_methD (ι :={ q:Nat × Nat // tab.lookup q.1=some q.2 }) (pl:=pl) (pe_var hN hv hd hcd) (fun i=>(h.all i.1.1 i.1.2 i.2).1) hr pass0 ha hst hpl ht) fun _ _ _=>methO_of h hms
theorem m_methO0 {tab:List (Nat × Nat)} {g:Nat->List PV->Rx PV} {pl:Sem Bool} (i:Nat) (h:MtO X.prog X.w X.K X.mg X.base G k m [] tab g) (hr:Room k X.A) (hN:X.N[i]? =some x:=by rfl) (hv:Vis X.env.scope x:=by first | exact Or.inl rfl | exact Or.inr (Or.inl rfl) | exact Or.inr (Or.inr rfl))
  (hd:(x == ("__debug__":Str))=false:=by decide) (hcd:(x == ("__classdict__":Str))=false:=by decide)
  (ht:eval (.Call (.Attribute (.Name x p) m apos) [] [] pos) X.env=(do
   let ov <- eval (.Name x p) X.env
   standAt apos.atName
   let (f,first) <- holding [ov] (getMethod ov m pl)
   callWith pos f first (backTo pos (starEach [] X.env)) (backToKw pos (keywordEach [] X.env))):=by rfl):JM X G (.Call (.Attribute (.Name x p) m apos) [] [] pos) (mMethO tab g i dNil) :=
 imp (pe_methD0 (ι :={ q:Nat × Nat // tab.lookup q.1=some q.2 }) (pl:=pl) (pe_var hN hv hd hcd) (fun i=>(h.all i.1.1 i.1.2 i.2).1) hr pass0 ht) fun σ H Q hq=>by
  obtain ⟨v,e1,ii,a,dx,fs,e2,e3,e4,c',ow',ps',ws,R',e5,f2⟩:=methO_of h rfl hq
  have:ws=[]:=by cases e5; rfl
  subst this
  exact ⟨v,e1,ii,a,dx,fs,e2,e3,e4,f2 [] H (Same.refl H) ⟨rfl,rfl⟩⟩
end
section
variable {X:Cx} {G:Pg} {e a b o tg:Expr} {es:List Expr} {da db:DP} {d:DA} {dm:DM} {dma:DMA} {ds du:DS} {dt:DT} {pos p apos cpos:Pos} {x m:Str} {k i:Nat} {ms:List Bool}
def withI (w:PV) (ps:PSt):Rs:=match ps[(0:Nat)]? with | some (.ino x)=> .reti w x | _=> .bad
theorem withI_ok {K:Fg} {c:Fr} {H H':Hp} {ow:Ows} {A:Av} {ps:PSt} {σ :L2.St} {D:Ends} {w:PV} {v:V} (R:RepS K G c H' ow ps σ) (r:Rep K G H' (av c ow) w v) (q:EndsAt K G c H A D (withI w ps)):D.rt v H':=by
 unfold withI at q
 split at q
 ·rename_i y hy
  obtain ⟨o',eo,z1,z2,p,e2,el,ro⟩:=R.get hy
  exact q v H' p R.same el (ro.keep (Kp.weak fun a z=>Or.inl z) rfl) ((Kp.weak fun a z=>Or.inl z).rep r)
 ·exact q.elim
def sRetI (d:DP):DS:=fun ps=>(d ps).st fun w=>withI w ps
theorem s_retI (he:JP X G e da):JS X G (.Return (some e) pos) (sRetI da):=impS (ps_ret he) fun D σ H ⟨c,ow,ps,R,q⟩=>by
 obtain ⟨w,e1,q⟩:=ends_st q
 exact ⟨c,ow,ps,w,R,e1,fun v H' s r=>withI_ok (R.grow s) r q⟩
def sRetIM (d:DM):DS:=fun ps=>(d ps).st fun r=>withI r.1 r.2
def sFldAugI (l:List (Nat × Nat)) (i:Nat) (f:Int->Int->Int) (d:DP):DS:=fun ps=>match objAt ps i with
 | some (k,xs)=>(match l.lookup k with
  | some j=>(match xs[j]? with
   | some (.int y)=>(d ps).st fun w=>(match w with | .int z=> .nx (putO ps i k (xs.set j (.int (f y z)))) | _=> .bad)
   | _=> .bad)
  | none=> .bad)
 | none=> .bad
theorem s_fldAugI {op:Operator} {f:Str} {l:List (Nat × Nat)} {fi:Int->Int->Int} (i:Nat) (ok:FldOk X.K G f l) (hsm: ∀ k,(G.fN k).length < 1000) (ho:InOp X op (fun x y H Q=> ∃ i j,x= .int i/\y= .int j/\Q (.int (fi i j)) H)) (he:JP X G e da)
  (hN:X.N[i]? =some x:=by rfl) (hv:Vis X.env.scope x:=by first | exact Or.inl rfl | exact Or.inr (Or.inl rfl) | exact Or.inr (Or.inr rfl)) (hd:(x == ("__debug__":Str))=false:=by decide) (hcd:(x == ("__classdict__":Str))=false:=by decide) :
  JS X G (.AugAssign (.Attribute (.Name x p) f apos) op e pos) (sFldAugI l i fi da):=impS (ps_fldaug (pe_var hN hv hd hcd) he ho) fun D σ H ⟨c,ow,ps,R,q⟩=>by
 unfold sFldAugI at q
 split at q
 ·rename_i k0 xs hx
  split at q
  ·rename_i j hj
   split at q
   ·rename_i y hy
    obtain ⟨w,e1,q⟩:=ends_st q
    obtain ⟨c1,c2,c3,c4⟩:=ok.all k0 j hj
    obtain ⟨p,hσ,hA,ro,_⟩:=objAt_get R hx
    obtain ⟨dx,vs,hH,hl,rs⟩:=ro
    obtain ⟨v,hv',rv⟩:=rs.get hy
    obtain rfl:v=V.int y:=rv
    refine ⟨.ref p,hσ,p,_,dx,_,_,rfl,hH,c1,c2,zip_at c3 c4 hv',c,ow,ps,w,R,e1,fun u H1 s1 r1=> ?_⟩
    split at q
    ·rename_i z
     obtain rfl:u=V.int z:=r1
     have R1:=R.grow s1
     obtain ⟨p',hσ',hA',ro',upd'⟩:=objAt_get R1 hx
     rw [hσ] at hσ'
     cases hσ'
     have hH1:=s1 _ _ hH
     refine ⟨y,z,rfl,rfl,dx,_,hH1,?_,?_⟩
     ·rw [List.length_zip]; have:=hsm k0; omega
     ·have hput:=putF_at (v:=V.int (fi y z)) c3 c4 hl
      have sx:SameX p H1 (upd H1 p (.ins (G.cA k0) dx (putF f (V.int (fi y z)) ((G.fN k0).zip vs)))):=fun b o' h n=>by rw [upd_ne n]; exact h
      have mD:Mt (HO.ins (G.cA k0) dx ((G.fN k0).zip vs)):=And.intro (fun _ z=>by cases z) (fun _ _ z=>by cases z)
      have k1:Kp X.K G H1 (av c ow) (upd H1 p (.ins (G.cA k0) dx (putF f (V.int (fi y z)) ((G.fN k0).zip vs)))) (av c ow):=Kp.sameX sx hA' hH1 mD
      obtain ⟨R2,k2⟩:=upd' _ k0 (xs.set j (.int (fi y z))) sx ⟨dx,vs.set j (V.int (fi y z)),by rw [upd_same,hput],by rw [List.length_set]; exact hl,(k1.reps (rs.same s1)).set j rfl⟩
      exact q _ _ ow R2 ((Kp.of_same s1).trans k2)
    ·exact q.elim
   ·exact q.elim
  ·exact q.elim
 ·exact q.elim
abbrev DTM:=PSt->Rx (Bool × PSt)
def tMt (K:Fg) (G:Pg) (d:DTM):TT:=fun σ H Q=> ∃ (c:Fr) (ow:Ows) (ps:PSt) (b:Bool) (ps':PSt),RepS K G c H ow ps σ /\d ps= .ok (b,ps')/\ ∀ H' ow',RepS K G c H' ow' ps' σ ->Kp K G H (av c ow) H' (av c ow')->Q b H'
abbrev JTM (X:Cx) (G:Pg) (e:Expr) (d:DTM):Prop:=PT X e (tMt X.K G d)
abbrev JWM (X:Cx) (G:Pg) (e:Expr) (d:DTM):Prop:=PW X e (tMt X.K G d)
def mTr (d:DM):DTM:=fun ps=>(d ps).bind fun r=>match r.1 with | .bl b=> .ok (b,r.2) | _=> .bad
theorem tm_val (h:JM X G e dm) (he: ∀ whole,isTrue e X.env whole=(do let v <- whole; standAt e.pos; holding [v] (truthy v)):=by intro _; rfl):JTM X G e (mTr dm):=impT (pt_val h he) fun σ H Q ⟨c,ow,ps,b,ps',R,e,q⟩=>by
 obtain ⟨⟨w,p1⟩,e1,e2⟩:=bind_ok e
 refine ⟨c,ow,ps,w,p1,R,e1,fun v H' ow' R' k' r=> ?_⟩
 cases w <;> try cases e2
 exact ⟨_,r,q H' ow' R' k'⟩
def mOfT (d:DT):DTM:=fun ps=>(d ps).bind fun b=> .ok (b,ps)
theorem tm_of (h:JT X G e dt):JTM X G e (mOfT dt):=impT h fun σ H Q ⟨c,ow,ps,b,ps',R,e,q⟩=>by
 obtain ⟨b',e1,e2⟩:=bind_ok e
 cases e2
 exact ⟨c,ow,ps,b,R,e1,fun H' s=>q H' ow (R.grow s) (Kp.of_same s)⟩
def mNot (d:DTM):DTM:=fun ps=>(d ps).bind fun r=> .ok (!r.1,r.2)
theorem tm_not {d1:DTM} (ha:JTM X G a d1):JTM X G (.UnaryOp .Not a pos) (mNot d1):=impT (pt_not ha) fun σ H Q ⟨c,ow,ps,b,ps',R,e,q⟩=>by
 obtain ⟨⟨x,p1⟩,e1,e2⟩:=bind_ok e
 cases e2
 exact ⟨c,ow,ps,x,p1,R,e1,fun H' ow' R' k'=>q H' ow' R' k'⟩
theorem wm_or1 {d1:DTM} (ha:JTM X G a d1):JWM X G (.BoolOp .Or [a] pos) d1:=pw_or1 ha
def mOr (t u:DTM):DTM:=fun ps=>(t ps).bind fun r=>if r.1=true then .ok (true,r.2) else u r.2
def mAnd (t u:DTM):DTM:=fun ps=>(t ps).bind fun r=>if r.1=true then u r.2 else .ok (false,r.2)
theorem wm_or {rest:List Expr} {d1 d2:DTM} (ha:JTM X G a d1) (hb:JWM X G (.BoolOp .Or (b :: rest) pos) d2):JWM X G (.BoolOp .Or (a :: b :: rest) pos) (mOr d1 d2):=impW (pw_or ha hb) fun σ H Q ⟨c,ow,ps,b,ps',R,e,q⟩=>by
 obtain ⟨⟨x,p1⟩,e1,e2⟩:=bind_ok e
 refine ⟨c,ow,ps,x,p1,R,e1,fun H1 ow1 R1 k1=> ?_⟩
 cases x with
 | true=>cases e2; exact iteT (q H1 ow1 R1 k1)
 | false=>exact iteF ⟨c,ow1,p1,b,ps',R1,e2,fun H2 ow2 R2 k2=>q H2 ow2 R2 (k1.trans k2)⟩
theorem tm_w {d1:DTM} (h:JWM X G e d1):JTM X G e d1:=PW.pt h
def sIfM (t:DTM) (a b:DS):DS:=fun ps=>(t ps).st fun r=>if r.1=true then a r.2 else b r.2
theorem s_ifM {c:Expr} {a b:List Stmt} {d1:DTM} (hc:JTM X G c d1) (ha:JSs X G a ds) (hb:JSs X G b du):JS X G (.If c a b pos) (sIfM d1 ds du):=impS (ps_if hc ha hb) fun D σ H ⟨c,ow,ps,R,q⟩=>by
 obtain ⟨⟨x,p1⟩,e1,q⟩:=ends_st q
 refine ⟨c,ow,ps,x,p1,R,e1,fun H1 ow1 R1 k1=> ?_⟩
 cases x with
 | true=>exact iteT ⟨c,ow1,p1,R1,EndsAt.mono q k1⟩
 | false=>exact iteF ⟨c,ow1,p1,R1,EndsAt.mono q k1⟩
def iterM (t:DTM) (body:DS):Nat->PSt->Option Rs
 | 0,_=>none
 | n + 1,ps=>match t ps with
  | .ok (true,ps1)=>(match body ps1 with
   | .nx ps2=>iterM t body n ps2
   | .cnt ps2=>iterM t body n ps2
   | .brk ps2=>some (.nx ps2)
   | r=>some r)
  | .ok (false,ps1)=>some (.nx ps1)
  | .bad=>some .bad
  | .exc c=>some (.exc c)
def sWhileM (t:DTM) (body:DS):DS:=fun ps=>(iterM t body 100000 ps).getD .bad
def mNew (c n:Nat) (d:DMA):DM:=fun ps=>(d ps).bind fun r=>if r.1.length=n then .ok (.obj c r.1,r.2) else .bad
def sOwnI (i:Nat) (g:List PV->Rx PV) (d:DA):DS:=fun ps=>((d ps).bind g).st fun w=>match w with | .obj k fs=>if i < ps.length then .nx (ps.set i (.own (.obj k fs))) else .bad | _=> .bad
theorem s_ownI {c:Nat} {g:List PV->Rx PV} {y:Str} {py:Pos} (hN:X.N.Nodup) (hi:X.N[i]? =some y) (hy:Loc X.env.scope y) (h:NewI X.prog X.w X.K X.mg X.base G k x c ms g) (hr:Room (k + 1) X.A) (hg:Gl X x) (ha:JA X G ms (e :: es) d) (hobj: ∀ ws w,g ws= .ok w-> ∃ fs,w= .obj c fs) (hdb:(x == ("__debug__":Str))=false:=by decide)
  (he:starEach (e :: es) X.env=(false,eval e X.env) :: starEach es X.env:=by rfl) (hpl:(backTo cpos (starEach es X.env)).any (·.1)=false:=by rfl)
  (hs:swapsWith (.Call (.Name x p) (e :: es) [] cpos) (some (.Name y py)) pos.line X.env=pure false:=by rfl) (hf:X.fn y=true\/X.env.scope.names.lookup y=some .local:=by first | exact .inl rfl | exact .inr rfl | assumption) :
  JS X G (.Assign [.Name y py] (.Call (.Name x p) (e :: es) [] cpos) pos) (sOwnI i g d):=impS (ps_set hN hi hy (pe_newI h hr hg ha hdb he hpl) hs hf) fun D σ H ⟨cf,ow,ps,R,q⟩=>by
 obtain ⟨w,e0,q⟩:=ends_st q
 obtain ⟨ws,e1,e2⟩:=bind_ok e0
 obtain ⟨fs,rfl⟩:=hobj ws w e2
 have q:EndsAt X.K G cf H (av cf ow) D (if i < ps.length then .nx (ps.set i (.own (.obj c fs))) else .bad):=q
 split at q
 ·rename_i hl
  refine ⟨cf,ow,ps,ws,R,e1,fun vs H' s r=> ?_⟩
  refine newI_of (Q:=fun x H1=>gName i x σ H1 D.nx) (R.grow s) r e2 fun xx dx us H2 s2 n1 h1 h2 h3=> ?_
  exact q _ _ _ ((R.grow s).setO hl s2 n1 ⟨dx,us,h1,h2,h3⟩) ((Kp.of_same s).trans (Kp.take n1 s2 av_on))
 ·exact q.elim
theorem vals_strs: ∀ (l:List (Str × Tok)),Vals (l.map fun q=>V.str q.1) (strValues l)
 | []=> .nil
 | q :: l=> .cons ⟨q.2,rfl⟩ (vals_strs l)
end
def spg (y:List Nat):Nat->List Nat->List Nat->List (List Nat)
 | _,cur,[]=>[cur.reverse]
 | s + 1,cur,c :: l=>spg y s cur l
 | 0,cur,c :: l=>if y.isPrefixOf (c :: l)=true then cur.reverse :: spg y (y.length - 1) [] l else spg y 0 (c :: cur) l
def mkS (l:List Nat):Str:=⟨l.toArray⟩
def spl (x y:Str):List Str:=(spg y.cps.toList 0 [] x.cps.toList).map mkS
def fst1 (y:List Nat):List Nat->List Nat->Option (List Nat × List Nat)
 | _,[]=>none
 | cur,c :: l=>if y.isPrefixOf (c :: l)=true then some (cur.reverse,(c :: l).drop y.length) else fst1 y (c :: cur) l
section
open PySem.StrLaws PySem.Builtin PySem.Builtin.Str
theorem at_iff {x y:Str} {i:Nat} (hw:1<=y.length) (hi:i<=x.length):At x y x.length i ↔ y.cps.toList.isPrefixOf (x.cps.toList.drop i)=true:=by
 have hl:x.length=x.cps.toList.length:=by simp [Str.length]
 have hy:y.length=y.cps.toList.length:=by simp [Str.length]
 unfold At
 rw [subAt_eq,List.isPrefixOf_iff_prefix,List.prefix_iff_eq_take]
 constructor
 ·rintro ⟨h1,h2⟩
  rw [<- hy]
  simpa using (beq_iff_eq.mp h2).symm
 ·intro h
  rw [<- hy] at h
  refine ⟨?_,by rw [<- h]; simp⟩
  have:=congrArg List.length h
  rw [<- hy,List.length_take,List.length_drop] at this
  omega
theorem spg_skip (y:List Nat): ∀ (s:Nat) (cur l:List Nat),spg y s cur l=spg y 0 cur (l.drop s)
 | 0,cur,l=>by simp
 | s + 1,cur,[]=>by simp [spg]
 | s + 1,cur,c :: l=>by rw [List.drop_succ_cons]; show spg y s cur l=_; exact spg_skip y s cur l
theorem spg_none {x y:Str} (hw:1<=y.length): ∀ (n a i:Nat),i + n=x.length->a<=i->(∀ k,i<=k-> ¬ At x y x.length k)->spg y.cps.toList 0 ((x.cps.toList.drop a).take (i - a)).reverse (x.cps.toList.drop i)=[x.cps.toList.drop a]
 | 0,a,i,h,ha,hn=>by
  have hl:x.length=x.cps.toList.length:=by simp [Str.length]
  rw [List.drop_of_length_le (i:=i) (by omega)]
  unfold spg
  rw [List.reverse_reverse,List.take_of_length_le (by rw [List.length_drop]; omega)]
 | n + 1,a,i,h,ha,hn=>by
  have hl:x.length=x.cps.toList.length:=by simp [Str.length]
  have hi:i < x.cps.toList.length:=by omega
  have h0:=hn i (Nat.le_refl _)
  rw [at_iff hw (by omega)] at h0
  rw [List.drop_eq_getElem_cons hi] at h0 ⊢
  unfold spg
  rw [if_neg h0]
  have:=spg_none hw n a (i + 1) (by omega) (by omega) fun k hk=>hn k (by omega)
  rw [<- this]
  congr 1
  rw [show i + 1 - a=(i - a) + 1 from by omega,List.take_succ,List.reverse_append,List.getElem?_drop,show a + (i - a)=i from by omega,List.getElem?_eq_getElem hi]
  rfl
theorem spg_to {x y:Str} (hw:1<=y.length): ∀ (n a i:Nat),a<=i->At x y x.length (i + n)->(∀ k,i<=k->k < i + n-> ¬ At x y x.length k)->spg y.cps.toList 0 ((x.cps.toList.drop a).take (i - a)).reverse (x.cps.toList.drop i)=(x.cps.toList.drop a).take (i + n - a) :: spg y.cps.toList 0 [] (x.cps.toList.drop (i + n + y.length))
 | 0,a,i,ha,h1,hn=>by
  have hl:x.length=x.cps.toList.length:=by simp [Str.length]
  have hy:y.length=y.cps.toList.length:=by simp [Str.length]
  have hi:i < x.cps.toList.length:=by have:=h1.1; omega
  rw [Nat.add_zero] at h1 ⊢
  rw [at_iff hw (by omega)] at h1
  rw [List.drop_eq_getElem_cons hi] at h1 ⊢
  conv=>lhs; unfold spg
  rw [if_pos h1,List.reverse_reverse,spg_skip,List.drop_drop,show i + 1 + (y.cps.toList.length - 1)=i + y.length from by omega]
 | n + 1,a,i,ha,h1,hn=>by
  have hl:x.length=x.cps.toList.length:=by simp [Str.length]
  have hi:i < x.cps.toList.length:=by have:=h1.1; omega
  have h0:=hn i (Nat.le_refl _) (by omega)
  rw [at_iff hw (by omega)] at h0
  rw [List.drop_eq_getElem_cons hi] at h0 ⊢
  conv=>lhs; unfold spg
  rw [if_neg h0]
  have:=spg_to hw n a (i + 1) (by omega) (by rw [show i + 1 + n=i + (n + 1) from by omega]; exact h1) fun k hk hk2=>hn k (by omega) (by omega)
  rw [show i + 1 + n=i + (n + 1) from by omega] at this
  rw [<- this]
  congr 1
  rw [show i + 1 - a=(i - a) + 1 from by omega,List.take_succ,List.reverse_append,List.getElem?_drop,show a + (i - a)=i from by omega,List.getElem?_eq_getElem hi]
  rfl
theorem sub_mk (x:Str) (a c:Nat):strSub x a c=mkS ((x.cps.toList.drop a).take (c - a)):=by
 apply PySem.Str.ext'
 rw [<- Array.toList_inj,strSub_toList]
 simp [mkS]
theorem spg_parts {x y:Str} (hw:1<=y.length): ∀ (cuts:List Nat) (a f:Nat),a<=x.length->ChainG x y x.length a cuts f->(∀ k,f<=k-> ¬ At x y x.length k)->(spg y.cps.toList 0 [] (x.cps.toList.drop a)).map mkS=partsFrom x y.length a cuts
 | [],a,f,ha,h,hn=>by
  have hl:x.length=x.cps.toList.length:=by simp [Str.length]
  obtain rfl:f=a:=h
  have:=spg_none hw (x.length - f) f f (by omega) (Nat.le_refl _) hn
  rw [Nat.sub_self,List.take_zero,List.reverse_nil] at this
  rw [this]
  show [mkS _]=[strSub x f x.length]
  rw [sub_mk,List.take_of_length_le (by rw [List.length_drop]; omega)]
 | c :: r,a,f,ha,h,hn=>by
  obtain ⟨h1,h2,h3,h4⟩:=h
  have e:a + (c - a)=c:=by omega
  have:=spg_to hw (c - a) a a (Nat.le_refl _) (by rw [e]; exact h2) (fun k k1 k2=>h3 k k1 (by omega))
  rw [Nat.sub_self,List.take_zero,List.reverse_nil,e] at this
  rw [this]
  show mkS _ :: List.map mkS _=strSub x a c :: partsFrom x y.length (c + y.length) r
  rw [sub_mk,spg_parts hw r (c + y.length) f h2.1 h4 hn]
theorem split_eq {x y:Str} (hw:1<=y.length) (hk:strKind y=1):Txt.split x y=spl x y:=by
 obtain ⟨f,h1,h2⟩:=occ_tight x y hw
 have key:=spg_parts hw _ 0 f (Nat.zero_le _) h1 h2
 have hk2: ∀ z:Str,1<=strKind z:=fun z=>by
  unfold Builtin.Str.strKind
  split
  ·omega
  ·split <;> omega
 rw [List.drop_zero] at key
 unfold spl Txt.split
 rw [key]
 split
 ·rename_i h
  rw [Bool.or_eq_true,decide_eq_true_iff,decide_eq_true_iff] at h
  rcases h with h | h
  ·cases hc:occurrences x y 0 x.length (x.length + 1) with
   | nil=>exact (congrArg (fun z=>[z]) (sub_whole x)).symm
   | cons c r=>rw [hc] at h1; have:=h1.2.1.1; omega
  ·have:=hk2 x; omega
 ·split
  ·rename_i h
   rw [List.isEmpty_iff] at h
   rw [h]
   exact (congrArg (fun z=>[z]) (sub_whole x)).symm
  ·exact partsBetween_eq ..
theorem split_small (x y:Str) (hx:x.length<=1000000):(partsBetween x (occurrences x y 0 x.length (x.length + 1)) y.length).length<=sizeLine:=by
 have h:=occ_length_le x y 0 x.length (x.length + 1)
 unfold partsBetween
 rw [List.length_map,List.length_zip,List.length_cons,List.length_map]
 have:(1000010:Nat)<=sizeLine:=by decide
 omega
end
section
variable {X:Cx} {G:Pg} {e a b o tg:Expr} {es:List Expr} {da db:DP} {d:DA} {pos p apos cpos:Pos} {x m:Str} {k i:Nat} {ms:List Bool}
theorem vals_strs' {l:List (Str × Tok)} {xs:List Str} (h:l.map (·.1)=xs):Vals (xs.map V.str) (strValues l):=by
 subst h
 rw [List.map_map]
 exact vals_strs l
open PySem.Builtin PySem.Builtin.Str in
theorem mt_split:MtR X "str.split" (fun x xs H Q=> ∃ z y,x= .str z/\xs=[.str y]/\(y.length == 0)=false/\z.length<=1000000/\ ∀ p,H p=none->Q (.ref p) (upd H p (.lst ((Txt.split z y).map V.str)))):=by
 intro pins s σ H x xs v us Q I rx rs h
 obtain ⟨z,y,rfl,rfl,hy,hz,q⟩:=h
 obtain ⟨t,rfl⟩:=rx
 obtain ⟨u',rfl,u,rfl⟩:=vals1 rs
 have h2:=split_small z y hz
 have hsz:z.length<=sizeLine:=by
  have:(1000010:Nat)<=sizeLine:=by decide
  omega
 have hlen:((Txt.split z y).map V.str).length<=sizeLine:=by
  have:=split_le z y
  have:(1000010:Nat)<=sizeLine:=by decide
  rw [List.length_map]; omega
 cases h1:(decide (z.length < y.length) || decide (strKind z < strKind y))
 ·cases hf:(occurrences z y 0 z.length (z.length + 1)).isEmpty
  ·refine call_meets F.slot_str_split (typeIs_str _ _ _) F.entry_str_split (F.args_str_split_2 _ _) (meets_str_split_sep z y t u h1 hy hf hsz h2) ?_
   rw [strsFrom_eq]
   have e:(numbered s.toks (partsBetween z (occurrences z y 0 z.length (z.length + 1)) y.length)).map (·.1)=Txt.split z y:=(numbered_texts _ _).trans ((if_neg (ne_true_of_eq_false h1)).trans (if_neg (ne_true_of_eq_false hf))).symm
   exact ⟨.ref _,_,I.lnew (vals_strs' e) hlen,rfl,q _ I.fresh⟩
  ·have e:[(z,t)].map (·.1)=Txt.split z y:=((if_neg (ne_true_of_eq_false h1)).trans (if_pos hf)).symm
   exact call_meets F.slot_str_split (typeIs_str _ _ _) F.entry_str_split (F.args_str_split_2 _ _) (meets_str_split_not_found z y t u h1 hy hf)
    ⟨.ref _,_,I.lnew (t':=s.toks) (vals_strs' e) hlen,rfl,q _ I.fresh⟩
 ·have e:[(z,t)].map (·.1)=Txt.split z y:=(if_pos h1).symm
  exact call_meets F.slot_str_split (typeIs_str _ _ _) F.entry_str_split (F.args_str_split_2 _ _) (meets_str_split_cannot_occur z y t u h1)
   ⟨.ref _,_,I.lnew (t':=s.toks) (vals_strs' e) hlen,rfl,q _ I.fresh⟩
theorem reps_strs {K:Fg} {H:Hp} {A:Av}: ∀ (xs:List Str),Reps K G H A (xs.map PV.str) (xs.map V.str)
 | []=>rfl
 | x :: xs=>⟨_,_,rfl,rfl,reps_strs xs⟩
def goodSep (y:Str):Bool:=y.cps.all (· < 256) && decide (1<=y.cps.toList.length)
theorem goodSep_ok {y:Str} (h:goodSep y=true):1<=y.length/\Builtin.Str.strKind y=1/\(y.length == 0)=false:=by
 unfold goodSep at h
 rw [Bool.and_eq_true,decide_eq_true_iff] at h
 have h1:1<=y.length:=by have:=h.2; simp [Str.length] at this ⊢; omega
 refine ⟨h1,by unfold Builtin.Str.strKind; rw [if_pos h.1],?_⟩
 rw [beq_eq_false_iff_ne]; omega
def dSplit (a b:DP):DA:=fun ps=>(a ps).bind fun x=>(b ps).bind fun y=>match x,y with
 | .str x,.str y=>if goodSep y=true/\x.cps.toList.length<=1000000 then .ok ((spl x y).map .str) else .bad
 | _,_=> .bad
theorem n_split (ho:JP X G o da) (he:JP X G e db)
  (hbase:attributeBase o "split" X.env (eval o X.env)=eval o X.env:=by rfl)
  (hfew:((backTo cpos (starEach [e] X.env)).all (fun x=> !x.1) && (backToKw cpos (keywordEach [] X.env)).all (fun x=>x.1.isSome) && decide (([e]:List Expr).length + ([]:List Keyword).length + (if ([]:List Keyword).isEmpty then 0 else 1) < 30))=true:=by rfl)
  (hline:(apos.endLine == cpos.line)=true:=by rfl) (hst:starEach [e] X.env=(false,eval e X.env) :: starEach [] X.env:=by rfl) (hpl:(backTo cpos (starEach ([]:List Expr) X.env)).any (·.1)=false:=by rfl) :
  JN X G (.Call (.Attribute o "split" apos) [e] [] cpos) (dSplit da db) :=
 imp (pe_bm PySem.F.plainAttrs_str PySem.F.slot_str_split PySem.F.type_str_split mt_split ho (pa_cons he pa_nil hst) hbase hfew hline hst hpl) fun σ H Q ⟨c,ow,ps,ws,R,e,q⟩=>by
  obtain ⟨w1,e1,e⟩:=bind_ok e
  obtain ⟨w2,e2,e⟩:=bind_ok e
  split at e
  ·rename_i x y _
   split at e
   ·rename_i hg
    cases e
    obtain ⟨g1,g2,g3⟩:=goodSep_ok hg.1
    refine ⟨c,ow,ps,_,R,e1,fun v H1 s1 r1=> ?_⟩
    obtain rfl:v=V.str x:=r1
    refine ⟨rfl,c,ow,ps,_,R.grow s1,e2,fun u H2 s2 r2=> ?_⟩
    obtain rfl:u=V.str y:=r2
    refine ⟨x,y,rfl,rfl,g3,by have:=hg.2; simpa [Str.length] using this,fun p hp=> ?_⟩
    rw [split_eq g1 g2]
    exact q p _ _ ((s1.trans s2).trans (same_upd hp _)) ((s1.trans s2).free hp) upd_same (reps_strs _)
   ·cases e
  ·cases e
open PySem.StrLaws PySem.Builtin PySem.Builtin.Str in
theorem fst1_none {x y:Str} (hw:1<=y.length): ∀ (n i:Nat) (cur:List Nat),i + n=x.length->(∀ k,i<=k-> ¬ At x y x.length k)->fst1 y.cps.toList cur (x.cps.toList.drop i)=none
 | 0,i,cur,h,hn=>by
  have hl:x.length=x.cps.toList.length:=by simp [Str.length]
  rw [List.drop_of_length_le (i:=i) (by omega)]
  rfl
 | n + 1,i,cur,h,hn=>by
  have hl:x.length=x.cps.toList.length:=by simp [Str.length]
  have hi:i < x.cps.toList.length:=by omega
  have h0:=hn i (Nat.le_refl _)
  rw [at_iff hw (by omega)] at h0
  rw [List.drop_eq_getElem_cons hi] at h0 ⊢
  unfold fst1
  rw [if_neg h0]
  exact fst1_none hw n (i + 1) _ (by omega) fun k hk=>hn k (by omega)
open PySem.StrLaws PySem.Builtin PySem.Builtin.Str in
theorem fst1_at {x y:Str} (hw:1<=y.length): ∀ (n i:Nat),At x y x.length (i + n)->(∀ k,i<=k->k < i + n-> ¬ At x y x.length k)->fst1 y.cps.toList (x.cps.toList.take i).reverse (x.cps.toList.drop i)=some (x.cps.toList.take (i + n),x.cps.toList.drop (i + n + y.length))
 | 0,i,h1,hn=>by
  have hl:x.length=x.cps.toList.length:=by simp [Str.length]
  have hy:y.length=y.cps.toList.length:=by simp [Str.length]
  have hi:i < x.cps.toList.length:=by have:=h1.1; omega
  rw [Nat.add_zero] at h1 ⊢
  rw [at_iff hw (by omega)] at h1
  rw [List.drop_eq_getElem_cons hi] at h1 ⊢
  unfold fst1
  rw [if_pos h1,List.reverse_reverse, <- List.drop_eq_getElem_cons hi,List.drop_drop, <- hy]
 | n + 1,i,h1,hn=>by
  have hl:x.length=x.cps.toList.length:=by simp [Str.length]
  have hi:i < x.cps.toList.length:=by have:=h1.1; omega
  have h0:=hn i (Nat.le_refl _) (by omega)
  rw [at_iff hw (by omega)] at h0
  rw [List.drop_eq_getElem_cons hi] at h0 ⊢
  unfold fst1
  rw [if_neg h0]
  have:=fst1_at hw n (i + 1) (by rw [show i + 1 + n=i + (n + 1) from by omega]; exact h1) fun k hk hk2=>hn k (by omega) (by omega)
  rw [show i + 1 + n=i + (n + 1) from by omega] at this
  rw [<- this,List.take_succ,List.reverse_append,List.getElem?_eq_getElem hi]
  rfl
def part (x y:Str):Str × Str × Str:=match fst1 y.cps.toList [] x.cps.toList with
 | some (p,r)=>(mkS p,y,mkS r)
 | none=>(x,⟨#[]⟩,⟨#[]⟩)
open PySem.StrLaws PySem.Builtin PySem.Builtin.Str in
theorem part_eq {x y:Str} (hw:1<=y.length):Txt.partition x y=part x y:=by
 have hl:x.length=x.cps.toList.length:=by simp [Str.length]
 unfold Txt.partition part
 rcases occ_head x y 1 (Nat.le_refl _) with ⟨h,hn⟩ | ⟨i,r,h,ha,hn⟩
 ·have:=fst1_none (x:=x) hw x.length 0 [] (by omega) fun k _=>hn k
  rw [List.drop_zero] at this
  rw [h,this]
  rfl
 ·have:=fst1_at (x:=x) hw i 0 (by rw [Nat.zero_add]; exact ha) fun k _ hk=>hn k (by omega)
  rw [List.drop_zero,List.take_zero,List.reverse_nil,Nat.zero_add] at this
  rw [h,this]
  show (strSub x 0 i,y,strSub x (i + y.length) x.length)=(mkS _,y,mkS _)
  rw [sub_mk,sub_mk,List.drop_zero,Nat.sub_zero,List.take_of_length_le (l:=List.drop (i + y.length) x.cps.toList) (by rw [List.length_drop]; omega)]
theorem vals_str3 {a b c:Str} {ta tb tc:Tok}:Vals [V.str a,V.str b,V.str c] [Value.str a ta,Value.str b tb,Value.str c tc]:= .cons ⟨_,rfl⟩ (.cons ⟨_,rfl⟩ (.cons ⟨_,rfl⟩ .nil))
open PySem.Builtin PySem.Builtin.Str in
theorem mt_part:MtR X "str.partition" (fun x xs H Q=> ∃ z y,x= .str z/\xs=[.str y]/\(y.length == 0)=false/\z.length<=sizeLine/\ ∀ p,H p=none->Q (.ref p) (upd H p (.tup [V.str (Txt.partition z y).1,V.str (Txt.partition z y).2.1,V.str (Txt.partition z y).2.2]))):=by
 intro pins s σ H x xs v us Q I rx rs h
 obtain ⟨z,y,rfl,rfl,hy,hz,q⟩:=h
 obtain ⟨t,rfl⟩:=rx
 obtain ⟨u',rfl,u,rfl⟩:=vals1 rs
 refine call_meets F.slot_str_partition (typeIs_str _ _ _) F.entry_str_partition (F.args_str_partition_2 _ _) (meets_str_partition z y t u hy hz) ?_
 unfold Txt.partition at q
 revert q
 cases occurrences z y 0 z.length 1 with
 | nil=>exact fun q=>⟨.ref _,_,I.laid (fun b o e=>Heap.get?_push_of_some _ e) (Nat.le_refl _) (show ObjOk X.prog X.w _ _ _ (.tup _) from ⟨by show 3<=sizeLine; decide,_,vals_str3,IsTup.new _ _⟩),rfl,q _ I.fresh⟩
 | cons i r=>exact fun q=>⟨.ref _,_,I.laid (fun b o e=>Heap.get?_push_of_some _ e) (Nat.le_refl _) (show ObjOk X.prog X.w _ _ _ (.tup _) from ⟨by show 3<=sizeLine; decide,_,vals_str3,IsTup.new _ _⟩),rfl,q _ I.fresh⟩
def dPart (a b:DP):DP:=fun ps=>(a ps).bind fun x=>(b ps).bind fun y=>match x,y with
 | .str x,.str y=>if goodSep y=true/\x.cps.toList.length<=1000000 then .ok (.tup [.str (part x y).1,.str (part x y).2.1,.str (part x y).2.2]) else .bad
 | _,_=> .bad
theorem p_part (ho:JP X G o da) (he:JP X G e db)
    (hbase:attributeBase o "partition" X.env (eval o X.env)=eval o X.env:=by rfl)
    (hfew:((backTo cpos (starEach [e] X.env)).all (fun x=> !x.1) && (backToKw cpos (keywordEach [] X.env)).all (fun x=>x.1.isSome) && decide (([e]:List Expr).length + ([]:List Keyword).length + (if ([]:List Keyword).isEmpty then 0 else 1) < 30))=true:=by rfl)
    (hline:(apos.endLine == cpos.line)=true:=by rfl) (hst:starEach [e] X.env=(false,eval e X.env) :: starEach [] X.env:=by rfl) (hpl:(backTo cpos (starEach ([]:List Expr) X.env)).any (·.1)=false:=by rfl) :
    JP X G (.Call (.Attribute o "partition" apos) [e] [] cpos) (dPart da db) :=
  imp (pe_bm PySem.F.plainAttrs_str PySem.F.slot_str_partition PySem.F.type_str_partition mt_part ho (pa_cons he pa_nil hst) hbase hfew hline hst hpl) fun σ H Q ⟨c,ow,ps,ws,R,e,q⟩=>by
    obtain ⟨w1,e1,e⟩:=bind_ok e
    obtain ⟨w2,e2,e⟩:=bind_ok e
    split at e
    · rename_i x y _
      split at e
      · rename_i hg
        cases e
        obtain ⟨g1,g2,g3⟩:=goodSep_ok hg.1
        refine ⟨c,ow,ps,_,R,e1,fun v H1 s1 r1=> ?_⟩
        obtain rfl:v=V.str x:=r1
        refine ⟨rfl,c,ow,ps,_,R.grow s1,e2,fun u H2 s2 r2=> ?_⟩
        obtain rfl:u=V.str y:=r2
        refine ⟨x,y,rfl,rfl,g3,(by have:=hg.2; have h9:(1000010:Nat)<=sizeLine:=(by decide); simp [Str.length] at this ⊢; omega),fun p hp=> ?_⟩
        rw [part_eq g1]
        exact q _ _ ((s1.trans s2).trans (same_upd hp _)) ⟨p,_,rfl,upd_same,_,_,rfl,rfl,_,_,rfl,rfl,_,_,rfl,rfl,rfl⟩
      · cases e
    · cases e
end
section
variable {P:Program} {w:World} {K:Fg} {mg:Str->Option Value} {base:Bs} {G:Pg} {n:Nat} {m:Str} {ms:List Bool}
theorem mo_nil {g:Nat->List PV->Rx PV}:MtO P w K mg base G n m ms [] g:=⟨fun c f h=>by simp at h⟩
theorem mo_cons {g:Nat->List PV->Rx PV} {c fi:Nat} {l:List (Nat × Nat)} (h:MethAt P w K mg base CX0 n (G.cA c) m (spO K G ms (g fi))) (hm:m ∉ G.fN c) (r:MtO P w K mg base G n m ms l g):MtO P w K mg base G n m ms ((c,fi) :: l) g :=
 ⟨fun c' f' e=>by
  rcases look_cons e with ⟨rfl,rfl⟩ | e
  ·exact ⟨h,hm⟩
  ·exact r.all c' f' e⟩
end
@[simp] theorem pv_lst (xs:List PV):(Ow.lst xs).pv= .lst xs:=rfl
@[simp] theorem pv_objO (k:Nat) (xs:List PV):(Ow.obj k xs).pv= .obj k xs:=rfl
@[simp] theorem pv_dic (ks:List Key) (xs:List PV):(Ow.dic ks xs).pv= .dic ks xs:=rfl
def spC (K:Fg) (G:Pg) (np:Nat) (g:List PV->Rx PV):SpN:=fun vs cv H Q _=> ∃ A ws cw w,Used H A/\RepM K G H A (List.replicate np false) ws vs/\Reps K G H A cw cv/\g (ws ++ cw)= .ok w/\ ∀ v H',Same H H'->Rep K G H' A w v->Q v H'
section
variable {P:Program} {w:World} {K:Fg} {mg:Str->Option Value} {base:Bs} {G:Pg} {H:Hp} {A:Av}
theorem RepM.more {cw:List PV} {cv:List V}: ∀ {n:Nat} {ws:List PV} {vs:List V},RepM K G H A (List.replicate n false) ws vs->Reps K G H A cw cv->RepM K G H A (List.replicate (n + cw.length) false) (ws ++ cw) (vs ++ cv)
 | 0,ws,vs,h,r=>by
  obtain ⟨rfl,rfl⟩:=h
  rw [Nat.zero_add]
  exact go r
 | n + 1,ws,vs,h,r=>by
  obtain ⟨w,wr,v,vr,rfl,rfl,r1,rr⟩:=h
  rw [Nat.add_right_comm]
  exact ⟨w,wr ++ cw,v,vr ++ cv,rfl,rfl,r1,RepM.more rr r⟩
where go: ∀ {cw:List PV} {cv:List V},Reps K G H A cw cv->RepM K G H A (List.replicate cw.length false) cw cv
 | [],cv,h=>⟨rfl,h⟩
 | w :: cw,cv,h=>by
  obtain ⟨v,r,rfl,r1,r2⟩:=h
  exact ⟨w,cw,v,r,rfl,rfl,by rw [if_neg Bool.false_ne_true]; exact r1,go r2⟩
structure ClAll (P:Program) (w:World) (K:Fg) (mg:Str->Option Value) (base:Bs) (G:Pg) (k:Nat) (tab:List (Nat × Nat)) (g:Nat->List PV->Rx PV):Prop where
 all: ∀ f np,tab.lookup f=some np->ClOk P w K mg base CX0 k (G.nF f) (spC K G np (g f))
end
section
variable {X:Cx} {G:Pg} {e a b o:Expr} {es:List Expr} {da db:DP} {d:DA} {ds:DS} {pos p apos:Pos} {x m:Str} {k i:Nat} {ms:List Bool} {tab:List (Nat × Nat)} {g:Nat->List PV->Rx PV}
def appC (tab:List (Nat × Nat)) (g:Nat->List PV->Rx PV) (x:PV) (m:Rx (List PV)):Rx PV:=match x with
 | .clo f cw=>(match tab.lookup f with | some np=>m.bind fun ws=>if ws.length=np then g f (ws ++ cw) else .bad | none=> .bad)
 | _=> .bad
def dCallV (tab:List (Nat × Nat)) (g:Nat->List PV->Rx PV) (a:DP) (d:DA):DP:=fun ps=>(a ps).bind fun y=>appC tab g y (d ps)
def dCallA (tab:List (Nat × Nat)) (g:Nat->List PV->Rx PV) (l:List (Nat × Nat)) (a:DP) (d:DA):DP:=fun ps=>(a ps).bind fun x=>(fldP l x).bind fun y=>appC tab g y (d ps)
def capV (js:List Nat) (ps:PSt):Rx (List PV):=match js with
 | []=> .ok []
 | j :: js=>match ps[j]? with
  | some (.v w)=>(capV js ps).bind fun ws=> .ok (w :: ws)
  | _=> .bad
def dLam (f:Nat) (js:List Nat):DP:=fun ps=>(capV js ps).bind fun ws=> .ok (.clo f ws)
def sDef (i f:Nat) (js:List Nat):DS:=fun ps=>(capV js ps).st fun ws=> .nx (ps.set i (.v (.clo f ws)))
def sSeal (d:DS):DS:=fun ps=>match d ps with | .ret w=> .ret w | .exc c=> .exc c | _=> .bad
end
structure FunT (K:Fg) (fd:FuncData) (c P:Addr) (ts:List Addr):Prop where
 code:fd.code= .ref c
 hd:PySem.W.codeHdIn K c P=true
 tab:P ∈ ts
section
variable {P:Program} {w:World} {K:Fg} {mg:Str->Option Value} {base:Bs} {G:Pg}
end
section
variable (ps:PSt) (a:DP) (d:DA) (tab l:List (Nat × Nat)) (g:Nat->List PV->Rx PV)
@[simp] theorem e_callV:dCallV tab g a d ps=(a ps).bind fun y=>appC tab g y (d ps):=rfl
@[simp] theorem e_callA:dCallA tab g l a d ps=(a ps).bind fun x=>(fldP l x).bind fun y=>appC tab g y (d ps):=rfl
@[simp] theorem e_lam (f:Nat) (js:List Nat):dLam f js ps=(capV js ps).bind fun ws=> .ok (.clo f ws):=rfl
@[simp] theorem e_def (i f:Nat) (js:List Nat):sDef i f js ps=(capV js ps).st fun ws=> .nx (ps.set i (.v (.clo f ws))):=rfl
@[simp] theorem e_seal (s:DS):sSeal s ps=match s ps with | .ret w=> .ret w | .exc c=> .exc c | _=> .bad:=rfl
@[simp] theorem e_capnil:capV [] ps= .ok []:=rfl
@[simp] theorem e_capcons (j:Nat) (js:List Nat):capV (j :: js) ps=match ps[j]? with | some (.v w)=>(capV js ps).bind fun ws=> .ok (w :: ws) | _=> .bad:=rfl
end
instance:Inhabited Nst:=⟨⟨{ posonlyargs:=[],args:=[],vararg:=none,kwonlyargs:=[],kw_defaults:=[],kwarg:=none,defaults:=[] },.stmts [],{ kind:= .function,names:=[],isGenerator:=false,isCoroutine:=false },[]⟩⟩
end DN
end
section
namespace L2
open PySem PySem.Spec PyProof.Rows
end L2
namespace DN
open PySem PySem.Spec PyProof.Rows L2
section
variable {X:Cx} {G:Pg} {e a b o tg:Expr} {es:List Expr} {body:List Stmt} {da db:DP} {d:DA} {ds:DS} {pos p apos cpos:Pos} {x m:Str} {k i:Nat} {ms:List Bool}
end
section
variable (ps:PSt) (a:DP) (d:DA) (dma:DMA) (dm:DM) (t u:DTM) (dt:DT) (s r:DS)
@[simp] theorem e_mNew (c n:Nat):mNew c n dma ps=(dma ps).bind fun r=>if r.1.length=n then .ok (.obj c r.1,r.2) else .bad:=rfl
@[simp] theorem e_mTr:mTr dm ps=(dm ps).bind fun r=>match r.1 with | .bl b=> .ok (b,r.2) | _=> .bad:=rfl
@[simp] theorem e_mOfT:mOfT dt ps=(dt ps).bind fun b=> .ok (b,ps):=rfl
@[simp] theorem e_mNot:mNot t ps=(t ps).bind fun r=> .ok (!r.1,r.2):=rfl
@[simp] theorem e_mOr:mOr t u ps=(t ps).bind fun r=>if r.1=true then .ok (true,r.2) else u r.2:=rfl
@[simp] theorem e_mAnd:mAnd t u ps=(t ps).bind fun r=>if r.1=true then u r.2 else .ok (false,r.2):=rfl
@[simp] theorem e_ifM:sIfM t s r ps=(t ps).st fun x=>if x.1=true then s x.2 else r x.2:=rfl
@[simp] theorem e_whileM:sWhileM t s ps=(iterM t s 100000 ps).getD .bad:=rfl
end
end DN
end
section
namespace L2
open PySem PySem.Spec PyProof.Rows PySem.Builtin PySem.Builtin.Str
theorem sl_str {X:Cx}:SlR X (fun x lo hi H Q=> ∃ z,x= .str z/\(PySem.StrLaws.sliceText z lo hi).length<=sizeLine/\Q (.str (PySem.StrLaws.sliceText z lo hi)) H):=by
 intro pins s σ H x v vl vu lo hi sl Q I rx hs pl pu h
 obtain ⟨z,rfl,hz,q⟩:=h
 obtain ⟨t,rfl⟩:=rx
 refine ⟨"str",_,F.slot_str_getitem.lookup,typeIs_str _ _ _,?_⟩
 have key: ∀ l u:Option (Int × Tok),vl=partValue l->vu=partValue u->lo=l.map (·.1)->hi=u.map (·.1)->wpAny (model X.prog X.w) X.A (getItem (.str z t) (.ref sl)) (EP X pins σ Q) X.xe s:=fun l u e1 e2 e3 e4=>by
  subst e1 e2 e3 e4
  obtain ⟨o,a1,a2,a3⟩:=hs
  refine wpAny_getItem_str_slice (l:=l) (u:=u) (st:=none) ⟨o,a1,a2,a3⟩ rfl ?_
  unfold sliceMade
  unfold PySem.StrLaws.sliceText at q hz
  have ep:slicePicked z l u none=strSliceIndices (l.map (·.1)) (u.map (·.1)) 1 z.length:=rfl
  rw [ep]
  have e1:(((none:Option (Int × Tok)).map (·.1)).getD 1 == 1)=true:=rfl
  rw [e1]
  split
  ·rename_i hc
   rw [if_pos (by simpa using hc)] at q
   exact ⟨.str z,H,I,⟨t,rfl⟩,q⟩
  ·rename_i hc
   rw [if_neg (by simpa using hc)] at q hz
   exact ⟨hz,⟨.str _,H,I.tok _,⟨_,rfl⟩,q⟩⟩
 cases pl with
 | none =>
  cases pu with
  | none=>exact key none none rfl rfl rfl rfl
  | int j t2=>exact key none (some (j,t2)) rfl rfl rfl rfl
 | int i t1 =>
  cases pu with
  | none=>exact key (some (i,t1)) none rfl rfl rfl rfl
  | int j t2=>exact key (some (i,t1)) (some (j,t2)) rfl rfl rfl rfl
end L2
namespace DN
open PySem PySem.Spec PyProof.Rows L2
section
variable {X:Cx} {G:Pg} {e:Expr} {da:DP} {pos:Pos}
def dCutS (d:DP) (dl dh:PSt->Rx (Option Int)):DP:=fun ps=>(d ps).bind fun x=>(dl ps).bind fun lo=>(dh ps).bind fun hi=>match x with
 | .str z=>if (PySem.StrLaws.sliceText z lo hi).length<=sizeLine then .ok (.str (PySem.StrLaws.sliceText z lo hi)) else .bad
 | _=> .bad
theorem p_cutS {lo hi:Option Expr} {dl dh:PSt->Rx (Option Int)} {p2:Pos} (he:JP X G e da) (hl:JO X G lo dl) (hh:JO X G hi dh):JP X G (.Subscript e (.Slice lo hi none p2) pos) (dCutS da dl dh):=imp (pe_slice sl_str he hl hh) fun σ H Q ⟨c,ow,ps,ws,R,e,q⟩=>by
 obtain ⟨x,e1,e⟩:=bind_ok e
 obtain ⟨l,e2,e⟩:=bind_ok e
 obtain ⟨h,e3,e⟩:=bind_ok e
 refine ⟨c,ow,ps,x,R,e1,fun v H1 s1 r1=>⟨c,ow,ps,l,R.grow s1,e2,fun H2 s2=>⟨c,ow,ps,h,(R.grow s1).grow s2,e3,fun H3 s3=> ?_⟩⟩⟩
 split at e
 ·rename_i z _ _
  split at e
  ·rename_i hz
   cases e
   obtain rfl:v=V.str z:=r1
   exact ⟨z,rfl,hz,q _ _ ((s1.trans s2).trans s3) rfl⟩
  ·cases e
 ·cases e
@[simp] theorem e_cutS (ps:PSt) (dl dh:PSt->Rx (Option Int)):dCutS da dl dh ps=(da ps).bind fun x=>(dl ps).bind fun lo=>(dh ps).bind fun hi=>match x with
 | .str z=>if (PySem.StrLaws.sliceText z lo hi).length<=sizeLine then .ok (.str (PySem.StrLaws.sliceText z lo hi)) else .bad
 | _=> .bad:=rfl
end
end DN
end
section
namespace L2
open PySem PySem.Spec PyProof.Rows PySem.Builtin PySem.Builtin.Str
section
variable {X:Cx}
end
end L2
namespace DN
open PySem PySem.Spec PyProof.Rows L2
section
variable {X:Cx} {G:Pg} {o e a b c:Expr} {da db dc:DP} {pos apos cpos:Pos}
def dInv (d:DP):DP:=fun ps=>(d ps).bind fun x=>match x with | .int i=> .ok (.int (Builtin.bitNot i)) | _=> .bad
def dChain (f g:PV->PV->Rx PV) (a b c:DP):DP:=fun ps=>(a ps).bind fun x=>(b ps).bind fun y=>(f x y).bind fun z=>match z with | .bl true=>(c ps).bind fun w=>g y w | .bl false=> .ok (.bl false) | _=> .bad
end
section
variable (ps:PSt) (a b c:DP) (f g:PV->PV->Rx PV)
@[simp] theorem e_chain:dChain f g a b c ps=(a ps).bind fun x=>(b ps).bind fun y=>(f x y).bind fun z=>match z with | .bl true=>(c ps).bind fun w=>g y w | .bl false=> .ok (.bl false) | _=> .bad:=rfl
@[simp] theorem e_inv:dInv a ps=(a ps).bind fun x=>match x with | .int i=> .ok (.int (Builtin.bitNot i)) | _=> .bad:=rfl
end
end DN
end
section
namespace L2
open PySem PySem.Spec PyProof.Rows
section
variable {X:Cx}
end
end L2
namespace DN
open PySem PySem.Spec PyProof.Rows L2
section
variable {X:Cx} {G:Pg} {o e a b c:Expr} {da db dc:DP} {pos apos cpos:Pos}
def fIsB:PV->PV->Rx PV
 | .bl b,.bl c=> .ok (.bl (b == c))
 | _,_=> .bad
def fIsNB:PV->PV->Rx PV
 | .bl b,.bl c=> .ok (.bl (!(b == c)))
 | _,_=> .bad
def sFrzG (i:Nat) (d:DS):DS:=fun ps=>match ps[i]? with | some (.own y)=>d (ps.set i (.v y.pv)) | _=>d ps
end
section
variable (ps:PSt) (i:Nat) (d:DS)
@[simp] theorem e_sFrzG:sFrzG i d ps=match ps[i]? with | some (.own y)=>d (ps.set i (.v y.pv)) | _=>d ps:=rfl
@[simp] theorem e_isB (b c:Bool):fIsB (.bl b) (.bl c)= .ok (.bl (b == c)):=rfl
@[simp] theorem e_isNB (b c:Bool):fIsNB (.bl b) (.bl c)= .ok (.bl (!(b == c))):=rfl
end
section
variable {K:Fg} {G:Pg} {H H':Hp} {A A':Av} {c:Fr} {ow:Ows} {ps:PSt} {σ :L2.St}
def isAls:Sl->Bool
 | .als _ _=>true
 | _=>false
def killA:Sl->Sl
 | .als _ _=> .no
 | s=>s
end
section
variable {X:Cx} {G:Pg} {e ke value:Expr} {da db dk dv:DP} {d:DA} {ds:DS} {pos pos' p tpos:Pos} {x y:Str} {i j:Nat}
def sDputN (i:Nat) (dk:DP) (d:DA):DS:=fun ps=>(d ps).st fun ws=>(dk ps).st fun y=>match ps[i]?,keyP y with
 | some (.own (.dic [] [])),some k=>if ps.any isAls=false then .nx (ps.set i (.dol [k] [ws])) else .bad
 | some (.dol ks xss),some k=>if ps.any isAls=false/\ks.length=xss.length/\ks.length < 999/\inK ks k=false then .nx (ps.set i (.dol (ks ++ [k]) (xss ++ [ws]))) else .bad
 | _,_=> .bad
def kIx:List Key->Key->Nat->Option Nat
 | [],_,_=>none
 | k' :: ks,k,n=>if k'=k then some n else kIx ks k (n + 1)
def sAls (i j:Nat) (dk:DP):DS:=fun ps=>(dk ps).st fun y=>match ps[j]?,keyP y with
 | some (.dol ks xss),some k=>(match kIx ks k 0 with | some m=> .nx (ps.set i (.als j m)) | none=> .bad)
 | _,_=> .bad
def dAls (i:Nat):DP:=fun ps=>match ps[i]? with
 | some (.als d j)=>(match ps[d]? with
  | some (.dol _ xss)=>(match xss[j]? with | some xs=> .ok (.lst xs) | none=> .bad)
  | _=> .bad)
 | _=> .bad
theorem RepS.als {K:Fg} {c:Fr} {ow:Ows} {ps:PSt} {σ :L2.St} {H:Hp} {d:Nat} {ks:List Key} {xss:List (List PV)} {xs:List PV} (R:RepS K G c H ow ps σ) (h1:ps[i]? =some (.als d j)) (h2:ps[d]? =some (.dol ks xss)) (h3:xss[j]? =some xs) :
  ∃ q, σ[i]? =some (some (.ref q))/\ow (vx ps.length d j)=some q/\j < 1000/\RepO K G H (av c ow) (.lst xs) q:=by
 obtain ⟨o,eo,z,q,rfl,e1⟩:=R.get h1
 obtain ⟨o',eo',p0,qs,e3,rfl,hp,l1,l2,l3,hq⟩:=R.get h2
 have hj:j < qs.length:=by
  have:=(List.getElem?_eq_some_iff.mp h3).1
  omega
 obtain ⟨h5,h6⟩:=hq j _ xs (List.getElem?_eq_getElem hj) h3
 rw [e1] at h5
 cases h5
 exact ⟨_,eo,e1,by omega,h6⟩
def sSetA (i:Nat) (dk dv:DP):DS:=fun ps=>(dv ps).st fun w=>(dk ps).st fun y=>match ps[i]?,y with
 | some (.als d j),.int n=>(match ps[d]? with
  | some (.dol ks xss)=>(match xss[j]? with
   | some xs=>(match ixN xs.length n with | some m=> .nx (ps.set d (.dol ks (xss.set j (xs.set m w)))) | none=> .bad)
   | none=> .bad)
  | _=> .bad)
 | _,_=> .bad
def sFrzD (i:Nat) (d:DS):DS:=fun ps=>match ps[i]? with
 | some (.dol ks xss)=>d ((ps.map killA).set i (.v (.dic ks (xss.map PV.lst))))
 | _=>d ps
end
section
variable (ps:PSt) (i j:Nat) (dk dv:DP) (d:DA) (ds:DS)
@[simp] theorem e_itemsB:dItemsB i ps=match ps[i]? with | some (.bor (.lst xs))=> .ok xs | _=> .bad:=rfl
@[simp] theorem e_dputN:sDputN i dk d ps=(d ps).st fun ws=>(dk ps).st fun y=>match ps[i]?,keyP y with
 | some (.own (.dic [] [])),some k=>if ps.any isAls=false then .nx (ps.set i (.dol [k] [ws])) else .bad
 | some (.dol ks xss),some k=>if ps.any isAls=false/\ks.length=xss.length/\ks.length < 999/\inK ks k=false then .nx (ps.set i (.dol (ks ++ [k]) (xss ++ [ws]))) else .bad
 | _,_=> .bad:=rfl
@[simp] theorem e_sAls:sAls i j dk ps=(dk ps).st fun y=>match ps[j]?,keyP y with
 | some (.dol ks xss),some k=>(match kIx ks k 0 with | some m=> .nx (ps.set i (.als j m)) | none=> .bad)
 | _,_=> .bad:=rfl
@[simp] theorem e_dAls:dAls i ps=match ps[i]? with
 | some (.als d j)=>(match ps[d]? with
  | some (.dol _ xss)=>(match xss[j]? with | some xs=> .ok (.lst xs) | none=> .bad)
  | _=> .bad)
 | _=> .bad:=rfl
@[simp] theorem e_setA:sSetA i dk dv ps=(dv ps).st fun w=>(dk ps).st fun y=>match ps[i]?,y with
 | some (.als d j),.int n=>(match ps[d]? with
  | some (.dol ks xss)=>(match xss[j]? with
   | some xs=>(match ixN xs.length n with | some m=> .nx (ps.set d (.dol ks (xss.set j (xs.set m w)))) | none=> .bad)
   | none=> .bad)
  | _=> .bad)
 | _,_=> .bad:=rfl
@[simp] theorem e_frzD:sFrzD i ds ps=match ps[i]? with
 | some (.dol ks xss)=>ds ((ps.map killA).set i (.v (.dic ks (xss.map PV.lst))))
 | _=>ds ps:=rfl
end
def keyT:List PV->Option (List Key)
 | []=>some []
 | y :: ys=>match keyP y,keyT ys with | some k,some ks=>some (k :: ks) | _,_=>none
def getT {α :Type}:List (List Key)->List α ->List Key->Option α
 | k' :: ks,x :: xs,k=>if k'=k then some x else getT ks xs k
 | _,_,_=>none
def inT (ks:List (List Key)) (k:List Key):Bool:=ks.any fun k'=>decide (k'=k)
section
variable {K:Fg} {G:Pg} {H:Hp} {A:Av}
end
section
variable {X:Cx} {G:Pg} {o value:Expr} {es:List Expr} {da dv:DP} {dk:DA} {ds:DS} {pos pos' p tp tpos:Pos} {x:Str} {i:Nat} {ms:List Bool}
def sOwnDT (i:Nat):DS:=fun ps=>if i < ps.length then .nx (ps.set i (.own (.dit [] []))) else .bad
def sDputT (i:Nat) (dk:DA) (dv:DP):DS:=fun ps=>(dv ps).st fun w=>(dk ps).st fun ys=>match ps[i]?,keyT ys with
 | some (.own (.dit ks xs)),some k=>if ks.length < 10000/\inT ks k=false then .nx (ps.set i (.own (.dit (ks ++ [k]) (xs ++ [w])))) else .bad
 | _,_=> .bad
def dDGetT (da:DP) (dk:DA):DP:=fun ps=>(da ps).bind fun z=>(dk ps).bind fun ys=>match z,keyT ys with
 | .dit ks xs,some k=>(match getT ks xs k with | some w=> .ok w | none=> .bad)
 | _,_=> .bad
end
section
variable (ps:PSt) (i:Nat) (da dv:DP) (dk:DA)
@[simp] theorem e_ownDT:sOwnDT i ps=if i < ps.length then .nx (ps.set i (.own (.dit [] []))) else .bad:=rfl
@[simp] theorem e_dputT:sDputT i dk dv ps=(dv ps).st fun w=>(dk ps).st fun ys=>match ps[i]?,keyT ys with
 | some (.own (.dit ks xs)),some k=>if ks.length < 10000/\inT ks k=false then .nx (ps.set i (.own (.dit (ks ++ [k]) (xs ++ [w])))) else .bad
 | _,_=> .bad:=rfl
@[simp] theorem e_dgetT:dDGetT da dk ps=(da ps).bind fun z=>(dk ps).bind fun ys=>match z,keyT ys with
 | .dit ks xs,some k=>(match getT ks xs k with | some w=> .ok w | none=> .bad)
 | _,_=> .bad:=rfl
end
end DN
end
section
namespace L2
open PySem PySem.Spec PyProof.Rows PySem.W
def Prs (I:Shared->Prop) {α :Type}:Sem α ->Prop
 | .pure _=>True
 | .raise _=>True
 | .unsupported _=>True
 | .finish _=>True
 | .rule _ k=>Prs I (k ())
 | .at _ k=>Prs I (k ())
 | .load _ _ k=> ∀ o,Prs I (k o)
 | .update a _ f k=>(∀ s:Shared,I s->I { s with heap:=s.heap.update a f })/\Prs I (k ())
 | .alloc o k=>(∀ s:Shared,I s->I { s with heap:=s.heap.push o })/\ ∀ a,Prs I (k a)
 | .loadIfAlive _ k=> ∀ o,Prs I (k o)
 | .point _ k=>Prs I (k ())
 | .register _ _=>True
 | .fresh k=>(∀ (s:Shared) (t:Nat),I s->I { s with toks:=t })/\ ∀ t,Prs I (k t)
 | .ask k=> ∀ x,Prs I (k x)
 | .choose .. =>False
 | .os .. =>False
 | .call .. =>False
 | .handled _ k=> ∀ h,Prs I (k h)
 | .newGen .. =>False
 | .genState _ k=> ∀ x,Prs I (k x)
 | .resume .. =>False
 | .yield .. =>True
 | .stack k=> ∀ l,Prs I (k l)
 | .fork .. =>True
 | .thread k=> ∀ n,Prs I (k n)
 | .await .. =>True
section
variable {I:Shared->Prop} {α β :Type}
theorem wp_prs {M:Model} {Γ :PySem.Ctx} {Q: α ->Pos->Shared->Prop} {E:Value->Pos->Shared->Prop} (t:Sem α): ∀ (p:Pos) (s:Shared),Prs I t->Sem.wp M Γ t Q E p s->I s->Sem.wp M Γ t (fun a p' s'=>Q a p' s'/\I s') (fun e p' s'=>E e p' s'/\I s') p s:=by
 induction t with
 | pure a=>intro p s _ h i; rw [Sem.wp] at h ⊢; exact ⟨h,i⟩
 | raise a=>intro p s _ h i; rw [Sem.wp] at h ⊢; exact ⟨h,i⟩
 | unsupported a=>intro p s _ h i; rw [Sem.wp] at h; exact h.elim
 | finish a=>intro p s _ h i; rw [Sem.wp] at h; exact h.elim
 | rule a k ih=>intro p s c h i; rw [Sem.wp] at h ⊢; exact ih () p s c h i
 | «at» a k ih=>intro p s c h i; rw [Sem.wp] at h ⊢; exact ih () _ s c h i
 | load a b k ih=>intro p s c h i; rw [Sem.wp] at h ⊢; obtain ⟨o,e,h⟩:=h; exact ⟨o,e,ih o p s (c o) h i⟩
 | update a b f k ih=>intro p s c h i; rw [Sem.wp] at h ⊢; exact ⟨h.1,ih () p _ c.2 h.2 (c.1 s i)⟩
 | alloc o k ih=>intro p s c h i; rw [Sem.wp] at h ⊢; exact ih _ p _ (c.2 _) h (c.1 s i)
 | loadIfAlive a k ih=>intro p s c h i; rw [Sem.wp] at h ⊢; exact ih _ p _ (c _) h i
 | point a k ih=>intro p s c h i; rw [Sem.wp] at h ⊢; exact ih () p s c h i
 | register a k ih=>intro p s c h i; rw [Sem.wp] at h; exact h.elim
 | fresh k ih=>intro p s c h i; rw [Sem.wp] at h ⊢; exact ih _ p _ (c.2 _) h (c.1 s _ i)
 | ask k ih=>intro p s c h i; rw [Sem.wp] at h ⊢; exact ih _ p _ (c _) h i
 | choose a b k ih=>intro p s c; exact c.elim
 | os a b k ih=>intro p s c; exact c.elim
 | call a b d e k ih=>intro p s c; exact c.elim
 | handled o k ih=>intro p s c h i; rw [Sem.wp] at h ⊢; exact ih _ p _ (c _) h i
 | newGen a k ih=>intro p s c; exact c.elim
 | genState g k ih=>intro p s c h i; rw [Sem.wp] at h ⊢; obtain ⟨o,e,h⟩:=h; exact ⟨o,e,ih _ p s (c _) h i⟩
 | resume a b d k ih=>intro p s c; exact c.elim
 | yield a b d k ih=>intro p s c h i; rw [Sem.wp] at h; exact h.elim
 | stack k ih=>intro p s c h i; rw [Sem.wp] at h ⊢; exact ih _ p _ (c _) h i
 | fork a k ih=>intro p s c h i; rw [Sem.wp] at h; exact h.elim
 | thread k ih=>intro p s c h i; rw [Sem.wp] at h ⊢; exact ih _ p _ (c _) h i
 | await a b d e k ih=>intro p s c h i; rw [Sem.wp] at h; exact h.elim
theorem wpAny_prs {M:Model} {A:Around} {Q: α ->Shared->Prop} {E:Value->Shared->Prop} {t:Sem α} {s:Shared} (c:Prs I t) (i:I s) (h:wpAny M A t Q E s):wpAny M A t (fun a s'=>Q a s'/\I s') (fun e s'=>E e s'/\I s') s :=
 fun Γ p g=>wp_prs t p s c (h Γ p g) i
theorem prs_bind {f: α ->Sem β} (t:Sem α):Prs I t->(∀ a,Prs I (f a))->Prs I (t >>= f):=by
 show Prs I t->(∀ a,Prs I (f a))->Prs I (t.bind f)
 induction t with
 | pure a=>intro _ h; exact h a
 | raise a=>intro _ h; exact trivial
 | unsupported a=>intro _ h; exact trivial
 | finish a=>intro _ h; exact trivial
 | rule a k ih=>intro c h; exact ih () c h
 | «at» a k ih=>intro c h; exact ih () c h
 | load a b k ih=>intro c h o; exact ih o (c o) h
 | update a b f k ih=>intro c h; exact ⟨c.1,ih () c.2 h⟩
 | alloc o k ih=>intro c h; exact ⟨c.1,fun a=>ih a (c.2 a) h⟩
 | loadIfAlive a k ih=>intro c h o; exact ih o (c o) h
 | point a k ih=>intro c h; exact ih () c h
 | register a k ih=>intro c h; exact trivial
 | fresh k ih=>intro c h; exact ⟨c.1,fun a=>ih a (c.2 a) h⟩
 | ask k ih=>intro c h o; exact ih o (c o) h
 | choose a b k ih=>intro c h; exact c.elim
 | os a b k ih=>intro c h; exact c.elim
 | call a b d e k ih=>intro c h; exact c.elim
 | handled o k ih=>intro c h o; exact ih o (c o) h
 | newGen a k ih=>intro c h; exact c.elim
 | genState g k ih=>intro c h o; exact ih o (c o) h
 | resume a b d k ih=>intro c h; exact c.elim
 | yield a b d k ih=>intro c h; exact trivial
 | stack k ih=>intro c h o; exact ih o (c o) h
 | fork a k ih=>intro c h; exact trivial
 | thread k ih=>intro c h o; exact ih o (c o) h
 | await a b d e k ih=>intro c h; exact trivial
theorem prs_ite {c:Prop} [Decidable c] {t u:Sem α} (h1:Prs I t) (h2:Prs I u):Prs I (if c then t else u):=by split <;> assumption
end
inductive Chn (h:Heap):Addr->Prop
 | last {e:Addr} {o:Obj} {vs:Array Value}:h.get? e=some o->o.data= .fields vs->vs[2]? =some .none->Chn h e
 | more {e b:Addr} {o:Obj} {vs:Array Value}:h.get? e=some o->o.data= .fields vs->vs[2]? =some (.ref b)->Chn h b->Chn h e
abbrev Cn (e:Addr) (s:Shared):Prop:=Chn s.heap e
theorem Chn.keep {h h':Heap} {e:Addr} (x:Chn h e) (k: ∀ b o vs,h.get? b=some o->o.data= .fields vs-> ∃ o' vs',h'.get? b=some o'/\o'.data= .fields vs'/\vs'[2]? =vs[2]?):Chn h' e:=by
 induction x with
 | last a b c=>obtain ⟨o',vs',p,q,r⟩:=k _ _ _ a b; exact .last p q (r.trans c)
 | more a b c _ ih=>obtain ⟨o',vs',p,q,r⟩:=k _ _ _ a b; exact .more p q (r.trans c) ih
theorem Chn.upd {h:Heap} {e a:Addr} {f:Obj->Obj} (hf: ∀ o vs,o.data= .fields vs-> ∃ vs',(f o).data= .fields vs'/\vs'[2]? =vs[2]?) (x:Chn h e):Chn (h.update a f) e:=x.keep fun b o vs e1 e2=>by
 by_cases q:a=b
 ·subst q
  obtain ⟨vs',f1,f2⟩:=hf o vs e2
  exact ⟨f o,vs',Heap.get?_update_self f e1 (Obj.isFreed_of_fields f1),f1,f2⟩
 ·exact ⟨o,vs,(Heap.get?_update_other _ _ q).trans e1,e2,rfl⟩
theorem Chn.push {h:Heap} {e:Addr} {o:Obj} (x:Chn h e):Chn (h.push o) e:=x.keep fun b o vs e1 e2=>⟨o,vs,Heap.get?_push_of_some _ e1,e2,rfl⟩
section
variable {e:Addr}
theorem prs_updateField {a:Addr} {i:Nat} {v:Value} (hi:i ≠ 2):Prs (Cn e) (updateField a i v):=by
 unfold updateField
 refine prs_bind _ (fun o=>trivial) fun o=> ?_
 split
 ·split
  ·exact ⟨fun s h=>Chn.upd (h:=s.heap) (x:=h) (hf:=fun o vs hd=>⟨_,Obj.data_mapFields hd _,by rw [Array.getElem?_setIfInBounds_ne hi]⟩),trivial⟩
  ·exact trivial
 ·exact trivial
theorem prs_setField {v:Value} {i:Nat} {x:Value} (hi:i ≠ 2):Prs (Cn e) (setField v i x):=by
 unfold setField
 split
 ·exact prs_updateField hi
 ·exact trivial
theorem prs_fieldsOf {v:Value}:Prs (Cn e) (fieldsOf v):=by
 unfold fieldsOf
 split
 ·refine prs_bind _ (fun o=>trivial) fun o=> ?_
  split <;> exact trivial
 ·exact trivial
theorem prs_field {v:Value} {i:Nat}:Prs (Cn e) (field v i):=by
 unfold field
 refine prs_bind _ prs_fieldsOf fun vs=> ?_
 split <;> exact trivial
theorem prs_setFlight {v:Value} {f:Option Addr}:Prs (Cn e) (setFlight v f):=by
 unfold setFlight
 refine prs_bind _ prs_field fun tb=> ?_
 split
 ·exact prs_setField (by decide)
 ·exact trivial
theorem prs_stack {α :Type} {k:List (Code × Pos)->Sem α} (h: ∀ l,Prs (Cn e) (k l)):Prs (Cn e) (stack >>= k):=fun l=>h l
theorem prs_readyFrames: ∀ l:List Env,Prs (Cn e) (readyFrames l)
 | []=>trivial
 | env :: outer=>by
  unfold readyFrames
  split
  ·refine prs_bind _ (fun o=>trivial) fun o=> ?_
   split
   ·exact trivial
   ·refine prs_bind _ ?_ fun b=>prs_bind _ ?_ fun bk=>prs_bind _ ?_ fun _=>prs_readyFrames outer
    ·unfold behindIsImport
     refine prs_ite trivial (prs_ite trivial ?_)
     exact prs_bind _ prs_field fun _=>trivial
    ·unfold keptBack
     split
     ·refine prs_ite trivial ?_
      refine prs_bind _ ?_ fun _=>trivial
      unfold underTheClaimsCaller
      exact prs_stack fun _=>trivial
     ·exact trivial
    ·exact ⟨fun s h=>Chn.upd (h:=s.heap) (x:=h) (hf:=fun o vs hd=>⟨vs,hd,rfl⟩),trivial⟩
  ·exact trivial
theorem prs_frameOf {env:Env}:Prs (Cn e) (PySem.frameOf env):=by
 unfold PySem.frameOf
 refine prs_bind _ ?_ fun l=>prs_bind _ ?_ fun f=> ?_
 ·unfold frameEnvs
  exact prs_stack fun _=>trivial
 ·unfold frameObject
  split
  ·exact trivial
  ·exact prs_bind _ (prs_readyFrames _) fun _=>trivial
 ·split <;> exact trivial
theorem prs_place {f:Addr} {b:Bool}:Prs (Cn e) (entryPlaceOf f b):=by
 unfold entryPlaceOf
 refine prs_stack fun l=> ?_
 split <;> exact trivial
theorem prs_newEntry {a b d f g:Value} {pl:List Value}:Prs (Cn e) (EntryCells.newEntry a b d f g pl):=by
 unfold EntryCells.newEntry newFields newObj newObjAsIs
 dsimp only
 exact prs_ite trivial ⟨fun s h=>Chn.push (h:=s.heap) h,fun a=>trivial⟩
theorem prs_noteFrame {v:Value} {env:Env}:Prs (Cn e) (noteFrame v env):=by
 unfold noteFrame
 split
 ·refine prs_bind _ prs_field fun head=> ?_
  have tl: ∀ (pos:Unit) {f:Addr},Prs (Cn e) (do setField v 1 (<- EntryCells.newEntry head (<- PySem.frameOf env) .none (rawInt f) .none (<- entryPlaceOf f (head != .none)))):=fun _ f =>
   prs_bind _ prs_frameOf fun _=>prs_bind _ prs_place fun _=>prs_bind _ prs_newEntry fun _=>prs_setField (by decide)
  split
  ·refine prs_bind _ prs_field fun x=> ?_
   split
   ·exact trivial
   ·exact prs_bind _ (prs_setField (by decide)) fun _=>tl ()
  ·exact tl ()
 ·exact trivial
theorem prs_leaving {v:Value} {env:Env}:Prs (Cn e) (leaving env v):=by
 unfold leaving
 exact prs_bind _ prs_noteFrame fun _=>prs_setFlight
end
section
variable {M:Model} {A:Around} {E:Value->Shared->Prop} {s:Shared} {base:Heap} {env:Env} {outer l:List Env} {L e:Addr} {cls a0:Value} {Q:Unit->Shared->Prop}
theorem with_chn {t:Sem Unit} {Q:Unit->Shared->Prop} (c:Prs (Cn e) t) (i:Chn s.heap e) (h:wpAny M A t (fun a s'=>Chn s'.heap e->Q a s') E s):wpAny M A t Q E s :=
 wpAny_mono (wpAny_prs c i h) (fun _ _ q=>q.1 q.2) fun _ _ q=>q.1
theorem chn_firstW {oe:Obj} {vs:Array Value} (hfr:A.frames=some (env :: outer)) (hl:s.heap.FunFrames base (env :: outer)) (hf:env.frame=some L) (he:s.heap.get? e=some oe) (hkb:base.StaysIn s.heap) (hen:base.get? e=none) (hd:oe.data= .fields vs) (h1:vs[1]? =some .none) (h0:vs[0]? =some a0) (hc:Chn s.heap e)
  (h: ∀ h',Heap.FlyingW base outer e oe.cls a0 h'->s.heap.UpToSlots h'->Chn h' e->Q () { s with heap:=h' }):wpAny M A (leaving env (.ref e)) Q E s :=
 with_chn prs_leaving hc (wpAny_leaving_firstW hfr hl hf he hkb hen hd h1 h0 fun h' ⟨k1,⟨_,_,k2⟩,k3,k4⟩ c=>h h' ⟨k1,hen,k2,k3⟩ k4 c)
theorem chn_onW (hfr:A.frames=some (env :: outer)) (hf:env.frame=some L) (hfl:Heap.FlyingW base (env :: outer) e cls a0 s.heap) (hc:Chn s.heap e)
  (hQ: ∀ h',Heap.FlyingW base outer e cls a0 h'->s.heap.UpToSlots h'->Chn h' e->Q () { s with heap:=h' }):wpAny M A (leaving env (.ref e)) Q E s :=
 with_chn prs_leaving hc (wpAny_leaves_onW hfr hf hfl fun h' f1 f2 c=>hQ h' f1 f2 c)
theorem chn_looks (hfr:A.frames=some (env :: outer)) (hf:env.frame=some L) (hfl:Heap.FlyingW base (env :: outer) e cls a0 s.heap) (hc:Chn s.heap e)
  (hQ: ∀ h',Heap.HeldW base (env :: outer) e cls a0 L h'->s.heap.UpToSlots h'->Chn h' e->Q () { s with heap:=h' }):wpAny M A (noteFrame (.ref e) env) Q E s :=
 with_chn prs_noteFrame hc (wpAny_looks_onW hfr hf hfl fun h' f1 f2 c=>hQ h' f1 f2 c)
theorem chn_lands (hh:Heap.HeldW base l e cls a0 L s.heap) (hc:Chn s.heap e) (hQ: ∀ h',Heap.FlyingW base l e cls a0 h'->s.heap.UpToSlots h'->Chn h' e->Q () { s with heap:=h' }):wpAny M A (setFlight (.ref e) none) Q E s :=
 with_chn prs_setFlight hc (wpAny_landsW hh fun h' f1 f2 c=>hQ h' f1 f2 c)
theorem chn_again (hh:Heap.FlyingW base l e cls a0 s.heap) (hc:Chn s.heap e) (hQ: ∀ h',Heap.FlyingW base l e cls a0 h'->s.heap.UpToSlots h'->Chn h' e->Q () { s with heap:=h' }):wpAny M A (setFlight (.ref e) none) Q E s :=
 with_chn prs_setFlight hc (lands_againW hh fun h' f1 f2 c=>hQ h' f1 f2 c)
end
structure MadeX (h h':Heap) (e:Addr) (cls:Value):Prop where
 keeps: ∀ b o,h.get? b=some o->h'.get? b=some o
 new:h.get? e=none
 there: ∃ oe vs t,h'.get? e=some oe/\oe.cls=cls/\oe.data= .fields vs/\vs[0]? =some t/\vs[1]? =some .none
 chn:Chn h' e
theorem MadeX.of {h h':Heap} {e:Addr} {cls:Value} {args:List Value} (mk:Heap.MadeExcOf h h' e cls args):MadeX h h' e cls:=by
 obtain ⟨t,he,_,_⟩:=mk.there
 exact ⟨mk.keeps,mk.new,⟨_,_,_,he,rfl,rfl,rfl,rfl⟩,.last he rfl rfl⟩
theorem entry_unchain:entryFor table "proto.unchain"=some Builtin.«proto.unchain» :=entryFor_of_tree (by kernel_rfl)
inductive Rch (h:Heap):Addr->Addr->Prop
 | here {a:Addr}:Rch h a a
 | on {a b c:Addr} {o:Obj} {vs:Array Value}:h.get? a=some o->o.data= .fields vs->vs[2]? =some (.ref b)->Rch h b c->Rch h a c
theorem Rch.end {h:Heap} {a b c:Addr} {o:Obj} {vs:Array Value} (x:Rch h a b) (e:h.get? b=some o) (d:o.data= .fields vs) (z:vs[2]? =some (.ref c)):Rch h a c:=by
 induction x with
 | here=>exact .on e d z .here
 | on e1 d1 z1 _ ih=>exact .on e1 d1 z1 (ih e)
theorem Chn.there {h:Heap} {e:Addr} (x:Chn h e): ∃ o,h.get? e=some o:=by cases x with | last a _ _=>exact ⟨_,a⟩ | more a _ _ _=>exact ⟨_,a⟩
section
variable {prog:Program} {w:World}
theorem unchain_run {h0:Heap} {e:Addr} (hn:h0.get? e=none) {o:Addr} (x:Chn h0 o): ∀ {A:Around} {R:Result->Shared->Prop} {s:Shared} (slow:Addr) (toggle:Bool),(∀ b ob,h0.get? b=some ob->s.heap.get? b=some ob)->Rch h0 slow o->R (.ok (.ret .none)) s ->
  codeAny (model prog w) A (.builtin "proto.unchain" ⟨[.ref e,.ref o,.ref slow,.bool toggle],[]⟩) R s:=by
 induction x with
 | @last o ob vs e1 d1 z1 =>
  intro A R s slow toggle hk hr h
  refine codeAny_builtin entry_unchain ?_
  unfold Builtin.«proto.unchain»
  refine wpAny_bind (wpAny_field (hk _ _ e1) d1 z1 ?_)
  repeat wp_step
  exact h
 | @more o b ob vs e1 d1 z1 x ih =>
  intro A R s slow toggle hk hr h
  refine codeAny_builtin entry_unchain ?_
  unfold Builtin.«proto.unchain»
  refine wpAny_bind (wpAny_field (hk _ _ e1) d1 z1 ?_)
  have hb:b ≠ e:=fun z=>by
   obtain ⟨o',q⟩:=x.there
   rw [z,hn] at q; cases q
  have n1:(Value.ref b == Value.none)=false:=rfl
  have n2:(Value.ref b == Value.ref e)=false:=by simpa using hb
  rw [n1,n2]
  simp only [Bool.false_eq_true,if_false]
  by_cases q:(Value.ref b == Value.ref slow)=true
  ·rw [if_pos q]
   repeat wp_step
   exact h
  ·rw [if_neg q]
   have go: ∀ sl:Addr,Rch h0 sl b->wpAny (model prog w) (A.under (.builtin "proto.unchain" ⟨[.ref e,.ref o,.ref slow,.bool toggle],[]⟩)) (again (.builtin "proto.unchain" ⟨[.ref e,.ref b,.ref sl,.bool !toggle],[]⟩)) (fun fin s'=>match fin with | .done f=>R (.ok f) s' | .again c'=>c'.quiet=true/\codeAny (model prog w) A c' R s') (fun e s'=>R (.error e) s') s:=fun sl r =>
    wpAny_pure ⟨Code.quiet_builtin _ (by decide +kernel),ih sl _ hk r h⟩
   cases toggle with
   | false=>exact wpAny_bind (wpAny_pure (go slow (hr.end e1 d1 z1)))
   | true =>
    cases hr with
    | here=>exact wpAny_bind (wpAny_field (hk _ _ e1) d1 z1 (go b .here))
    | on e2 d2 z2 r2=>exact wpAny_bind (wpAny_field (hk _ _ e2) d2 z2 (go _ (r2.end e1 d1 z1)))
theorem raiseNew_in {α :Type} {A:Around} {E:Value->Shared->Prop} {s:Shared} {Q: α ->Shared->Prop} {h0:Heap} {e hd:Addr} {oe:Obj} {vs:Array Value} (hh:A.handled=some (.ref hd)) (hn:h0.get? e=none) (hk: ∀ b ob,h0.get? b=some ob->s.heap.get? b=some ob) (x:Chn h0 hd)
  (he:s.heap.get? e=some oe) (hdt:oe.data= .fields vs) (hsz:2 < vs.size) (h:E (.ref e) { s with heap:=s.heap.update e (Obj.mapFields (·.setIfInBounds 2 (.ref hd))) }):wpAny (model prog w) A (raiseNew (.ref e):Sem α) Q E s:=by
 have ne:(Value.ref hd != Value.ref e)=true:=by
  obtain ⟨o',q⟩:=x.there
  have:hd ≠ e:=fun z=>by rw [z,hn] at q; cases q
  simpa using this
 unfold raiseNew
 refine wpAny_bind (wpAny_handled ?_)
 rw [hh]
 dsimp only
 rw [if_pos ne]
 refine wpAny_bind (wpAny_holding (wpAny_runValue (unchain_run hn x hd false hk .here ?_)))
 refine wpAny_bind ?_
 show wpAny _ _ (setField (.ref e) 2 (.ref hd)) _ _ _
 exact wpAny_setField he hdt hsz (wpAny_throw h)
end
section
variable {prog:Program} {w:World} {A:Around} {E:Value->Shared->Prop} {s:Shared} {env:Env}
variable {nm q:Str} {C N hd:Addr} {bs bm bmB:List Value} {hdct:Bool} {sn:List Str} {sub:List Value} {ab:Bool} {col:Option Bool} {dd:Option Addr} {k0 k1 k2 k3 k5:Option Value} {B newId initId:String}
theorem raise_from (F:ExcBaseFacts B newId initId bmB) {mN:Str->Option Value} {x:Str} {np cpos pos kp:Pos} {j} {args:List Expr} {Q:Flow->Shared->Prop} (hbase:bm.contains (.type "BaseException")=true) (hh:A.handled=some (.ref hd)) (hplain:(backTo cpos (starEach args env)).any (·.1)=false) (hni:mN "__init__"=none)
  (h:wpAny (model prog w) A (eval (.Name x np) env) (fun f s1=>f= .ref C/\wpAny (model prog w) A (evalArgs (.ref C) true (backTo cpos (starEach args env)) []) (fun a s2=>a.kw=[]/\a.pos.length<=sizeLine/\s2.heap.get? C=some (excClassObj nm q C N bs bm hdct sn sub ab col dd k0 k1 k2 k3 k5 newId)/\s2.heap.Ns N mN/\OwnTail s2.heap bmB bm/\Chn s2.heap hd /\
   ∀ h' e,MadeX s2.heap h' e (.ref C)->E (.ref e) { s2 with heap:=h' }) E s1) E s) :
  wpAny (model prog w) A (exec (.Raise (some (.Call (.Name x np) args [] cpos)) (some (.Constant .none j kp)) pos) env) Q E s:=by
 have key:wpAny (model prog w) A (eval (.Call (.Name x np) args [] cpos) env) (fun v s3=> ∃ e h0 ap,v= .ref e/\Heap.MadeExcOf h0 s3.heap e (.ref C) ap/\h0.get? C=some (excClassObj nm q C N bs bm hdct sn sub ab col dd k0 k1 k2 k3 k5 newId)/\Chn h0 hd/\ ∀ h',MadeX h0 h' e (.ref C)->E (.ref e) { s3 with heap:=h' }) E s:=by
  refine wpAny_Call_ofName (wpAny_mono h (fun f s1 h1=> ?_) fun _ _ x=>x)
  obtain ⟨rfl,h1⟩:=h1
  unfold callWith
  refine wpAny_bind (wpAny_holding (wpAny_mono h1 (fun a s2 h2=> ?_) fun _ _ x=>x))
  obtain ⟨apos,akw⟩:=a
  obtain ⟨hkw,hlen,hC,hn,T,hc,h2⟩:=h2
  obtain rfl:akw=[]:=hkw
  obtain ⟨hp,g,d,tk,os⟩:=s2
  refine wpAny_bind (wpAny_standAt ?_)
  simp only [hplain]
  refine wpAny_bind (wpAny_keeperOf_exc hC (wpAny_bind (wpAny_call_exc_subT (hrest:=hlen) F T hC hn hni fun h' e hm=> ?_)))
  exact wpAny_bind (wpAny_holding (wpAny_point (wpAny_pure ⟨e,hp,apos,rfl,hm,hC,hc,fun h'' mk=>h2 h'' e mk⟩)))
 have hcB:(Value.ref C :: bm).contains (.type "BaseException")=true:=by rw [List.contains_cons,hbase,Bool.or_true]
 rw [arm_exec_Raise]
 simp only [evalOpt,Option.map]
 refine wpAny_bind (wpAny_standAt ?_)
 unfold raiseStmt
 dsimp only
 refine wpAny_bind (wpAny_bind (wpAny_mono key (fun v s3 hv=> ?_) fun _ _ x=>x))
 obtain ⟨e,h0,ap,rfl,mk,hC0,hc,hE⟩:=hv
 obtain ⟨t,he,_,_⟩:=mk.there
 have hC:=mk.keeps _ _ hC0
 obtain ⟨hp,g,d,tk,os⟩:=s3
 refine wpAny_bind (wpAny_standAt (wpAny_pure ?_))
 repeat (first | with_reducible refine wpAny_loadPart_at he ?_ | with_reducible refine wpAny_loadPart_at hC ?_ | (with_reducible refine wpAny_isSubtype_exc hC ?_; rw [hcB]) | wp_step)
 have hCe:e ≠ C:=fun z=>by rw [<- z,mk.new] at hC0; cases hC0
 have hne: ∀ b ob,h0.get? b=some ob->e ≠ b:=fun b ob q z=>by rw [<- z,mk.new] at q; cases q
 have hk: ∀ (f g:Obj->Obj) b ob,h0.get? b=some ob->((hp.update e f).update e g).get? b=some ob:=fun f g b ob q=>by
  rw [Heap.get?_update_other _ _ (hne b ob q),Heap.get?_update_other _ _ (hne b ob q)]
  exact mk.keeps b ob q
 have he1:=Heap.get?_update_self (Obj.mapFields (·.setIfInBounds 3 Value.none)) he rfl
 have he2:=Heap.get?_update_self (Obj.mapFields (·.setIfInBounds 4 (Value.bool true))) he1 rfl
 refine wpAny_loadPart_at (hk _ _ _ _ hC0) ?_
 refine wpAny_pure ?_
 rw [if_pos (show (Value.type "type" == Value.type "type")=true from by decide)]
 refine wpAny_pure ?_
 refine wpAny_bind ?_
 unfold setFlight
 refine wpAny_bind (wpAny_field (x:= .none) he2 rfl rfl ?_)
 rw [if_neg (show ¬ (Value.none != Value.none)=true from by decide)]
 refine wpAny_pure ?_
 refine raiseNew_in hh mk.new (hk _ _) hc he2 rfl (show (2:Nat) < 6 from by decide) (hE _ ⟨fun b ob q=> ?_,mk.new,⟨_,_,_,Heap.get?_update_self _ he2 rfl,rfl,rfl,rfl,rfl⟩,?_⟩)
 ·rw [Heap.get?_update_other _ _ (hne b ob q)]
  exact hk _ _ b ob q
 ·refine .more (Heap.get?_update_self _ he2 rfl) rfl rfl (hc.keep fun b o vs q1 q2=>⟨o,vs,?_,q2,rfl⟩)
  rw [Heap.get?_update_other _ _ (hne b o q1)]
  exact hk _ _ b o q1
end
end L2
end
section
namespace L2
open PySem PySem.Spec PyProof.Rows
abbrev vE:List Value:=[.type "ValueError",.type "Exception",.type "BaseException",.type "object"]
def ExcF (K:Fg) (C:Addr):Prop:=PySem.W.excIn K C vE "ValueError.__new__"=true
structure ExcOb (h:Heap) (C:Addr):Prop where
 obj: ∃ bm N nm q bs hdct sn sub ab col dd k0 k1 k2 k3 k5 mN,h.get? C=some (excClassObj nm q C N bs bm hdct sn sub ab col dd k0 k1 k2 k3 k5 "ValueError.__new__")/\h.Ns N mN/\mN "__init__"=none/\OwnTail h vE bm
theorem ExcF.ob {K:Fg} {h:Heap} {C:Addr} (e:ExcF K C) (X:K.In h):ExcOb h C:=by
 refine ⟨?_⟩
 unfold ExcF PySem.W.excIn at e
 split at e
 ·rename_i dd cd sl ho
  split at e
  ·rename_i C' bm k0 k1 k2 k3 n k5 hm hs
   simp only [Bool.and_eq_true,beq_iff_eq,Bool.not_eq_true'] at e
   obtain ⟨⟨⟨⟨⟨rfl,rfl⟩,hdel⟩,ht⟩,hok⟩,hni⟩:=e
   obtain ⟨nm,bs,mro,ns,qn,hd,sn,sub,ab,col,del⟩:=cd
   dsimp only at hm hdel hok hni
   subst hm hdel
   have hsl:sl= #[k0,k1,k2,k3,some (.builtin "ValueError.__new__"),k5]:=by
    obtain ⟨l⟩:=sl
    simp only at hs
    rw [hs]
   subst hsl
   exact ⟨bm,ns,nm,qn,bs,hd,sn,sub,ab,col,dd,k0,k1,k2,k3,k5,_,X _ _ ho,.of_isNs (PySem.W.isNs_of_in X hok),PySem.W.nsMap_none_of_in X hok hni,PySem.W.tail_of_in X ht⟩
  ·cases e
 ·cases e
structure FlyX (outer:List Env) (H':Hp) (h0 h1 h':Heap) (e:Addr) (cls:Value):Prop where
 ex: ∃ B a0,Heap.FlyingW B outer e cls a0 h'/\ ∀ b o,h1.get? b=some o->b ∉ frs outer->(H' b ≠ none\/ ∃ o0,h0.get? b=some o0)->B.get? b=some o
 up:h1.UpToSlots h'
 cx:Chn h' e
def CX1 (P:Program) (w:World):CXT:=fun outer H s E e s'=> ∃ a cls H' h1,e= .ref a/\s'.os=s.os/\AllBare s'.gens/\Un (frs outer) [] H H' s.heap h1/\HOk P w H' h1/\(∀ b ∈ frs outer,H' b=none)/\FlyX outer H' s.heap h1 s'.heap a cls/\E cls none H'
theorem fly_move {P:Program} {w:World} {fs:List Addr} {H H':Hp} {h0 h1 h5 B:Heap} (hB:B.StaysIn h5) (up:h1.UpToSlots h5) (hk: ∀ b o,h1.get? b=some o->b ∉ fs->(H' b ≠ none\/ ∃ o0,h0.get? b=some o0)->B.get? b=some o)
  (hf: ∀ b ∈ fs,H' b=none) (nf: ∀ b ∈ fs, ∃ o,h0.get? b=some o/\H b=none/\ ∀ vs,o.data ≠ .fields vs) (u:Un fs [] H H' h0 h1) (ok:HOk P w H' h1):Un fs [] H H' h0 h5/\HOk P w H' h5:=by
 have sl: ∀ b ∈ fs, ∀ o,h0.get? b=some o-> ∃ sl,h5.get? b=some { o with slots:=sl }:=fun b hb o e=>by
  obtain ⟨o',e',n,d⟩:=nf b hb
  rw [e] at e'; cases e'
  obtain ⟨sl,q⟩:=u.slot b o e n hb (by simp)
  obtain ⟨sl',q'⟩:=up b _ q (fun vs z=>d vs z)
  exact ⟨sl',q'⟩
 refine ⟨⟨fun b o e n hb hx=> ?_,fun b o e n hb hx=>sl b hb o e,u.free,fun b o e hx=> ?_,u.tups,u.frzs,u.tbls⟩,fun a o e=> ?_⟩
 ·have q:=u.keep b o e n hb hx
  exact hB b o (hk b o q hb (.inr ⟨o,e⟩))
 ·by_cases hb:b ∈ fs
  ·obtain ⟨s',q⟩:=sl b hb o e
   exact ⟨_,q⟩
  ·obtain ⟨o',q⟩:=u.there b o e hx
   exact ⟨o',hB b o' (hk b o' q hb (.inr ⟨o,e⟩))⟩
 ·refine (ok a o e).stay (fun c v hc q=> ?_) (fun _ q=>q) (fun _ _ q=>q) fun _ _ _ q=>q
  have hn:H' c ≠ none:=by
   rcases hc with z | z
   ·rw [z,e]; simp
   ·rw [z]; simp
  exact hB c v (hk c v q (fun z=>hn (hf c z)) (.inl hn))
section
variable {P:Program} {w:World} {K:Fg} {mg:Str->Option Value} {base:Bs} {N:List Str} {qual:Str} {scope:Scope} {f:Addr} {cd:Value} {A:Around} {outer:List Env} {s0:Shared} {H0:Hp} {E E':XK}
theorem raise_leaves {pins:List (Addr × Obj)} {σ :St} {H:Hp} {s:Shared} {h':Heap} {a:Addr} {cls:Value} (I:Inv (cxOf (CX1 P w) P w K mg base N qual scope f cd A outer s0 H0 E) pins σ H s) (mk:MadeX s.heap h' a cls) (hE:E cls none H) :
  (cxOf (CX1 P w) P w K mg base N qual scope f cd A outer s0 H0 E).xe (.ref a) { s with heap:=h' }:=by
 have hin: ∀ env ∈ (cxOf (CX1 P w) P w K mg base N qual scope f cd A outer s0 H0 E).stack, ∀ b,env.frame=some b->b ∈ frs (cxOf (CX1 P w) P w K mg base N qual scope f cd A outer s0 H0 E).stack:=fun env he b hb=>List.mem_filterMap.mpr ⟨env,he,hb⟩
 have ff:=PySem.W.funFrames_hide I.stack hin
 have fresh: ∀ l b,s.heap.get? b=none->(PySem.W.hideAll s.heap l).get? b=none:=fun l b hb=>by
  cases q:(PySem.W.hideAll s.heap l).get? b with
  | none=>rfl
  | some o=>rw [PySem.W.of_hideAll _ q] at hb; cases hb
 obtain ⟨oe,vs,t,he,rfl,hd,h0,h1⟩:=mk.there
 refine chn_firstW (s:={ s with heap:=h' }) I.ok.frames (ff.of_keeps fun b o hb _=>⟨o,mk.keeps b o hb,rfl⟩) rfl he (fun b o q=>mk.keeps b o (PySem.W.of_hideAll _ q)) (fresh _ a mk.new) hd h1 h0 mk.chn fun h2 fly ups chn=> ?_
 refine ⟨a,oe.cls,H,s.heap,rfl,I.os,I.bare,I.base,I.hok,fun b hb=>I.stkFree b (List.mem_cons_of_mem _ hb),⟨⟨_,_,fly,fun b o e hb hh=> ?_⟩,?_,chn⟩,hE⟩
 ·refine PySem.W.hideAll_get _ e fun z=> ?_
  rcases List.mem_cons.mp (I.stkSub b z) with q | q
  ·rcases hh with hh | ⟨o0,e0⟩
   ·exact hh (by rw [q]; exact I.free)
   ·rw [q] at e0
    exact absurd (Nat.lt_of_lt_of_le (Heap.lt_size e0) I.ok.above) (Nat.lt_irrefl _)
  ·exact hb q
 ·exact (Heap.UpToSlots.of_keeps mk.keeps).trans ups
theorem passX (hE: ∀ c o H',E' c o H'->E c o H'):Passes (CX1 P w) (cxOf (CX1 P w) P w K mg base N qual scope f cd A outer s0 H0 E) E':=by
 intro pins σ H s e s' I h
 obtain ⟨a,cls,H',h1,rfl,os,bare,u,ok,hf,⟨⟨B,a0,fly,hk⟩,up,cx⟩,q⟩:=h
 have I1:=I.call' (s':={ s' with heap:=h1 }) (ch:=[]) os u ok bare (fun b z=>absurd z (by simp))
 refine chn_onW I.ok.frames rfl fly cx fun h2 fly2 up2 cx2=> ?_
 refine ⟨a,cls,H',h1,rfl,I1.os,bare,I1.base,ok,fun b hb=>hf b (List.mem_cons_of_mem _ hb),⟨⟨B,a0,fly2,fun b o e hb hh=>hk b o e (fun z=> ?_) ?_⟩,up.trans up2,cx2⟩,hE _ _ _ q⟩
 ·rcases List.mem_cons.mp (I.stkSub b z) with r | r
  ·rcases hh with hh | ⟨o0,e0⟩
   ·exact hh (hf b z)
   ·rw [r] at e0
    exact absurd (Nat.lt_of_lt_of_le (Heap.lt_size e0) I.ok.above) (Nat.lt_irrefl _)
  ·exact hb r
 ·rcases hh with hh | ⟨o0,e0⟩
  ·exact .inl hh
  ·obtain ⟨o1,e1⟩:=I.base.there b o0 e0 (fun z=>absurd (show b ∈ ([]:List Addr) from z) (by simp))
   exact .inr ⟨o1,e1⟩
end
theorem fnx_none {P:Program} {w:World} {K:Fg} {mg:Str->Option Value} {base:Bs} {k:Nat} {f:Addr} {fd:FuncData} {ps:List Str} {sp sp':Sp} (F:FnOk P w K mg base (CX1 P w) k f fd ps sp) (h: ∀ vs H Q E,sp' vs H Q E->sp vs H Q fun _ _ _=>False) :
  FnOk P w K mg base CX0 k f fd ps sp':=by
 refine ⟨fun vs H Q E q=>F.len _ _ _ _ (h _ _ _ _ q),fun A outer s H args us vs Q E hr e0 hb r q=>codeAny_mono (F.run A outer s H args us vs Q _ hr e0 hb r (h _ _ _ _ q)) fun r s' z=> ?_⟩
 cases r with
 | ok fl=>cases fl <;> exact z
 | error e =>
  obtain ⟨_,_,_,_,_,_,_,_,_,_,_,z⟩:=z
  exact z.elim
theorem Fun.okX {P:Program} {w:World} {K:Fg} {mg:Str->Option Value} {base:Bs} {x qual:Str} {st:Stmt} {f:Addr} {fd:FuncData} {N ps:List Str} {k:Nat} {sp:Sp} (F:Fun K x qual st f fd) (S:FnScope N ps (defScope st)) (len: ∀ vs H Q E,sp vs H Q E->vs.length=ps.length)
  (hbody: ∀ (cdv:Value) (A:Around) (outer:List Env) (s:Shared) (H:Hp) (vs:List V) (Q:VK) (E:XK),Room k (A.deeper (envOfC qual (defScope st) s.heap.objs.size f cdv))->sp vs H Q E ->
   ∃ t,PSs (cxOf (CX1 P w) P w K mg base N qual (defScope st) f cdv A outer s H E) (defBody st) t/\t { nx:=fun _ H'=>Q .non H',rt:=Q } (start N vs) H):FnOk P w K mg base (CX1 P w) (k + 1) f fd ps sp:=by
 obtain ⟨oc,od,kV,doc,pm,an,cdv,ct,osl,rfl,lk,hcd⟩:=F.ex
 exact fn_of lk hcd S len fun A outer s H vs Q E hr hsp=>hbody cdv A outer s H vs Q E hr hsp
section
variable {X:Cx}
def Lv (X:Cx) (E:XK):Prop:= ∀ (pins:List (Addr × Obj)) (σ :St) (H:Hp) (s:Shared) (h':Heap) (a:Addr) (cls:Value),Inv X pins σ H s->MadeX s.heap h' a cls->E cls none H->X.xe (.ref a) { s with heap:=h' }
theorem ps_raise {x:Str} {C:Addr} {y:Str} {j} {np cpos pos yp:Pos} {E:XK} (hl:Lv X E) (hc:X.calm=true) (hg:Gl X x) (hm:X.mg x=some (.ref C)) (hC:ExcF X.K C) (hd:(x == ("__debug__":Str))=false:=by decide)
  (hpl:(backTo cpos (starEach [.Constant (.str y) j yp] X.env)).any (·.1)=false:=by rfl):PS X (.Raise (some (.Call (.Name x np) [.Constant (.str y) j yp] [] cpos)) none pos) (fun _ _ H=>E (.ref C) none H):=by
 intro pins s σ H D I h
 obtain ⟨bm,N,nm,q,bs,hdct,sn,sub,ab,col,dd,k0,k1,k2,k3,k5,mN,hCo,hN,hni,TL⟩:=(hC.ob I.kIn).obj
 refine wpAny_Raise_call_subT (C:=C) (nm:=nm) (q:=q) (N:=N) (bs:=bs) (bm:=bm) (hdct:=hdct) (sn:=sn) (sub:=sub) (ab:=ab) (col:=col) (dd:=dd) (k0:=k0) (k1:=k1) (k2:=k2) (k3:=k3) (k5:=k5) PySem.F.excBase_ValueError (TL.hasType (by rfl)) (I.ok.hd hc) hpl hni ?_
 refine ld_glob I hg hm ⟨rfl,?_⟩ hd
 refine Calls.evalArgs_plain (Calls.spliced_cons (Calls.Constant_str (k:=j) (pos:=yp) (Calls.spliced_nil ?_)))
 exact ⟨rfl,(by decide:(1:Nat)<=sizeLine),hCo,hN,TL,fun h' e mk=>hl pins σ H { s with toks:=s.toks + 1 } h' e _ (I.tok _) (.of mk) h⟩
end
abbrev Cx.mk' (X:Cx) (e:Value):Cx:={ X with A:=X.A.mark (some e),calm:=false }
section
variable {X:Cx} {pins:List (Addr × Obj)} {σ :St} {H:Hp} {s:Shared} {e:Value}
theorem Inv.mark (I:Inv X pins σ H s) (e:Value):Inv (X.mk' e) pins σ H s :=
 ⟨⟨I.ok.mod,I.ok.kind,I.ok.glob,I.ok.blt,I.ok.above,I.ok.inj,I.ok.has,I.ok.cab,fun z=>(by cases z),I.ok.frames,I.ok.stk,I.ok.exf,I.ok.bs,I.ok.bsz,I.ok.noex,I.ok.exfs,I.ok.funs,I.ok.frf,I.ok.tab,I.ok.fc⟩,I.os,I.bare,I.base,I.loc,I.cell,I.free,I.freeC,I.pin,I.hok,I.len⟩
theorem Inv.unmark (ok:X.Ok) (I:Inv (X.mk' e) pins σ H s):Inv X pins σ H s:=⟨ok,I.os,I.bare,I.base,I.loc,I.cell,I.free,I.freeC,I.pin,I.hok,I.len⟩
theorem SP.unmark (ok:X.Ok) {D:Ends} {f:Flow} {s':Shared} (h:SP (X.mk' e) pins D f s'):SP X pins D f s':=by
 cases f with
 | next=>obtain ⟨σ',H',I,q⟩:=h; exact ⟨σ',H',I.unmark ok,q⟩
 | brk=>obtain ⟨σ',H',I,q⟩:=h; exact ⟨σ',H',I.unmark ok,q⟩
 | cont=>obtain ⟨σ',H',I,q⟩:=h; exact ⟨σ',H',I.unmark ok,q⟩
 | ret u=>obtain ⟨v,H',I,r,q⟩:=h; exact ⟨v,H',⟨I.os,I.bare,I.base,I.hok,I.loc,I.free⟩,r,q⟩
theorem call_at {CX:CXT} {k:Nat} {sp:Sp} {E:XK} {x:Str} {p pos:Pos} {e:Expr} {es:List Expr} {t:TA} {Q:VK} {XE:Value->Shared->Prop} (h:FnAt X.prog X.w X.K X.mg X.base CX k x sp) (hr:Room k X.A) (hg:Gl X x) (hxe:X.xe=fun _ _=>False) (ha:PA X (e :: es) t)
  (hx: ∀ H1 s1 e1 s',Inv X pins σ H1 s1->CX X.stack H1 s1 E e1 s'->XE e1 s') (I:Inv X pins σ H s) (hq:t σ H fun vs H1=>sp vs H1 Q E) (hdb:(x == ("__debug__":Str))=false)
  (he:starEach (e :: es) X.env=(false,eval e X.env) :: starEach es X.env) (hpl:(backTo pos (starEach es X.env)).any (·.1)=false) :
  wpAny (model X.prog X.w) X.A (eval (.Call (.Name x p) (e :: es) [] pos) X.env) (EP X pins σ Q) XE s:=by
 obtain ⟨f,fd,ps,hm,hk,F,hb⟩:=h.ex
 refine wpAny_Call_Name_kw (ld_glob I hg hm ?_ hdb)
 refine PySem.W.callWith_K (h₀:=X.base) I.ok.mod.kin hk (wpAny_mono (ha pos pins s σ H _ I hq) (fun us s1 ⟨vs,H1,I1,r,q⟩=>⟨I1.kIn,?_⟩) (fun e s1 z=>by rw [hxe] at z; exact z.elim)) he hpl
 have hl:us.length=ps.length:=by rw [<- r.length]; exact F.len _ _ _ _ q
 have hb':=hb s1 us I1.kIn (by rw [List.append_nil]; exact hl)
 rw [List.append_nil] at hb'
 refine wpAny_call (codeAny_mono (F.run X.A X.stack s1 H1 ⟨us,[]⟩ us vs Q E hr I1.env0 hb' r q) fun r s' z=> ?_)
 cases r with
 | error e=>exact hx H1 s1 e s' I1 z
 | ok fl =>
  cases fl with
  | ret u=>exact I1.after z
  | next=>exact False.elim z
  | brk=>exact False.elim z
  | cont=>exact False.elim z
end
end L2
end
section
namespace DN
open PySem PySem.Spec PyProof.Rows L2
def Rx.at {α :Type} (r:Rx α) (Q: α ->Prop) (E:Nat->Prop):Prop:=match r with | .ok a=>Q a | .exc k=>E k | .bad=>False
def eA (G:Pg) (k:Nat):Value:= .ref (G.cA (1000 + k))
def spX (K:Fg) (G:Pg) (ms:List Bool) (g:List PV->Rx PV):Sp:=fun vs H Q E=> ∃ A ws,Used H A/\RepM K G H A ms ws vs/\(g ws).at (fun w=> ∀ v H',Same H H'->Rep K G H' A w v->Q v H') (fun k=> ∀ H',Same H H'->E (eA G k) none H')
def EndsX (K:Fg) (G:Pg) (E:XK) (c:Fr) (H:Hp) (A:Av) (D:Ends):Rs->Prop
 | .exc k=> ∀ H',SmL c H'->E (eA G k) none H'
 | .nx ps=>EndsAt K G c H A D (.nx ps)
 | .ret w=>EndsAt K G c H A D (.ret w)
 | .retn xs=>EndsAt K G c H A D (.retn xs)
 | .reti w x=>EndsAt K G c H A D (.reti w x)
 | .brk ps=>EndsAt K G c H A D (.brk ps)
 | .cnt ps=>EndsAt K G c H A D (.cnt ps)
 | .bad=>False
theorem EndsX.mono {K:Fg} {G:Pg} {E:XK} {c:Fr} {H H1:Hp} {A A1:Av} {D:Ends} {r:Rs} (h:EndsX K G E c H A D r) (k:Kp K G H A H1 A1):EndsX K G E c H1 A1 D r:=by
 cases r with
 | exc j=>exact h
 | bad=>exact h
 | nx ps=>exact EndsAt.mono (r:= .nx ps) h k
 | ret w=>exact h
 | retn xs=>exact h
 | reti w x=>exact h
 | brk ps=>exact EndsAt.mono (r:= .brk ps) h k
 | cnt ps=>exact EndsAt.mono (r:= .cnt ps) h k
def tDx (K:Fg) (G:Pg) (E:XK) (d:DS):TS:=fun D σ H=> ∃ (c:Fr) (ow:Ows) (ps:PSt),RepS K G c H ow ps σ /\EndsX K G E c H (av c ow) D (d ps)
abbrev JSx (X:Cx) (G:Pg) (E:XK) (st:Stmt) (d:DS):Prop:=PS X st (tDx X.K G E d)
abbrev JSsx (X:Cx) (G:Pg) (E:XK) (st:List Stmt) (d:DS):Prop:=PSs X st (tDx X.K G E d)
def cutX:Rs->Rs
 | .exc _=> .bad
 | r=>r
@[simp] theorem cutX_nx (ps:PSt):cutX (.nx ps)= .nx ps:=rfl
@[simp] theorem cutX_ret (w:PV):cutX (.ret w)= .ret w:=rfl
@[simp] theorem cutX_retn (w:List PV):cutX (.retn w)= .retn w:=rfl
@[simp] theorem cutX_reti (w:PV) (x:Ow):cutX (.reti w x)= .reti w x:=rfl
@[simp] theorem cutX_brk (ps:PSt):cutX (.brk ps)= .brk ps:=rfl
@[simp] theorem cutX_cnt (ps:PSt):cutX (.cnt ps)= .cnt ps:=rfl
@[simp] theorem cutX_bad:cutX .bad= .bad:=rfl
def cutR {α :Type}:Rx α ->Rx α
 | .exc _=> .bad
 | r=>r
@[simp] theorem cutR_ok {α :Type} (a: α):cutR (.ok a)= .ok a:=rfl
@[simp] theorem cutR_bad {α :Type}:cutR (.bad:Rx α)= .bad:=rfl
def sCut (d:DS):DS:=fun ps=>cutX (d ps)
theorem ends_cut {K:Fg} {G:Pg} {E:XK} {c:Fr} {H:Hp} {A:Av} {D:Ends} {r:Rs} (h:EndsX K G E c H A D (cutX r)):EndsAt K G c H A D r:=by
 cases r <;> exact h
theorem ends_cutR {α :Type} {K:Fg} {G:Pg} {E:XK} {c:Fr} {H:Hp} {A:Av} {D:Ends} {m:Rx α} {f: α ->Rs} (h:EndsX K G E c H A D ((cutR m).st f)): ∃ a,m= .ok a/\EndsX K G E c H A D (f a):=by
 cases m with
 | ok a=>exact ⟨a,rfl,h⟩
 | bad=>exact h.elim
 | exc c=>exact h.elim
theorem PS.nox {X:Cx} {st:Stmt} {t:TS} (h:PS X.nox st t):PS X st t:=fun pins s σ H D I hw =>
 wpAny_mono (h pins s σ H D (I.wish _) hw) (fun _ _ q=>q.unwish) fun _ _ z=>False.elim z
section
variable {X:Cx} {G:Pg} {E:XK} {e a b o tg:Expr} {es:List Expr} {d:DA} {ds du:DS} {dt:DT} {st:Stmt} {rest:List Stmt} {pos p:Pos} {x m:Str} {k i:Nat} {ms:List Bool}
theorem sx_of (h:JS X.nox G st ds):JSx X G E st (sCut ds):=impS (PS.nox h) fun D σ H ⟨c,ow,ps,R,q⟩=>⟨c,ow,ps,R,ends_cut q⟩
theorem ssx_one (h:JSx X G E st ds):JSsx X G E [st] ds:=pss_one h
theorem ssx_cons (h1:JSx X G E st ds) (h2:JSsx X G E rest du):JSsx X G E (st :: rest) (sSeq ds du):=impSs (pss_cons h1 h2) fun D σ H ⟨c,ow,ps,R,q⟩=>by
 refine ⟨c,ow,ps,R,?_⟩
 unfold sSeq at q
 cases e:ds ps with
 | nx ps'=>rw [e] at q; exact fun σ' H' ow' R' k=>⟨c,ow',ps',R',EndsX.mono q k⟩
 | ret w=>rw [e] at q; exact q
 | retn xs=>rw [e] at q; exact q
 | reti w x=>rw [e] at q; exact q
 | brk ps'=>rw [e] at q; exact q
 | cnt ps'=>rw [e] at q; exact q
 | bad=>rw [e] at q; exact q
 | exc c=>rw [e] at q; exact q
def sIfX (t:DT) (a b:DS):DS:=fun ps=>(cutR (t ps)).st fun x=>if x=true then a ps else b ps
theorem sx_if {c:Expr} {a b:List Stmt} (hc:JT X.nox G c dt) (ha:JSsx X G E a ds) (hb:JSsx X G E b du):JSx X G E (.If c a b pos) (sIfX dt ds du):=impS (ps_if (PT.nox hc) ha hb) fun D σ H ⟨c,ow,ps,R,q⟩=>by
 obtain ⟨x,e1,q⟩:=ends_cutR q
 refine ⟨c,ow,ps,x,R,e1,fun H' s=> ?_⟩
 split at q
 ·rename_i hx; subst hx; exact iteT ⟨c,ow,ps,R.grow s,q.mono (Kp.of_same s)⟩
 ·rename_i hx
  have:x=false:=by simpa using hx
  subst this
  exact iteF ⟨c,ow,ps,R.grow s,q.mono (Kp.of_same s)⟩
def sIfMX (t:DTM) (a b:DS):DS:=fun ps=>(cutR (t ps)).st fun r=>if r.1=true then a r.2 else b r.2
theorem sx_ifM {c:Expr} {a b:List Stmt} {d1:DTM} (hc:JTM X.nox G c d1) (ha:JSsx X G E a ds) (hb:JSsx X G E b du):JSx X G E (.If c a b pos) (sIfMX d1 ds du):=impS (ps_if (PT.nox hc) ha hb) fun D σ H ⟨c,ow,ps,R,q⟩=>by
 obtain ⟨⟨x,p1⟩,e1,q⟩:=ends_cutR q
 refine ⟨c,ow,ps,x,p1,R,e1,fun H1 ow1 R1 k1=> ?_⟩
 cases x with
 | true=>exact iteT ⟨c,ow1,p1,R1,EndsX.mono q k1⟩
 | false=>exact iteF ⟨c,ow1,p1,R1,EndsX.mono q k1⟩
theorem ssx_nil:JSsx X G E [] sNext:=impSs pss_nil fun D σ H ⟨c,ow,ps,R,q⟩=>q σ H ow R (Kp.of_same (Same.refl H))
theorem PA.nox {es:List Expr} {t:TA} (h:PA X.nox es t):PA X es t:=fun pos pins s σ H Q I hw =>
 wpAny_mono (h pos pins s σ H Q (I.wish _) hw) (fun _ _ ⟨vs,H',I',r,q⟩=>⟨vs,H',I'.unwish,r,q⟩) fun _ _ z=>False.elim z
def tPx (K:Fg) (G:Pg) (E:XK) (d:DP):TE:=fun σ H Q=> ∃ (c:Fr) (ow:Ows) (ps:PSt),RepS K G c H ow ps σ /\(d ps).at (fun w=> ∀ v H',Same H H'->Rep K G H' (av c ow) w v->Q v H') (fun k=> ∀ H',SmL c H'->E (eA G k) none H')
abbrev JPx (X:Cx) (G:Pg) (E:XK) (e:Expr) (d:DP):Prop:=PE X e (tPx X.K G E d)
theorem endsx_st {α :Type} {K:Fg} {G:Pg} {E:XK} {c:Fr} {H:Hp} {A:Av} {D:Ends} {m:Rx α} {f: α ->Rs} (h:EndsX K G E c H A D (m.st f)):m.at (fun a=>EndsX K G E c H A D (f a)) (fun k=> ∀ H',SmL c H'->E (eA G k) none H'):=by
 cases m with
 | ok a=>exact h
 | bad=>exact h
 | exc k=>exact h
theorem Rx.at.imp {α :Type} {r:Rx α} {Q Q': α ->Prop} {F F':Nat->Prop} (h:r.at Q F) (hq: ∀ a,Q a->Q' a) (hf: ∀ k,F k->F' k):r.at Q' F':=by
 cases r with
 | ok a=>exact hq a h
 | bad=>exact h
 | exc k=>exact hf k h
def dCallX (g:List PV->Rx PV) (d:DA):DP:=fun ps=>(cutR (d ps)).bind g
theorem px_fn {g:List PV->Rx PV} {n:Nat} (h:FnAt X.prog X.w X.K X.mg X.base (CX1 X.prog X.w) n x (spX X.K G ms g)) (hr:Room n X.A) (hg:Gl X x) (hx:Passes (CX1 X.prog X.w) X E) (ha:JA X.nox G ms (e :: es) d) (hdb:(x == ("__debug__":Str))=false:=by decide)
  (he:starEach (e :: es) X.env=(false,eval e X.env) :: starEach es X.env:=by rfl) (hpl:(backTo pos (starEach es X.env)).any (·.1)=false:=by rfl):JPx X G E (.Call (.Name x p) (e :: es) [] pos) (dCallX g d) :=
 imp (pe_fn (E:=E) h hr hg hx (PA.nox ha) hdb he hpl) fun σ H Q ⟨c,ow,ps,R,q⟩=>by
  unfold dCallX at q
  cases ed:d ps with
  | bad=>rw [ed] at q; exact q.elim
  | exc k=>rw [ed] at q; exact q.elim
  | ok ws =>
   rw [ed] at q
   have q:(g ws).at _ _:=q
   refine ⟨c,ow,ps,ws,R,ed,fun vs H1 s1 r1=>⟨av c ow,ws,(R.grow s1).used,r1,q.imp (fun w q v H2 s2 r2=>q v H2 (s1.trans s2) r2) fun k q H2 s2=>q H2 ((R.same.trans s1).trans s2)⟩⟩
theorem sx_set {da:DP} (hN:X.N.Nodup) (hi:X.N[i]? =some x) (hx:Loc X.env.scope x) (he:JPx X G E e da) (hs:swapsWith e (some (.Name x p)) pos.line X.env=pure false:=by rfl) (hf:X.fn x=true\/X.env.scope.names.lookup x=some .local:=by first | exact .inl rfl | exact .inr rfl | assumption) :
  JSx X G E (.Assign [.Name x p] e pos) (sSet i da):=impS (ps_set hN hi hx he hs hf) fun D σ H ⟨c,ow,ps,R,q⟩ =>
 ⟨c,ow,ps,R,(endsx_st q).imp (fun w q v H' s r=>q _ _ _ ((R.grow s).setV r) ((Kp.of_same s).trans (Kp.weak av_off))) fun k q=>q⟩
theorem sx_ret {da:DP} (he:JPx X G E e da):JSx X G E (.Return (some e) pos) (sRet da):=impS (ps_ret he) fun D σ H ⟨c,ow,ps,R,q⟩ =>
 ⟨c,ow,ps,R,(endsx_st q).imp (fun w q v H' s r=>q v H' (R.same.trans s) ((Kp.weak fun a z=>Or.inl z).rep r)) fun k q=>q⟩
def sRaise (k:Nat):DS:=fun _=> .exc k
theorem sx_raise (k:Nat) {y:Str} {j} {np cpos yp:Pos} (hl:Lv X E) (hc:X.calm=true) (hg:Gl X x) (hm:X.mg x=some (eA G k)) (hC:ExcF X.K (G.cA (1000 + k))) (hd:(x == ("__debug__":Str))=false:=by decide)
  (hpl:(backTo cpos (starEach [.Constant (.str y) j yp] X.env)).any (·.1)=false:=by rfl):JSx X G E (.Raise (some (.Call (.Name x np) [.Constant (.str y) j yp] [] cpos)) none pos) (sRaise k) :=
 impS (ps_raise (E:=E) hl hc hg hm hC hd hpl) fun D σ H ⟨c,ow,ps,R,q⟩=>q H R.same
end
theorem fn_okX {P:Program} {w:World} {K:Fg} {mg:Str->Option Value} {base:Bs} {G:Pg} {x qual:Str} {st:Stmt} {f:Addr} {fd:FuncData} {N ps:List Str} {k:Nat} {ms:List Bool} {d:DS} (F:Fun K x qual st f fd) (S:FnScope N ps (defScope st)) (hm:ms.length=ps.length)
  (hb: ∀ (cdv:Value) (A:Around) (outer:List Env) (s:Shared) (H:Hp) (E:XK),Room k (A.deeper (envOfC qual (defScope st) s.heap.objs.size f cdv))->JSsx (cxOf (CX1 P w) P w K mg base N qual (defScope st) f cdv A outer s H E) G E (defBody st) d) :
  FnOk P w K mg base (CX1 P w) (k + 1) f fd ps (spX K G ms (runD ms N.length d)):=by
 refine F.okX S (fun vs H Q E h=> ?_) (fun cdv A outer s H vs Q E hr h=> ?_)
 ·obtain ⟨A,ws,u,r,_⟩:=h
  rw [r.len.2,hm]
 ·obtain ⟨A',ws,u,r,q⟩:=h
  refine ⟨_,hb cdv A outer s H E hr,?_⟩
  have F0:=in_rep (N:=N) r
  have S0:=F0.toS u fun a z=>z
  refine ⟨_,ow0,inP ms N.length ws,S0,?_⟩
  rw [show runD ms N.length d ws=fin (d (inP ms N.length ws)) from runD_of r.len.1] at q
  cases ed:d (inP ms N.length ws) with
  | nx ps'=>rw [ed] at q; exact fun σ' H' ow' R' _=>q .non H' (R'.same.same rfl) rfl
  | ret w2=>rw [ed] at q; exact fun v H' s r=>q v H' (s.same rfl) r
  | reti w x=>rw [ed] at q; exact q.elim
  | retn xs=>rw [ed] at q; exact fun p vs H' s hp hv r=>q (.ref p) H' (s.same rfl) ⟨p,vs,rfl,.inl ⟨hv,fun z=>u p z hp⟩,(Kp.weak fun a z=>Or.inl z).reps r⟩
  | brk _=>rw [ed] at q; exact q.elim
  | cnt _=>rw [ed] at q; exact q.elim
  | bad=>rw [ed] at q; exact q.elim
  | exc c=>rw [ed] at q; exact fun H' s=>q H' (s.same rfl)
theorem spX_G {K:Fg} {G:Pg} {ms:List Bool} {g:List PV->Rx PV}: ∀ vs H Q E,spG K G ms g vs H Q E->spX K G ms g vs H Q fun _ _ _=>False:=by
 rintro vs H Q E ⟨A,ws,w,u,r,e,q⟩
 exact ⟨A,ws,u,r,by rw [e]; exact q⟩
theorem spX_none {P:Program} {w:World} {K:Fg} {mg:Str->Option Value} {base:Bs} {G:Pg} {ms:List Bool} {n:Nat} {f:Addr} {fd:FuncData} {ps:List Str} {g:List PV->Rx PV} (h: ∀ ws,g ws= .bad):FnOk P w K mg base (CX1 P w) n f fd ps (spX K G ms g) :=
 fn_none fun vs H Q E ⟨A,ws,_,_,q⟩=>by rw [h] at q; exact q
def putTs (ks:List (List Key)) (k:List Key):List (List Key):=if inT ks k=true then ks else ks ++ [k]
def putTx {α :Type} (ks:List (List Key)) (xs:List α) (k:List Key) (w: α):List α :=if inT ks k=true then List.zipWith (fun k' x=>if k'=k then w else x) ks xs else xs ++ [w]
def keyTv:PV->Option (List Key)
 | .tup ys=>keyT ys
 | _=>none
section
variable {X:Cx} {G:Pg} {a b e f o ke value:Expr} {es:List Expr} {da db dk dv dd:DP} {ds:DS} {pos pos' p tp tpos apos cpos:Pos} {x:Str} {i:Nat} {ms:List Bool}
def sDputV (i:Nat) (dk dv:DP):DS:=fun ps=>(dv ps).st fun w=>(dk ps).st fun y=>match ps[i]?,keyTv y with
 | some (.own (.dit ks xs)),some k=>if ks.length < 10000 then .nx (ps.set i (.own (.dit (putTs ks k) (putTx ks xs k w)))) else .bad
 | _,_=> .bad
def dDGetV (da db dd:DP):DP:=fun ps=>(da ps).bind fun x=>(db ps).bind fun y=>(dd ps).bind fun z=>match x,keyTv y with
 | .dit ks xs,some k=>if ks.length=xs.length then .ok ((getT ks xs k).getD z) else .bad
 | _,_=> .bad
def sOwnD1 (i:Nat) (dk dv:DP):DS:=fun ps=>(dk ps).st fun y=>(dv ps).st fun w=>match keyP y with
 | some k=>if i < ps.length/\isF w=true then .nx (ps.set i (.own (.dic [k] [w]))) else .bad
 | none=> .bad
end
section
variable (ps:PSt) (i:Nat) (da db dk dv dd:DP)
@[simp] theorem e_dputV:sDputV i dk dv ps=(dv ps).st fun w=>(dk ps).st fun y=>match ps[i]?,keyTv y with
 | some (.own (.dit ks xs)),some k=>if ks.length < 10000 then .nx (ps.set i (.own (.dit (putTs ks k) (putTx ks xs k w)))) else .bad
 | _,_=> .bad:=rfl
@[simp] theorem e_dgetV:dDGetV da db dd ps=(da ps).bind fun x=>(db ps).bind fun y=>(dd ps).bind fun z=>match x,keyTv y with
 | .dit ks xs,some k=>if ks.length=xs.length then .ok ((getT ks xs k).getD z) else .bad
 | _,_=> .bad:=rfl
@[simp] theorem e_ownD1:sOwnD1 i dk dv ps=(dk ps).st fun y=>(dv ps).st fun w=>match keyP y with
 | some k=>if i < ps.length/\isF w=true then .nx (ps.set i (.own (.dic [k] [w]))) else .bad
 | none=> .bad:=rfl
end
end DN
end
section
namespace L2
open PySem PySem.Spec PyProof.Rows
end L2
namespace DN
open PySem PySem.Spec PyProof.Rows L2
section
variable {X:Cx} {G:Pg} {da:DP} {ds:DS} {pos p cpos:Pos}
def dEnumS (d:DP):DA:=fun ps=>(d ps).bind fun x=>match x with | .str y=> .ok (enumFrom 0 (sgP y)) | _=> .bad
def sForES (d:DP) (g:DG) (body:DS):DS:=sFor (dEnumS d) g body
end
@[simp] theorem e_forES (da:DP) (ds:DS) (ps:PSt) (g:DG):sForES da g ds ps=(dEnumS da ps).st fun ws=>forD g ds ws ps:=rfl
@[simp] theorem e_enumS (da:DP) (ps:PSt):dEnumS da ps=(da ps).bind fun x=>match x with | .str y=> .ok (enumFrom 0 (sgP y)) | _=> .bad:=rfl
end DN
namespace L2
open PySem PySem.Spec PyProof.Rows
section
variable {P:Program} {w:World} {K:Fg} {mg:Str->Option Value} {base:Bs} {C f:Addr} {fd:FuncData} {qual:Str} {st:Stmt}
end
end L2
namespace DN
open PySem PySem.Spec PyProof.Rows L2
def KitT (K:Fg) (X:Value):List Value->List (Nat × Bool)->Prop
 | v :: vs,(_,b) :: ps=>PySem.W.kitOne K v X=some b/\KitT K X vs ps
 | _,_=>True
theorem kit_isi {K:Fg} {G:Pg} {cv:Value} {N:Nat} (hC: ∀ c,c < N->ClsTy K (G.cA c)): ∀ {l:List (Nat × Bool)} {vs:List Value},KitT K cv vs l->vs=l.map (fun p=>tyOfKd G p.1)->(∀ p ∈ l,p.1 < 9\/(10<=p.1/\p.1 < N + 10))->IsiOk K G cv l
 | [],_,_,_,_=>is_nil
 | (q,b) :: l,vs,h,e,d=>by
  subst e
  have r:=kit_isi hC (l:=l) h.2 rfl fun p hp=>d p (List.mem_cons_of_mem _ hp)
  rcases d (q,b) List.mem_cons_self with h9 | ⟨h10,hn⟩
  ·exact is_cons h.1 h9 r
  ·obtain ⟨c,rfl⟩: ∃ c,q=c + 10:=⟨q - 10,by simp at h10; omega⟩
   exact is_consC h.1 (hC c (by simp at hn; omega)) r
end DN
end
section
namespace L2
open PySem PySem.Spec PyProof.Rows
section
variable {prog:Program} {w:World} {A:Around} {E:Value->Shared->Prop} {s:Shared}
end
section
variable {prog:Program} {w:World} {A:Around} {s:Shared} {K:Type} [DecidableEq K] {knd:KeyKind prog w K} {key:Nat->K}
end
end L2
namespace PySem
open Sem (wp)
section
variable {prog:Program} {w:World} {A:Around} {E:Value->Shared->Prop} {h:Heap} {g:Array GenState} {d:Drawn} {t:Nat} {os:OsState} {a:Addr} {vs:Array Value}
end
end PySem
namespace L2
open PySem PySem.Spec PyProof.Rows
section
variable {prog:Program} {w:World} {A:Around} {E:Value->Shared->Prop} {s:Shared} {K:Type} [DecidableEq K] {knd:KeyKind prog w K} {key:Nat->K}
end
structure M0 (X:Cx) (o:Expr) (m:Str) (apos cpos:Pos):Prop where
 base:attributeBase o m X.env (eval o X.env)=eval o X.env
 line:(apos.endLine == cpos.line)=true
theorem Paired.get {α β :Type} {F: α -> β ->Prop}: ∀ {l:List α} {m:List β},Paired F l m-> ∀ {i:Nat} {x: α},l[i]? =some x-> ∃ y,m[i]? =some y/\F x y
 | _,_,.nil,i,x,h=>by simp at h
 | _,_,.cons r t,0,x,h=>by simp at h; subst h; exact ⟨_,rfl,r⟩
 | _,_,.cons r t,i + 1,x,h=>by simp at h; obtain ⟨y,e,f⟩:=Paired.get t h; exact ⟨y,by simpa using e,f⟩
end L2
namespace DN
open PySem PySem.Spec PyProof.Rows L2
def nK:Nat->Nat->List Key
 | _,0=>[]
 | j,n + 1=> .inl (j:Int) :: nK (j + 1) n
end DN
namespace L2
open PySem PySem.Spec PyProof.Rows DN
end L2
namespace DN
open PySem PySem.Spec PyProof.Rows L2
def dDE (d:DP):DP:=fun ps=>(d ps).bind fun x=>match x with | .lst xs=> .ok (.dic (nK 0 xs.length) xs) | _=> .bad
section
variable {X:Cx} {G:Pg} {da:DP} {ds:DS} {pos p pos2 p2 cpos apos:Pos}
def kPV:Key->PV
 | .inl i=> .int i
 | .inr x=> .str x
def itP:List Key->List PV->List PV
 | k :: ks,x :: xs=> .tup [kPV k,x] :: itP ks xs
 | _,_=>[]
def dItD (d:DP):DA:=fun ps=>(d ps).bind fun x=>match x with | .dic ks xs=>if ks.length=xs.length then .ok (itP ks xs) else .bad | _=> .bad
def sForIt (d:DP) (g:DG) (body:DS):DS:=sFor (dItD d) g body
end
@[simp] theorem e_forIt (da:DP) (ds:DS) (ps:PSt) (g:DG):sForIt da g ds ps=(dItD da ps).st fun ws=>forD g ds ws ps:=rfl
@[simp] theorem e_itD (da:DP) (ps:PSt):dItD da ps=(da ps).bind fun x=>match x with | .dic ks xs=>if ks.length=xs.length then .ok (itP ks xs) else .bad | _=> .bad:=rfl
@[simp] theorem e_dictEnum (da:DP) (ps:PSt):dDE da ps=(da ps).bind fun x=>match x with | .lst xs=> .ok (.dic (nK 0 xs.length) xs) | _=> .bad:=rfl
section
variable {X:Cx} {G:Pg} {e:Expr} {db:DP} {pos apos cpos:Pos} {x:Str}
end
def idxK:List Key->Key->Option Nat
 | [],_=>none
 | a :: ks,k=>if a=k then some 0 else (idxK ks k).map (· + 1)
section
variable {X:Cx} {G:Pg} {ke:Expr} {dk:DP} {pos p tpos apos cpos:Pos} {x:Str} {i:Nat}
def mClrA (i:Nat) (dk:DP):DM:=fun ps=>(dk ps).bind fun y=>match ps[i]?,keyP y with
 | some (.dol ks xss),some k=>(match idxK ks k with
  | some j=>if j < xss.length then .ok (.non,ps.set i (.dol ks (xss.set j []))) else .bad
  | none=> .bad)
 | _,_=> .bad
end
section
variable {X:Cx} {G:Pg} {ke a b:Expr} {dk da db:DP} {pos p tpos apos cpos:Pos} {x:Str} {i:Nat}
def mClrD (i:Nat):DM:=fun ps=>match ps[i]? with
 | some (.dol _ _)=> .ok (.non,ps.set i (.own (.dic [] [])))
 | _=> .bad
section
variable {pins:List (Addr × Obj)} {σ :L2.St} {H:Hp} {s:Shared} {A0:Av}
end
end
section
variable {X:Cx} {G:Pg} {e tg:Expr} {dm:DM} {pos:Pos}
def sAsgM (g:DG) (d:DM):DS:=fun ps=>(d ps).st fun w=>(g w.1 w.2).st fun ps'=> .nx ps'
end
section
variable (ps:PSt) (i:Nat) (dk:DP)
@[simp] theorem e_asgM (g:DG) (d:DM):sAsgM g d ps=(d ps).st fun w=>(g w.1 w.2).st fun ps'=> .nx ps':=rfl
@[simp] theorem e_clrA:mClrA i dk ps=(dk ps).bind fun y=>match ps[i]?,keyP y with
 | some (.dol ks xss),some k=>(match idxK ks k with
  | some j=>if j < xss.length then .ok (.non,ps.set i (.dol ks (xss.set j []))) else .bad
  | none=> .bad)
 | _,_=> .bad:=rfl
@[simp] theorem e_clrD:mClrD i ps=match ps[i]? with
 | some (.dol _ _)=> .ok (.non,ps.set i (.own (.dic [] [])))
 | _=> .bad:=rfl
end
end DN
end
section
namespace L2
open PySem PySem.Spec PyProof.Rows PySem.W PySem.Builtin PySem.Builtin.ObjectAttr PySem.Builtin.Getset_descriptor PySem.Calls
structure XKit (K:Frag) (C:Addr):Prop where
 ga:findIn K (.ref C) "__getattribute__"=some (some (.builtin "BaseException.__getattribute__"))
 cl:findIn K (.ref C) "__class__"=some (some (.builtin "object.__class__"))
 sp:specialIn K (.builtin "object.__class__") "__get__"=some (some (.builtin "getset_descriptor.__get__"))
 tk:takesIn K (.builtin "object.__class__")=some true
 ob:mroIn K C (.type "object")=some true
 be:mroIn K C (.type "BaseException")=some true
 is:(clsIn K C).isSome=true
def XAt (C:Addr) (a:Addr) (h:Heap):Prop:= ∃ o,h.get? a=some o/\o.cls= .ref C
section
variable {prog:Program} {w:World} {A:Around} {E:Value->Shared->Prop} {s:Shared} {K:Frag} {C a:Addr}
theorem XAt.type {M:Model} {h:Heap} (I:XAt C a h):Looks M h (typeOf (.ref a)) (.ref C):=by
 obtain ⟨o,e,c⟩:=I
 exact c ▸ (Looks.ld e).andThen .now
theorem x_find {M:Model} {h:Heap} (X:K.In h) (z:XKit K C):Looks M h (find (.ref a) (.ref C) "__class__") (.bind (.builtin "getset_descriptor.__get__") (.builtin "object.__class__")):=by
 have L1:=looks_findIn (M:=M) X z.cl
 have L2:Looks M h (getOf (some (.builtin "object.__class__"))) (some (.builtin "getset_descriptor.__get__")):=looks_specialIn X z.sp
 have L3:=looks_takesIn (M:=M) X z.tk
 exact L1.andThen (L2.andThen ((show Looks M h (dataDescriptor? (some (.builtin "object.__class__")) (some (.builtin "getset_descriptor.__get__"))) (some (.builtin "getset_descriptor.__get__",.builtin "object.__class__")) from L3.andThen .now).andThen (Looks.tag .now)))
theorem x_class_get {R:Result->Shared->Prop} {tp:Value} (X:K.In s.heap) (I:XAt C a s.heap) (hm:mroIn K C (.type "object")=some true)
  (h:R (.ok (.ret (.ref C))) s):codeAny (model prog w) A (.call (.builtin "getset_descriptor.__get__") ⟨[.builtin "object.__class__",.ref a,tp],[]⟩) R s:=by
 obtain ⟨hh,g,dr,t,os⟩:=s
 have L0:=I.type (M:=model prog w)
 have L1:=looks_mroIn (M:=model prog w) X hm
 refine codeAny_call_builtin KF.slot_gs.plain KF.entry_gs (KF.slot_gs.check _ _ _ _ _ _ _ _ KF.type_class (KF.args_gs _ _ _) ?_)
 unfold Builtin.«getset_descriptor.__get__» descrGet
 rw [dga_obj]
 refine wpAny_bind (wpAny_pure ?_)
 unfold descrGetter descrCheckInstance descrNameAndClass isInstance
 simp only [KF.owner_class]
 repeat lk
 refine ⟨Code.quiet_builtin _ (by decide +kernel),codeAny_builtin KF.entry_class ?_⟩
 unfold Builtin.«object.__class__» shownTypeOf
 repeat lk
 exact h
theorem x_entry {tk:Tok} {Q:PySem.Fin->Shared->Prop} (X:K.In s.heap) (I:XAt C a s.heap) (z:XKit K C) (hq:Q (.done (.ret (.ref C))) s) :
  wpAny (model prog w) A (Builtin.«object.__getattribute__» ⟨[.ref a,.str "__class__" tk],[]⟩) Q E s:=by
 obtain ⟨hh,g,dr,t,os⟩:=s
 have L0:=I.type (M:=model prog w)
 have L1:=x_find (M:=model prog w) (a:=a) X z
 unfold Builtin.«object.__getattribute__»
 refine wpAny_bind (wpAny_pure ?_)
 refine wpAny_bind (wpAny_pure ?_)
 refine wpAny_bind (L0.at (wpAny_bind (L1.at ?_)))
 show wpAny _ _ (holding [Value.builtin "object.__class__"] (call (.builtin "getset_descriptor.__get__") [.builtin "object.__class__",.ref a,.ref C]) >>= ret) _ _ _
 exact wpAny_bind (wpAny_holding (wpAny_call (x_class_get X I z.ob (wpAny_pure hq))))
theorem x_check {M:Model} {nameV:Value} {Q:Unit->Shared->Prop} (X:K.In s.heap) (I:XAt C a s.heap) (z:XKit K C) (hq:Q () s):wpAny M A (checkBuiltinCall "BaseException.__getattribute__" ⟨[.ref a,nameV],[]⟩) Q E s:=by
 have hk:builtinKind "BaseException.__getattribute__"=some .slot:=by decide +kernel
 have hsplit:splitId "BaseException.__getattribute__"=some ("BaseException","__getattribute__"):=by decide +kernel
 have ha:=F.args_bexc_ga (.ref a) nameV
 have L0:=I.type (M:=M)
 have L1:=looks_mroIn (M:=M) X z.be
 have LI:Looks M s.heap (isInstance (.ref a) (.type "BaseException")) true:=L0.andThen L1
 simp only [checkBuiltinCall,hk,hsplit]
 refine wpAny_bind ?_
 refine LI.at ?_
 repeat (any_goals (first | assumption | wp_step))
theorem x_ga {tk:Tok} {R:Result->Shared->Prop} (X:K.In s.heap) (I:XAt C a s.heap) (z:XKit K C) (hq:R (.ok (.ret (.ref C))) s):codeAny (model prog w) A (.call (.builtin "BaseException.__getattribute__") ⟨[.ref a,.str "__class__" tk],[]⟩) R s :=
 codeAny_call_builtin F.excAttr_ValueError.ga.plain F.entry_bexc_ga (x_check X I z (x_entry X I z hq))
theorem x_class {Q:Option Value->Shared->Prop} (X:K.In s.heap) (I:XAt C a s.heap) (z:XKit K C) (gt:findIn K (.ref C) "__getattr__"=some none) (hq:Q (some (.ref C)) { s with toks:=s.toks + 1 }):wpAny (model prog w) A (getAttr? (.ref a) "__class__") Q E s:=by
 obtain ⟨hh,g,dr,t,os⟩:=s
 have L0:=I.type (M:=model prog w)
 have L1:=looks_findIn (M:=model prog w) X z.ga
 have L2:=looks_findIn (M:=model prog w) X gt
 have f3:=F.excAttr_ValueError.ga.bind (.ref a)
 have hx0:(false && onTheHeap (Value.builtin "BaseException.__getattribute__"))=false:=rfl
 have hx2:(Value.builtin "BaseException.__getattribute__" == Value.builtin "object.__getattribute__")=false:=by decide +kernel
 have hx1:(onTheHeap (Value.ref C) && Value.builtin "BaseException.__getattribute__" == Value.builtin "object.__getattribute__")=false:=by rw [hx2]; rfl
 unfold getAttr? getAttrBy? getAttrBy
 refine wpAny_bind (wpAny_mkText (wpAny_bind (wpAny_attempt (wpAny_holding (wpAny_bind (L0.at (wpAny_bind (L1.at ?_))))))))
 dsimp only
 rw [hx1,if_neg (by decide)]
 unfold getAttrByItsOwn
 refine wpAny_bind ?_
 refine (show Looks (model prog w) hh (hookBefore (.ref C)) none from L2).at ?_
 refine wpAny_bind (wpAny_attempt (wpAny_holding ?_))
 unfold callGetattribute
 rw [hx0,if_neg (by decide)]
 unfold boundAndCalled
 rw [f3]
 refine wpAny_bind (wpAny_pure ?_)
 exact wpAny_call (x_ga (s:=⟨hh,g,dr,t + 1,os⟩) X I z (handed_on rfl (wpAny_pure hq)))
theorem kitx_exc (z:XKit K C) (gt:findIn K (.ref C) "__getattr__"=some none):KitX K (.ref a) (.ref C) (XAt C a) where
 ty:=fun _ _ _ I=>I.type
 it:=fun _ _ X _=>by
  obtain ⟨cdD,hcD⟩:=Option.isSome_iff_exists.mp z.is
  unfold clsIn at hcD
  split at hcD
  ·rename_i c' d' cd' sl' ho
   intro A' Q' E' s' k q
   unfold isType loadHead
   exact wpAny_bind (wpAny_loadPart (k _ _ (X _ _ ho)) (wpAny_pure q))
  ·cases hcD
 ne:=fun h tp dd its n sl X htp=>by
  obtain ⟨cdD,hcD⟩:=Option.isSome_iff_exists.mp z.is
  refine Bool.eq_false_iff.mpr fun q=> ?_
  have e:C=tp:=Value.ref.inj (beq_iff_eq.mp q)
  subst e
  unfold clsIn at hcD
  split at hcD
  ·rename_i c' d' cd' sl' ho
   have z:=(X _ _ ho).symm.trans htp
   cases z
  ·cases hcD
 ca:=fun X I k=>x_class X I z gt k
end
end L2
end
section
namespace DN
open PySem PySem.Spec PyProof.Rows L2
def spOX (K:Fg) (G:Pg) (ms:List Bool) (g:List PV->Rx PV):Sp:=fun vs H Q E=> ∃ (A:Av) (H1:Hp) (p:Addr) (k:Nat) (xs ws:List PV) (us:List V),vs= .ref p :: us/\A p/\H1 p=none/\Same H1 H/\Used H A/\RepO K G H A (.obj k xs) p/\RepM K G H1 A ms ws us /\
 (g (.obj k xs :: ws)).at (fun r=> ∃ w k' xs',r= .tup [w,.obj k' xs']/\ ∀ v H',SameX p H H'->RepO K G H' A (.obj k' xs') p->Rep K G H' A w v->Q v H') (fun j=> ∀ H',SameX p H H'->E (eA G j) none H')
theorem fn_okOX {P:Program} {w:World} {K:Fg} {mg:Str->Option Value} {base:Bs} {G:Pg} {x qual:Str} {st:Stmt} {f:Addr} {fd:FuncData} {N ps:List Str} {k:Nat} {ms:List Bool} {d:DS} (F:Fun K x qual st f fd) (S:FnScope N ps (defScope st)) (hm:ms.length + 1=ps.length) (hn:0 < N.length)
  (hb: ∀ (cdv:Value) (A:Around) (outer:List Env) (s:Shared) (H:Hp) (E:XK),Room k (A.deeper (envOfC qual (defScope st) s.heap.objs.size f cdv))->JSsx (cxOf (CX1 P w) P w K mg base N qual (defScope st) f cdv A outer s H E) G E (defBody st) d) :
  FnOk P w K mg base (CX1 P w) (k + 1) f fd ps (spOX K G ms (runO ms N.length d)):=by
 refine F.okX S (fun vs H Q E h=> ?_) (fun cdv A outer s H vs Q E hr h=> ?_)
 ·obtain ⟨A,H1,p,k0,xs,ws,us,rfl,_,_,_,_,_,r,_⟩:=h
  rw [List.length_cons,r.len.2,hm]
 ·obtain ⟨A',H1,p,k0,xs,ws,us,rfl,hA,hp1,sm,u,ro,r,q⟩:=h
  refine ⟨_,hb cdv A outer s H E hr,?_⟩
  have hlen:N.tail.length=N.length - 1:=List.length_tail
  have F0:=in_rep (N:=N.tail) r
  rw [hlen] at F0
  have F1:RepF K G (fun p=>H1 p ≠ none) H A' (inP ms (N.length - 1) ws) (L2.start N.tail us):=F0.keep (Kp.of_same sm) fun p hp=>by
   cases e1:H1 p with
   | none=>exact absurd e1 hp
   | some o=>exact sm _ _ e1
  have S0:=F1.cons (s:= .ino (.obj k0 xs)) (v:= .ref p) (x:=p) u (fun a z=>⟨by
   cases e1:H1 a with
   | none=>exact absurd e1 z
   | some o=>rw [sm _ _ e1]; simp,fun y=>z (by rw [y]; exact hp1)⟩) hA ⟨rfl,rfl,p,rfl,rfl,ro.keep (Kp.weak fun a z=>av0 a z) rfl⟩
  rw [start_cons hn]
  refine ⟨_,ow0,inO (.obj k0 xs) ms N.length ws,S0,?_⟩
  have q:(if ws.length=ms.length then finO (d (inO (.obj k0 xs) ms N.length ws)) else .bad:Rx PV).at _ _:=q
  rw [if_pos r.len.1] at q
  have sx: ∀ {H':Hp},SmL ⟨H,A',fun p=>H1 p ≠ none,some p⟩ H'->SameX p H H':=fun {H'} s a o h n=>s a o h fun z=>n (Option.some.inj z).symm
  cases ed:d (inO (.obj k0 xs) ms N.length ws) with
  | reti w2 x2 =>
   rw [ed] at q
   obtain ⟨w',k',xs',e,q⟩:=q
   injection e with e
   injection e with e1 e2
   injection e2 with e2 _
   subst e1
   have:=pv_obj e2
   subst this
   intro v H' pp s hl ro' rw'
   cases hl
   exact q v H' (sx s) ro' rw'
  | nx ps' =>
   rw [ed] at q
   have q:((match ps'[(0:Nat)]? with | some (.ino x)=>Rx.ok (PV.tup [.non,x.pv]) | _=> .bad):Rx PV).at _ _:=q
   split at q
   ·rename_i x2 hp0
    obtain ⟨w',k',xs',e,q⟩:=q
    injection e with e
    injection e with e1 e2
    injection e2 with e2 _
    subst e1
    have:=pv_obj e2
    subst this
    intro σ' H' ow' R' _
    obtain ⟨o',eo,z1,z2,pp,e2,el,ro'⟩:=R'.get hp0
    cases el
    exact q .non H' (sx R'.same) (ro'.keep (Kp.weak fun a z=>Or.inl z) rfl) rfl
   ·exact q.elim
  | ret w2=>rw [ed] at q; exact q.elim
  | retn xs=>rw [ed] at q; exact q.elim
  | brk _=>rw [ed] at q; exact q.elim
  | cnt _=>rw [ed] at q; exact q.elim
  | bad=>rw [ed] at q; exact q.elim
  | exc j=>rw [ed] at q; exact fun H' s=>q H' (sx s)
theorem spOX_none {P:Program} {w:World} {K:Fg} {mg:Str->Option Value} {base:Bs} {G:Pg} {ms:List Bool} {n:Nat} {f:Addr} {fd:FuncData} {ps:List Str} {g:List PV->Rx PV} (h: ∀ ws,g ws= .bad):FnOk P w K mg base (CX1 P w) n f fd ps (spOX K G ms g) :=
 fn_none fun vs H Q E ⟨A,H1,p,k,xs,ws,us,_,_,_,_,_,_,_,e⟩=>by rw [h] at e; exact e
structure MtOX (P:Program) (w:World) (K:Fg) (mg:Str->Option Value) (base:Bs) (G:Pg) (k:Nat) (m:Str) (ms:List Bool) (tab:List (Nat × Nat)) (g:Nat->List PV->Rx PV):Prop where
 all: ∀ c f,tab.lookup c=some f->MethAt P w K mg base (CX1 P w) k (G.cA c) m (spOX K G ms (g f))/\m ∉ G.fN c
def tMx (K:Fg) (G:Pg) (E:XK) (d:DM):TE:=fun σ H Q=> ∃ (c:Fr) (ow:Ows) (ps:PSt),RepS K G c H ow ps σ /\
 (d ps).at (fun r=> ∀ v H' ow',RepS K G c H' ow' r.2 σ ->Kp K G H (av c ow) H' (av c ow')->Rep K G H' (av c ow') r.1 v->Q v H') (fun k=> ∀ H',SmL c H'->E (eA G k) none H')
def tMax (K:Fg) (G:Pg) (E:XK) (d:DMA):TA:=fun σ H Q=> ∃ (c:Fr) (ow:Ows) (ps:PSt),RepS K G c H ow ps σ /\
 (d ps).at (fun r=> ∀ vs H' ow',RepS K G c H' ow' r.2 σ ->Kp K G H (av c ow) H' (av c ow')->Reps K G H' (av c ow') r.1 vs->Q vs H') (fun k=> ∀ H',SmL c H'->E (eA G k) none H')
abbrev JMx (X:Cx) (G:Pg) (E:XK) (e:Expr) (d:DM):Prop:=PE X e (tMx X.K G E d)
abbrev JMAx (X:Cx) (G:Pg) (E:XK) (es:List Expr) (d:DMA):Prop:=PA X es (tMax X.K G E d)
theorem Rx.at_bind {α β :Type} {m:Rx α} {f: α ->Rx β} {Q: β ->Prop} {F:Nat->Prop} (h:(m.bind f).at Q F):m.at (fun a=>(f a).at Q F) F:=by
 cases m with
 | ok a=>exact h
 | bad=>exact h
 | exc k=>exact h
section
variable {X:Cx} {G:Pg} {E:XK} {e a b o tg:Expr} {es:List Expr} {da db:DP} {d:DA} {dm:DM} {dma:DMA} {ds du:DS} {dt:DT} {st:Stmt} {rest:List Stmt} {pos p apos cpos:Pos} {x m:Str} {k i:Nat} {ms:List Bool}
def mMethX (tab:List (Nat × Nat)) (g:Nat->List PV->Rx PV) (i:Nat) (d:DA):DM:=fun ps=>match objAt ps i with
 | some (k,xs)=>(match tab.lookup k with | some f=>(cutR (d ps)).bind fun ws=>(g f (.obj k xs :: ws)).bind (resO ps i) | none=> .bad)
 | none=> .bad
theorem objAt_sml {c:Fr} {ow:Ows} {ps:PSt} {σ :L2.St} {H:Hp} {k:Nat} {xs:List PV} {p:Addr} (R:RepS X.K G c H ow ps σ) (h:objAt ps i=some (k,xs)) (hp: σ[i]? =some (some (.ref p))): ∀ H',SameX p H H'->SmL c H':=by
 unfold objAt at h
 split at h
 ·rename_i k0 xs0 hx
  obtain ⟨p',e1,e2,r⟩:=R.getO hx
  rw [hp] at e2
  cases e2
  have np0:=R.fresh i p e1
  exact fun H' s b o' h n=>s b o' (R.same b o' h n) (by intro z; subst z; rw [np0] at h; cases h)
 ·rename_i k0 xs0 hx
  obtain ⟨o',eo,z1,z2,p',e2,el,r⟩:=R.get hx
  rw [hp] at eo
  cases eo
  cases e2
  exact fun H' s b o' h n=>s b o' (R.same b o' h n) (by intro z; subst z; exact n el)
 ·cases h
theorem methX_of {tab:List (Nat × Nat)} {g:Nat->List PV->Rx PV} (h:MtOX X.prog X.w X.K X.mg X.base G k m ms tab g) (hms:ms.all (! ·)=true) {σ :L2.St} {H:Hp} {Q:VK} (hq:tMx X.K G E (mMethX tab g i d) σ H Q) :
  tMethD (ι :={ q:Nat × Nat // tab.lookup q.1=some q.2 }) (fun i=>G.cA i.1.1) m (fun i=>spOX X.K G ms (g i.1.2)) E (tVar i) (tPa X.K G ms d) σ H Q:=by
 obtain ⟨c,ow,ps,R,q⟩:=hq
 unfold mMethX at q
 split at q
 ·rename_i k0 xs hx
  split at q
  ·rename_i f hf
   cases ed:d ps with
   | bad=>rw [ed] at q; exact q.elim
   | exc j=>rw [ed] at q; exact q.elim
   | ok ws =>
    rw [ed] at q
    have q:((g f (.obj k0 xs :: ws)).bind (resO ps i)).at _ _:=q
    obtain ⟨p,hσ,hA,ro,_⟩:=objAt_get R hx
    obtain ⟨dx,vs,hH,hl,rs⟩:=ro
    refine ⟨.ref p,hσ,⟨(k0,f),hf⟩,p,dx,_,rfl,hH,zip_none (h.all k0 f hf).2,c,ow,ps,ws,R,ed,fun us H2 s2 rm=> ?_⟩
    have R2:=R.grow s2
    obtain ⟨p',hσ',hA',ro',upd'⟩:=objAt_get R2 hx
    rw [hσ] at hσ'
    cases hσ'
    obtain ⟨o5,e5,m5⟩:=ro'.at
    let H1:Hp:=fun a=>if a=p then none else H2 a
    have s12:Same H1 H2:=fun a o ha=>by
     by_cases z:a=p
     ·have:H1 a=none:=if_pos z
      rw [this] at ha; cases ha
     ·have:H1 a=H2 a:=if_neg z
      rw [this] at ha; exact ha
    have sx:SameX p H2 H1:=fun a o ha n=>by
     have:H1 a=H2 a:=if_neg n
     rw [this]; exact ha
    have kp:Kp X.K G H2 (av c ow) H1 (av c ow):=Kp.sameX sx hA' e5 m5
    have rm1:RepM X.K G H1 (av c ow) ms ws us:=RepM.weak (kp.reps (rm.reps' hms)) rm.len.1
    refine ⟨av c ow,H1,p,k0,xs,ws,us,rfl,hA',if_pos rfl,s12,R2.used,ro',rm1,(Rx.at_bind q).imp (fun r q=> ?_) fun j q H' s=>q H' (objAt_sml R2 hx hσ H' s)⟩
    unfold resO at q
    split at q
    ·rename_i w0 k' xs'
     exact ⟨w0,k',xs',rfl,fun v H' sx' ro'' rv=>by
      obtain ⟨R3,k3⟩:=upd' H' k' xs' sx' ro''
      exact q v H' ow R3 ((Kp.of_same s2).trans k3) rv⟩
    ·exact q.elim
  ·exact q.elim
 ·exact q.elim
theorem m_methX0 {tab:List (Nat × Nat)} {g:Nat->List PV->Rx PV} {pl:Sem Bool} (i:Nat) (h:MtOX X.prog X.w X.K X.mg X.base G k m [] tab g) (hr:Room k X.A) (hx:Passes (CX1 X.prog X.w) X E) (hN:X.N[i]? =some x:=by rfl) (hv:Vis X.env.scope x:=by first | exact Or.inl rfl | exact Or.inr (Or.inl rfl) | exact Or.inr (Or.inr rfl))
  (hd:(x == ("__debug__":Str))=false:=by decide) (hcd:(x == ("__classdict__":Str))=false:=by decide)
  (ht:eval (.Call (.Attribute (.Name x p) m apos) [] [] pos) X.env=(do
   let ov <- eval (.Name x p) X.env
   standAt apos.atName
   let (f,first) <- holding [ov] (getMethod ov m pl)
   callWith pos f first (backTo pos (starEach [] X.env)) (backToKw pos (keywordEach [] X.env))):=by rfl):JMx X G E (.Call (.Attribute (.Name x p) m apos) [] [] pos) (mMethX tab g i dNil) :=
 imp (pe_methD0 (ι :={ q:Nat × Nat // tab.lookup q.1=some q.2 }) (E:=E) (pl:=pl) (pe_var hN hv hd hcd) (fun i=>(h.all i.1.1 i.1.2 i.2).1) hr hx ht) fun σ H Q hq=>by
  obtain ⟨v,e1,ii,a,dx,fs,e2,e3,e4,c',ow',ps',ws,R',e5,f2⟩:=methX_of h rfl hq
  have:ws=[]:=by cases e5; rfl
  subst this
  exact ⟨v,e1,ii,a,dx,fs,e2,e3,e4,f2 [] H (Same.refl H) ⟨rfl,rfl⟩⟩
def mCutM (d:DM):DM:=fun ps=>cutR (d ps)
theorem PE.nox {e:Expr} {t:TE} (h:PE X.nox e t):PE X e t:=fun pins s σ H Q I hw =>
 wpAny_mono (h pins s σ H Q (I.wish _) hw) (fun _ _ ⟨v,H',I',r,q⟩=>⟨v,H',I'.unwish,r,q⟩) fun _ _ z=>False.elim z
theorem max_one (ha:JMx X G E e dm) (hs:starEach [e] X.env=(false,eval e X.env) :: starEach [] X.env:=by rfl):JMAx X G E [e] (mCons dm mNil) :=
 impA (pa_cons ha pa_nil hs) fun σ H Q ⟨c,ow,ps,R,q⟩=>⟨c,ow,ps,R,(Rx.at_bind q).imp (fun r q v H1 ow1 R1 k1 r1=>q [v] H1 ow1 R1 k1 ⟨v,[],rfl,r1,rfl⟩) fun j q=>q⟩
theorem max_cons (ha:JM X.nox G e dm) (hr:JMAx X G E es dma) (hs:starEach (e :: es) X.env=(false,eval e X.env) :: starEach es X.env:=by rfl):JMAx X G E (e :: es) (mCons (mCutM dm) dma) :=
 impA (pa_cons (PE.nox ha) hr hs) fun σ H Q ⟨c,ow,ps,R,q⟩=>by
  unfold mCons mCutM at q
  cases e1:dm ps with
  | bad=>rw [e1] at q; exact q.elim
  | exc j=>rw [e1] at q; exact q.elim
  | ok r =>
   obtain ⟨w,p1⟩:=r
   rw [e1] at q
   have q:((dma p1).bind fun y=>Rx.ok (w :: y.1,y.2)).at _ _:=q
   exact ⟨c,ow,ps,w,p1,R,e1,fun v H1 ow1 R1 k1 r1=>⟨c,ow1,p1,R1,(Rx.at_bind q).imp (fun y q vs H2 ow2 R2 k2 r2=>q (v :: vs) H2 ow2 R2 (k1.trans k2) ⟨v,vs,rfl,k2.rep r1,r2⟩) fun j q=>q⟩⟩
theorem m_newX {c n:Nat} (h:NewAt X.prog X.w X.K X.mg X.base x (G.cA c) (G.fN c)) (hr:Room (k + 2) X.A) (hg:Gl X x) (ha:JMAx X G E (e :: es) dma) (hl:(G.fN c).length=n) (hdb:(x == ("__debug__":Str))=false:=by decide)
  (he:starEach (e :: es) X.env=(false,eval e X.env) :: starEach es X.env:=by rfl) (hpl:(backTo pos (starEach es X.env)).any (·.1)=false:=by rfl):JMx X G E (.Call (.Name x p) (e :: es) [] pos) (mNew c n dma) :=
 imp (pe_new h hr hg ha hdb he hpl) fun σ H Q ⟨f,ow,ps,R,q⟩=>⟨f,ow,ps,R,(Rx.at_bind q).imp (fun r q vs H' ow' R' k' r'=>by
  obtain ⟨ws,p1⟩:=r
  have q:(if ws.length=n then Rx.ok (PV.obj c ws,p1) else .bad:Rx (PV × PSt)).at _ _:=q
  split at q
  ·rename_i hn
   refine ⟨by rw [<- r'.len,hl]; exact hn,fun y dy n1 n2 ne=> ?_⟩
   have sn:=newI_same (C:=G.cA c) (fs:=(G.fN c).zip vs) n1 n2
   exact q _ _ ow' (R'.grow sn) (k'.trans (Kp.of_same sn)) ⟨y,dy,vs,rfl,newI_at,by rw [<- r'.len,hl]; exact hn.symm,fun z=>R'.used y z n1,r'.same sn⟩
  ·exact q.elim) fun j q=>q⟩
theorem sx_setM (hN:X.N.Nodup) (hi:X.N[i]? =some x) (hx:Loc X.env.scope x) (he:JMx X G E e dm) (hs:swapsWith e (some (.Name x p)) pos.line X.env=pure false:=by rfl) (hf:X.fn x=true\/X.env.scope.names.lookup x=some .local:=by first | exact .inl rfl | exact .inr rfl | assumption) :
  JSx X G E (.Assign [.Name x p] e pos) (sSetM i dm):=impS (ps_set hN hi hx he hs hf) fun D σ H ⟨c,ow,ps,R,q⟩ =>
 ⟨c,ow,ps,R,(endsx_st q).imp (fun r q v H' ow' R' k r'=>q _ _ _ (R'.setV r') (k.trans (Kp.weak av_off))) fun j q=>q⟩
theorem endsx_withI {K:Fg} {c:Fr} {H:Hp} {A:Av} {D:Ends} {w:PV} {ps:PSt} (h:EndsX K G E c H A D (withI w ps)):EndsAt K G c H A D (withI w ps):=by
 unfold withI at h ⊢
 split at h <;> first | exact h | exact h.elim
theorem sx_retIM (he:JMx X G E e dm):JSx X G E (.Return (some e) pos) (sRetIM dm):=impS (ps_ret he) fun D σ H ⟨c,ow,ps,R,q⟩ =>
 ⟨c,ow,ps,R,(endsx_st q).imp (fun r q v H' ow' R' k r'=>withI_ok R' r' (endsx_withI q)) fun j q=>q⟩
theorem sx_whileM {ce:Expr} {body:List Stmt} {d1:DTM} (hp:PassesOwn (model X.prog X.w) X.A X.env X.xe) (hc:JTM X.nox G ce d1) (hb:JSsx X G E body ds):JSx X G E (.While ce body [] pos) (sWhileM (fun ps=>cutR (d1 ps)) ds):=impS (ps_while hp (PT.nox hc) hb) fun D σ H ⟨c,ow,ps,R,q⟩=>by
 unfold sWhileM at q
 generalize (100000:Nat)=n at q
 cases h:iterM (fun ps=>cutR (d1 ps)) ds n ps with
 | none=>rw [h] at q; exact q.elim
 | some r =>
  rw [h] at q
  have q:EndsX X.K G E c H (av c ow) D r:=q
  refine ⟨fun m σ' H'=> ∃ ow' ps',RepS X.K G c H' ow' ps' σ'/\iterM (fun ps=>cutR (d1 ps)) ds m ps'=some r/\EndsX X.K G E c H' (av c ow') D r,⟨n,ow,ps,R,h,q⟩,?_⟩
  rintro m σ' H' ⟨ow',ps',R',h',q'⟩
  cases m with
  | zero=>cases h'
  | succ m =>
   rw [iterM] at h'
   cases e:d1 ps' with
   | bad=>rw [e] at h'; cases h'; exact q'.elim
   | exc c=>rw [e] at h'; cases h'; exact q'.elim
   | ok r1 =>
    obtain ⟨b,p1⟩:=r1
    rw [e] at h'
    refine ⟨c,ow',ps',b,p1,R',e,fun H2 ow2 R2 k2=> ?_⟩
    cases b with
    | false =>
     cases h'
     exact iteF (q' σ' H2 ow2 R2 k2)
    | true =>
     refine iteT ⟨_,fun _ _ h=>h,c,ow2,p1,R2,?_⟩
     have q2:=q'.mono k2
     cases eb:ds p1 with
     | nx ps2 =>
      have h':iterM (fun ps=>cutR (d1 ps)) ds m ps2=some r:=by simpa only [cutR_ok,eb] using h'
      exact fun σ4 H4 ow4 R4 k4=>⟨m,Nat.lt_succ_self m,ow4,ps2,R4,h',q2.mono k4⟩
     | cnt ps2 =>
      have h':iterM (fun ps=>cutR (d1 ps)) ds m ps2=some r:=by simpa only [cutR_ok,eb] using h'
      exact fun σ4 H4 ow4 R4 k4=>⟨m,Nat.lt_succ_self m,ow4,ps2,R4,h',q2.mono k4⟩
     | brk ps2=>simp only [cutR_ok,eb] at h'; cases h'; exact q2
     | ret w=>simp only [cutR_ok,eb] at h'; cases h'; exact q2
     | retn xs=>simp only [cutR_ok,eb] at h'; cases h'; exact q2
     | reti w x=>simp only [cutR_ok,eb] at h'; cases h'; exact q2
     | bad=>simp only [cutR_ok,eb] at h'; cases h'; exact q2
     | exc c=>simp only [cutR_ok,eb] at h'; cases h'; exact q2
end
end DN
end
section
namespace L2
open PySem PySem.Spec PyProof.Rows
theorem ObjOk.there {P:Program} {w:World} {H:Hp} {h:Heap} {a:Addr} {o:HO} (x:ObjOk P w H h a o): ∃ ob,h.get? a=some ob:=by
 cases o with
 | lst xs=>obtain ⟨_,_,_,_,e⟩:=x; exact ⟨_,e⟩
 | tup xs=>obtain ⟨_,_,_,ob,e,_⟩:=x; exact ⟨_,e⟩
 | dK kvs ep=>obtain ⟨_,_,_,_,o,_,e,_⟩:=x; exact ⟨_,e⟩
 | dT kvs ep=>obtain ⟨_,_,_,_,o,_,e,_⟩:=x; exact ⟨_,e⟩
 | set S n=>obtain ⟨o,_,_,_,e,_⟩:=x; exact ⟨_,e⟩
 | ins C dx fs=>obtain ⟨_,_,_,e,_⟩:=x; exact ⟨_,e⟩
 | own y=>exact x
 | xd fs=>obtain ⟨_,⟨_,_,_,e,_⟩,_⟩:=x; exact ⟨_,e⟩
 | rng lo hi=>obtain ⟨_,_,_,e⟩:=x; exact ⟨_,e⟩
 | frz ob u=>obtain ⟨e,_⟩:=x; exact ⟨_,e⟩
 | tbl q=>obtain ⟨_,e,_⟩:=x; exact ⟨_,e⟩
 | met f y=>exact ⟨_,(show h.get? a=some _ from x)⟩
 | ext φ =>obtain ⟨_,e,_⟩:=x; exact e
section
variable {X:Cx} {pins:List (Addr × Obj)} {σ :St} {H:Hp} {s:Shared}
theorem goes_ok {M:Model} {A:Around} {E:Value->Shared->Prop} {i:Nat} {x:Str} {pos:Pos} {Q:Unit->Shared->Prop} (I:Inv X pins σ H s) (hN:X.N.Nodup) (hi:X.N[i]? =some x) (hk:X.env.kindOf x=some .local)
  (h: ∀ s',Inv X pins (σ.set i none) H s'->Q () s'):wpAny M A (do bindName X.env x .none; unbindBehindTheSuite X.env x pos) Q E s:=by
 obtain ⟨m,hn,hl⟩:=id I.loc
 have hcls:(X.env.scope.kind == .class || (X.env.scope.kind == .module && X.env.locals != X.env.globals))=false:=by rw [I.ok.kind]; rfl
 have hiσ :i < σ.length:=by rw [I.len]; exact (List.getElem?_eq_some_iff.mp hi).1
 have cne:=I.cne
 refine wpAny_nameGoes_keeps hk hn hcls (fun h' v hn' hs=> ?_)
 obtain ⟨oL,_,_,hoL,_⟩:=id hn
 refine h _ ⟨I.ok,I.os,I.bare,⟨fun b o e n hb hx=> ?_,fun b o e n hb hx=> ?_,I.base.free,fun b o e hx=> ?_,I.base.tups,I.base.frzs,I.base.tbls⟩,⟨_,hn',fun j y v' e1 e2 e3=> ?_⟩,fun y c e=> ?_,I.free,I.freeC,fun p hp=> ?_,fun b ob e=> ?_,by simpa using I.len⟩
 ·exact (hs.2 b (Nat.ne_of_lt (Nat.lt_of_lt_of_le (Heap.lt_size e) I.ok.above))).trans (I.base.keep b o e n hb hx)
 ·obtain ⟨sl,e1⟩:=I.base.slot b o e n hb hx
  exact ⟨sl,(hs.2 b (Nat.ne_of_lt (Nat.lt_of_lt_of_le (Heap.lt_size e) I.ok.above))).trans e1⟩
 ·obtain ⟨o',e1⟩:=I.base.there b o e hx
  exact ⟨o',(hs.2 b (Nat.ne_of_lt (Nat.lt_of_lt_of_le (Heap.lt_size e) I.ok.above))).trans e1⟩
 ·by_cases hj:j=i
  ·subst hj
   rw [List.getElem?_set_self hiσ] at e2
   cases e2
  ·rw [List.getElem?_set_ne (Ne.symm hj)] at e2
   obtain ⟨u',r',q⟩:=hl j y v' e1 e2 e3
   refine ⟨u',r',?_⟩
   rcases q with ⟨k,e⟩ | ⟨k,c,e,z⟩
   ·refine .inl ⟨k,?_⟩
    have:y ≠ x:=fun e=>hj (nodup_ix hN e1 (e ▸ hi))
    simp [this,e]
   ·exact .inr ⟨k,c,e,z.sameBut hs (cne y c e)⟩
 ·obtain ⟨w',z⟩:=I.cell y c e
  exact ⟨w',z.sameBut hs (cne y c e)⟩
 ·obtain ⟨e,n,ne,nf,d⟩:=I.pin p hp
  exact ⟨(hs.2 p.1 ne).trans e,n,ne,nf,d⟩
 ·refine (I.hok b ob e).stay (fun c w' hc q=>(hs.2 c ?_).trans q) (fun _ q=>q) (fun _ _ q=>q) fun _ _ _ q=>q
  rintro rfl
  rcases hc with rfl | hc
  ·rw [I.free] at e; cases e
  ·rw [I.free] at hc; cases hc
theorem goes_fin {M:Model} {A:Around} {E:Value->Shared->Prop} {x:Str} {pos:Pos} {Q:Unit->Shared->Prop} (ok:X.Ok) (I:Fin X H s) (hk:X.env.kindOf x=some .local)
  (h: ∀ s',Fin X H s'->Q () s'):wpAny M A (do bindName X.env x .none; unbindBehindTheSuite X.env x pos) Q E s:=by
 obtain ⟨m,hn⟩:=id I.loc
 have hcls:(X.env.scope.kind == .class || (X.env.scope.kind == .module && X.env.locals != X.env.globals))=false:=by rw [ok.kind]; rfl
 refine wpAny_nameGoes_keeps hk hn hcls (fun h' v hn' hs=> ?_)
 refine h _ ⟨I.os,I.bare,⟨fun b o e n hb hx=> ?_,fun b o e n hb hx=> ?_,I.base.free,fun b o e hx=> ?_,I.base.tups,I.base.frzs,I.base.tbls⟩,fun b ob e=> ?_,⟨_,hn'⟩,I.free⟩
 ·exact (hs.2 b (Nat.ne_of_lt (Nat.lt_of_lt_of_le (Heap.lt_size e) ok.above))).trans (I.base.keep b o e n hb hx)
 ·obtain ⟨sl,e1⟩:=I.base.slot b o e n hb hx
  exact ⟨sl,(hs.2 b (Nat.ne_of_lt (Nat.lt_of_lt_of_le (Heap.lt_size e) ok.above))).trans e1⟩
 ·obtain ⟨o',e1⟩:=I.base.there b o e hx
  exact ⟨o',(hs.2 b (Nat.ne_of_lt (Nat.lt_of_lt_of_le (Heap.lt_size e) ok.above))).trans e1⟩
 ·refine (I.hok b ob e).stay (fun c w' hc q=>(hs.2 c ?_).trans q) (fun _ q=>q) (fun _ _ q=>q) fun _ _ _ q=>q
  rintro rfl
  rcases hc with rfl | hc
  ·rw [I.free] at e; cases e
  ·rw [I.free] at hc; cases hc
def Ends.off (D:Ends) (i:Nat):Ends:={ nx:=fun σ H=>D.nx (σ.set i none) H,bk:=fun σ H=>D.bk (σ.set i none) H,ct:=fun σ H=>D.ct (σ.set i none) H,rt:=D.rt }
theorem fly_watch {P:Program} {w:World} {fs:List Addr} {H H':Hp} {h0 h1 h5 B:Heap} {a:Addr} {ob:Obj} (hB:B.StaysIn h5) (up:h1.UpToSlots h5) (hk: ∀ b o,h1.get? b=some o->b ∉ fs->(H' b ≠ none\/ ∃ o0,h0.get? b=some o0)->B.get? b=some o)
  (hf: ∀ b ∈ fs,H' b=none) (nf: ∀ b ∈ fs, ∃ o,h0.get? b=some o/\H b=none/\ ∀ vs,o.data ≠ .fields vs) (u:Un fs [] H H' h0 h1) (ok:HOk P w H' h1) (ha:B.get? a=none) (hob:h5.get? a=some ob) (hd: ∃ vs,ob.data= .fields vs) :
  H' a=none/\Un fs [] H (upd H' a (.frz ob (.own a))) h0 h5/\HOk P w (upd H' a (.frz ob (.own a))) h5:=by
 obtain ⟨u5,ok5⟩:=fly_move hB up hk hf nf u ok
 have naf:a ∉ fs:=fun z=>by
  obtain ⟨o,e,n,d⟩:=nf a z
  obtain ⟨sl,q⟩:=u5.slot a o e n z (by simp)
  rw [q] at hob; cases hob
  obtain ⟨vs,z⟩:=hd
  exact d vs z
 have hn:H' a=none:=by
  cases e:H' a with
  | none=>rfl
  | some o =>
   obtain ⟨o1,e1⟩:=ObjOk.there (ok a o e)
   have:=hk a o1 e1 naf (.inl (by rw [e]; simp))
   rw [ha] at this; cases this
 have h0n: ∀ o,h0.get? a ≠ some o:=fun o e=>by
  obtain ⟨o1,e1⟩:=u.there a o e (by simp)
  have:=hk a o1 e1 naf (.inr ⟨o,e⟩)
  rw [ha] at this; cases this
 have up: ∀ b o,H' b=some o->upd H' a (.frz ob (.own a)) b=some o:=fun b o e=>by
  rw [upd_ne (fun z=>by subst z; rw [hn] at e; cases e)]; exact e
 refine ⟨hn,⟨u5.keep,u5.slot,fun b o e n hx=> ?_,u5.there,fun b xs e=>up _ _ (u5.tups b xs e),fun b o v e=>up _ _ (u5.frzs b o v e),fun b q e=>up _ _ (u5.tbls b q e)⟩,fun b o e=> ?_⟩
 ·rw [upd_ne (fun z=>by subst z; exact h0n o e)]; exact u5.free b o e n hx
 ·by_cases hb:b=a
  ·subst hb
   rw [upd_same] at e; cases e
   exact ⟨hob,ob,hob⟩
  ·rw [upd_ne hb] at e
   exact (ok5 b o e).stay (fun _ _ _ q=>q) (fun c q=>up _ _ q) (fun _ _ q=>up _ _ q) fun _ _ _ q=>up _ _ q
theorem catch_as {E:XK} {cx n:Str} {i:Nat} {e cv:Value} {np hpos:Pos} {b0:Stmt} {suite:List Stmt} {th:TS} {D:Ends} {s':Shared} (hst:X.stack=X.env :: X.outer) (hfr:X.env.frame=some X.env.locals) (hxe:X.xe=fun _ _=>False) (hg:Gl X cx) (hm:X.mg cx=some cv) (hd:(cx == ("__debug__":Str))=false)
  (hN:X.N.Nodup) (hi:X.N[i]? =some n) (hl:X.env.scope.names.lookup n=some .local)
  (hb: ∀ e,PSs (X.mk' e) (b0 :: suite) th) (hE: ∀ c o H2,E c o H2-> ∃ C,c= .ref C/\PySem.W.exmOne X.K (.ref C) cv=some true/\ ∀ a ob,H2 a=none->ob.cls= .ref C->th (D.off i) (σ.set i (some (.ref a))) (upd H2 a (.frz ob (.own a))))
  (I:Inv X pins σ H s) (h:CX1 X.prog X.w X.stack H s E e s') :
  wpAny (model X.prog X.w) X.A (noteFrame e X.env) (fun _ s₂=>wpAny (model X.prog X.w) X.A (setFlight e none) (fun _ s₃ =>wpAny (model X.prog X.w) X.A (handleBy e X.env [.ExceptHandler (some (.Name cx np)) (some n) (b0 :: suite) hpos]) (SP X pins D) X.xe s₃) X.xe s₂) X.xe s':=by
 obtain ⟨a,cls,H',h1,rfl,os,bare,u,ok,hf,⟨⟨B,a0,fly,hk⟩,up,cxn⟩,q⟩:=h
 obtain ⟨C,rfl,hx,ht⟩:=hE _ _ _ q
 have nf: ∀ b ∈ frs X.stack, ∃ o,s.heap.get? b=some o/\H b=none/\ ∀ vs,o.data ≠ .fields vs:=fun b hb=>by
  obtain ⟨_,o,e,d⟩:=I.stack.mem hb
  exact ⟨o,e,I.stkFree b hb,d⟩
 have mv: ∀ h6:Heap,B.StaysIn h6->h1.UpToSlots h6->Inv X pins σ H' { s' with heap:=h6 }:=fun h6 k1 k2=>by
  obtain ⟨u6,ok6⟩:=fly_move k1 k2 hk hf nf u ok
  exact I.call' (s':={ s' with heap:=h6 }) (ch:=[]) os u6 ok6 bare (fun b z=>absurd z (by simp))
 rw [hst] at fly
 refine wpAny_looks_onW (by rw [<- hst]; exact I.ok.frames) hfr fly fun h4 held4 up4=> ?_
 refine wpAny_landsW (s:={ s' with heap:=h4 }) held4 fun h5 fly5 up5=> ?_
 have I5:=mv h5 fly5.1 ((up.trans up4).trans up5)
 obtain ⟨ob,hob,hobc⟩:=fly5.there
 refine wpAny_handleBy_cons (codeAny_handlers_test ?_) (by intro z; cases z)
 refine ld_glob (X:=X.mk' (.ref a)) (I5.mark (.ref a)) hg hm ?_ hd
 have LX:PySem.W.Looks (model X.prog X.w) h5 (excMatches (.ref a) cv) true:=PySem.W.exm_one (K:=X.K) I5.kIn (XAt.type ⟨ob,hob,hobc⟩) hx
 refine LX.at (codeAny_handlers_suite_as ?_)
 refine lands_againW (s:={ s' with heap:=h5 }) fly5 fun h6 fly6 up6=> ?_
 have f6:=fly6
 obtain ⟨k6,ha6,_,oe,vs,_,_,_,he6,hc6,hd6,_⟩:=f6
 obtain ⟨hn6,u6,ok6⟩:=fly_watch k6 (((up.trans up4).trans up5).trans up6) hk hf nf u ok ha6 he6 ⟨vs,hd6⟩
 have I6:Inv X pins σ (upd H' a (.frz oe (.own a))) { s' with heap:=h6 }:=I.call' (s':={ s' with heap:=h6 }) (ch:=[]) os u6 ok6 bare (fun b z=>absurd z (by simp))
 refine store_ok (X:=X.mk' (.ref a)) (I6.mark (.ref a)) hN hi (.inl hl) (show RelV (.ref a) (.ref a) from rfl) (fun s2 I2=> ?_) (.inr hl)
 refine wpAny_mono (hb (.ref a) pins _ _ _ (D.off i) I2 (ht a oe hn6 hc6.1)) (fun f s3 q=> ?_) (fun _ _ z=>False.elim (by have z:X.xe _ _:=z; rw [hxe] at z; exact z))
 have q:=SP.unmark I.ok q
 cases f with
 | next=>obtain ⟨σ',H1,I3,q⟩:=q; exact goes_ok I3 hN hi hl fun s4 I4=>⟨_,H1,I4,q⟩
 | brk=>obtain ⟨σ',H1,I3,q⟩:=q; exact goes_ok I3 hN hi hl fun s4 I4=>⟨_,H1,I4,q⟩
 | cont=>obtain ⟨σ',H1,I3,q⟩:=q; exact goes_ok I3 hN hi hl fun s4 I4=>⟨_,H1,I4,q⟩
 | ret v=>obtain ⟨v,H1,I3,r,q⟩:=q; exact goes_fin I.ok I3 hl fun s4 I4=>⟨v,H1,I4,r,q⟩
end
theorem ps_tryE {X:Cx} {k i:Nat} {sp:Sp} {x n cx:Str} {cv:Value} {p pos pos' np hpos tpos:Pos} {e:Expr} {es:List Expr} {t:TA} {b0:Stmt} {suite:List Stmt} {th:TS} (hst:X.stack=X.env :: X.outer) (hfr:X.env.frame=some X.env.locals) (hxe:X.xe=fun _ _=>False)
  (hN:X.N.Nodup) (hi:X.N[i]? =some n) (hl:X.env.scope.names.lookup n=some .local) (h:FnAt X.prog X.w X.K X.mg X.base (CX1 X.prog X.w) k x sp) (hr:Room k X.A) (hg:Gl X x) (ha:PA X (e :: es) t) (hgc:Gl X cx) (hmc:X.mg cx=some cv) (hb: ∀ e,PSs (X.mk' e) (b0 :: suite) th)
  (hdb:(x == ("__debug__":Str))=false:=by decide) (hdc:(cx == ("__debug__":Str))=false:=by decide) (he:starEach (e :: es) X.env=(false,eval e X.env) :: starEach es X.env:=by rfl) (hpl:(backTo pos (starEach es X.env)).any (·.1)=false:=by rfl)
  (hs:swapsWith (.Call (.Name x p) (e :: es) [] pos) none pos'.line X.env=pure false:=by rfl) :
  PS X (.Try [.Expr (.Call (.Name x p) (e :: es) [] pos) pos'] [.ExceptHandler (some (.Name cx np)) (some n) (b0 :: suite) hpos] [] [] tpos)
   (fun D σ H=>t σ H fun vs H1=>sp vs H1 (fun v H2=>D.nx σ H2) (fun c _ H2=> ∃ C,c= .ref C/\PySem.W.exmOne X.K (.ref C) cv=some true/\ ∀ a ob,H2 a=none->ob.cls= .ref C->th (D.off i) (σ.set i (some (.ref a))) (upd H2 a (.frz ob (.own a))))):=by
 intro pins s σ H D I hq
 refine wpAny_Try_except (wpAny_execs_cons (wpAny_mono (wpAny_Expr_any (Q:=fun f s1=>SP X pins D f s1) (thn (call_at h hr hg hxe ha (fun H1 s1 e1 s' I1 z=>catch_as hst hfr hxe hgc hmc hdc hN hi hl hb (fun c o H2 z=>z) I1 z) I hq hdb he hpl) fun v s1 ⟨z,H1,I1,r1,q1⟩=>⟨σ,H1,I1,q1⟩) I.quiet hs) (fun f s1 q=> ?_) fun _ _ z=>z))
 cases f with
 | next=>exact wpAny_execs_nil (wpAny_execs_nil q)
 | brk=>exact q
 | cont=>exact q
 | ret u=>exact q
end L2
namespace DN
open PySem PySem.Spec PyProof.Rows L2
section
variable {K:Fg} {G:Pg} {H H':Hp} {A A':Av} {c:Fr} {ow:Ows} {ps:PSt} {σ :L2.St}
theorem RepS.setA (R:RepS K G c H ow ps σ) {i:Nat} {y:Sl} {v:Option V} (r:i < ps.length->SlAt K G c ps.length H (av c (offW ps.length ow i)) (offW ps.length ow i) i y v):RepS K G c H (offW ps.length ow i) (ps.set i y) (σ.set i v):=by
 have k:Kp K G H (av c ow) H (av c (offW ps.length ow i)):=Kp.weak av_off
 refine ⟨by simp [R.len],R.same,R.lent,R.a0,R.b0,fun j p e=> ?_,fun j j' p e e'=> ?_,fun j p h=> ?_,fun j x o e1 e2=> ?_⟩
 ·unfold offW at e; split at e
  ·cases e
  ·exact R.fresh j p e
 ·unfold offW at e e'
  split at e
  ·cases e
  ·split at e'
   ·cases e'
   ·exact R.inj j j' p e e'
 ·unfold offW at h; split at h
  ·cases h
  ·rw [List.length_set]; exact R.out j p h
 ·rw [List.length_set]
  by_cases hj:j=i
  ·subst hj
   have hl:j < ps.length:=by
    have:=(List.getElem?_eq_some_iff.mp e1).1
    simpa using this
   rw [List.getElem?_set_self hl] at e1
   rw [List.getElem?_set_self (by rw [<- R.len]; exact hl)] at e2
   cases e1; cases e2
   exact r hl
  ·rw [List.getElem?_set_ne (fun z=>hj z.symm)] at e1 e2
   have eo:offW ps.length ow i j=ow j:=by unfold offW; rw [if_neg (fun z=>hj z.1)]
   exact (R.slot j x o e1 e2).keep R.b0 R.same R.same k eo off_vx (fun _ _=>rfl) (fun _ _ _ _=>rfl) (fun _ _=>rfl)
theorem RepS.gone (R:RepS K G c H ow ps σ) (i:Nat):RepS K G c H (offW ps.length ow i) (ps.set i .no) (σ.set i none) :=
 R.setA fun h=>by show offW ps.length ow i i=none; unfold offW; rw [if_pos ⟨rfl,h⟩]
def offR (i:Nat):Rs->Rs
 | .nx ps=> .nx (ps.set i .no)
 | .brk ps=> .brk (ps.set i .no)
 | .cnt ps=> .cnt (ps.set i .no)
 | r=>r
theorem ends_off {D:Ends} {i:Nat} {r:Rs} (h:EndsAt K G c H A D (offR i r)):EndsAt K G c H A (D.off i) r:=by
 cases r with
 | nx ps=>exact fun σ H' ow R k=>h _ _ _ (R.gone i) (k.trans (Kp.weak av_off))
 | brk ps=>exact fun σ H' ow R k=>h _ _ _ (R.gone i) (k.trans (Kp.weak av_off))
 | cnt ps=>exact fun σ H' ow R k=>h _ _ _ (R.gone i) (k.trans (Kp.weak av_off))
 | ret w=>exact h
 | retn w=>exact h
 | reti w x=>exact h
 | bad=>exact h
 | exc k=>exact h
end
section
variable {X:Cx} {G:Pg} {e:Expr} {es:List Expr} {d:DA} {ds:DS} {da:DP} {pos p:Pos} {x:Str} {i:Nat} {ms:List Bool}
def sTryE (g:List PV->Rx PV) (d:DA) (i:Nat) (ks:List Nat) (dh:DS):DS:=fun ps=>(d ps).st fun ws=>match g ws with | .ok _=> .nx ps | .exc k=>if ks.contains k then offR i (dh (ps.set i (.v (.exn k)))) else .bad | .bad=> .bad
theorem s_tryE {g:List PV->Rx PV} {n cx:Str} {cv:Value} {pos' np hpos tpos:Pos} {b0:Stmt} {suite:List Stmt} {m:Nat} (ks:List Nat) (hst:X.stack=X.env :: X.outer) (hfr:X.env.frame=some X.env.locals) (hxe:X.xe=fun _ _=>False)
  (hN:X.N.Nodup) (hi:X.N[i]? =some n) (hl:X.env.scope.names.lookup n=some .local) (h:FnAt X.prog X.w X.K X.mg X.base (CX1 X.prog X.w) m x (spX X.K G ms g)) (hr:Room m X.A) (hg:Gl X x) (ha:JA X G ms (e :: es) d) (hgc:Gl X cx) (hmc:X.mg cx=some cv)
  (hks: ∀ k,ks.contains k=true->PySem.W.exmOne X.K (eA G k) cv=some true) (hb: ∀ e,JSs (X.mk' e) G (b0 :: suite) ds)
  (hdb:(x == ("__debug__":Str))=false:=by decide) (hdc:(cx == ("__debug__":Str))=false:=by decide) (he:starEach (e :: es) X.env=(false,eval e X.env) :: starEach es X.env:=by rfl) (hpl:(backTo pos (starEach es X.env)).any (·.1)=false:=by rfl)
  (hs:swapsWith (.Call (.Name x p) (e :: es) [] pos) none pos'.line X.env=pure false:=by rfl) :
  JS X G (.Try [.Expr (.Call (.Name x p) (e :: es) [] pos) pos'] [.ExceptHandler (some (.Name cx np)) (some n) (b0 :: suite) hpos] [] [] tpos) (sTryE g d i ks ds) :=
 impS (ps_tryE (th:=tD X.K G ds) hst hfr hxe hN hi hl h hr hg ha hgc hmc hb hdb hdc he hpl hs) fun D σ H ⟨c,ow,ps,R,q⟩=>by
  obtain ⟨ws,e1,q⟩:=ends_st q
  refine ⟨c,ow,ps,ws,R,e1,fun vs H1 s1 r1=>⟨av c ow,ws,(R.grow s1).used,r1,?_⟩⟩
  cases eg:g ws with
  | ok w =>
   rw [eg] at q
   exact fun v H' s r=>q _ _ _ ((R.grow s1).grow s) (Kp.of_same (s1.trans s))
  | bad=>rw [eg] at q; exact q.elim
  | exc c' =>
   rw [eg] at q
   have q2:EndsAt X.K G c H (av c ow) D (if ks.contains c' then offR i (ds (ps.set i (.v (.exn c')))) else .bad):=q
   by_cases hk:ks.contains c'=true
   ·rw [if_pos hk] at q2
    refine fun H' s=>⟨_,rfl,hks c' hk,fun a ob hn hc=> ?_⟩
    have s3:=same_upd hn (.frz ob (.own a))
    exact ⟨c,_,_,(((R.grow s1).grow s).grow s3).setV (w:= .exn c') (v:= .ref a) ⟨a,ob,.own a,rfl,upd_same,hc⟩,(ends_off q2).mono ((Kp.of_same ((s1.trans s).trans s3)).trans (Kp.weak av_off))⟩
   ·rw [if_neg hk] at q2
    exact q2.elim
structure XcK (K:Fg) (C:Addr):Prop extends XKit K C where
 gt:PySem.W.findIn K (.ref C) "__getattr__"=some none
structure IsiX (K:Fg) (G:Pg) (cv:Value) (l:List (Nat × Bool)) (nb:Option Bool):Prop where
 kit: ∀ k b,l.lookup k=some b->PySem.W.kitOne K (eA G k) cv=some b/\XcK K (G.cA (1000 + k))
 non: ∀ b,nb=some b->PySem.W.kitOne K (.type "NoneType") cv=some b
def fIsiX (l:List (Nat × Bool)) (nb:Option Bool):PV->Rx PV
 | .exn k=>match l.lookup k with | some b=> .ok (.bl b) | none=> .bad
 | .non=>match nb with | some b=> .ok (.bl b) | none=> .bad
 | _=> .bad
theorem call_isiX (cv:Value) (l:List (Nat × Bool)) (nb:Option Bool) (ok:IsiX X.K G cv l nb):CallR X (.builtin "isinstance") (fun xs H Q=> ∃ A w v c b,xs=[v,c]/\(∀ u,RelV c u->u=cv)/\RepB X.K G H A w v/\fIsiX l nb w= .ok (.bl b)/\Q (.bl b) H):=by
 intro pins s σ H xs us Q I r h
 obtain ⟨A,w,v,c,b,rfl,hc,rw',hl,q⟩:=h
 obtain ⟨u,u',rfl,ru,rc⟩:=vals2 r
 obtain rfl:=hc _ rc
 have fin: ∀ tk,EP X pins σ Q (.bool b) { s with toks:=tk }:=fun tk=>⟨.bl b,H,I.tok tk,rfl,q⟩
 cases w with
 | non =>
  unfold fIsiX at hl
  cases nb with
  | none=>cases hl
  | some b' =>
   cases hl
   rw [rw'.non] at ru
   exact isinst_ok I ru .non (ok.non _ rfl) fin
 | exn k =>
  obtain ⟨a,o,w,rfl,hH,hcl⟩:=rw'.exn
  cases (show u=Value.ref a from ru)
  have hl:(match l.lookup k with | some b=>Rx.ok (PV.bl b) | none=> .bad)= .ok (.bl b):=hl
  cases e:l.lookup k with
  | none=>rw [e] at hl; cases hl
  | some b' =>
   rw [e] at hl; cases hl
   obtain ⟨h1,h2⟩:=ok.kit k b e
   obtain ⟨h3,_⟩:=(show ObjOk X.prog X.w H s.heap a (.frz o w) from I.hok a _ hH)
   exact PySem.W.kia_one (kitx_exc h2.toXKit h2.gt) I.kIn ⟨o,h3,hcl⟩ h1 (fun z=>nomatch z) fin
 | _=>cases hl
def dIsiX (l:List (Nat × Bool)) (nb:Option Bool) (d:DP):DP:=fun ps=>(d ps).bind (fIsiX l nb)
theorem fIsiX_bl {l:List (Nat × Bool)} {nb:Option Bool} {w x:PV} (h:fIsiX l nb w= .ok x): ∃ b,x= .bl b:=by
 unfold fIsiX at h
 split at h
 ·split at h
  ·cases h; exact ⟨_,rfl⟩
  ·cases h
 ·split at h
  ·cases h; exact ⟨_,rfl⟩
  ·cases h
 ·cases h
theorem p_isiX {ce:Expr} {cvv:V} {cv:Value} {l:List (Nat × Bool)} {nb:Option Bool} (hg:Gl X "isinstance") (hm:X.mg "isinstance"=none) (ok:IsiX X.K G cv l nb) (hcv: ∀ u,RelV cvv u->u=cv) (ha:JB X G e da) (hc:PE X ce (tC cvv))
  (he:starEach [e,ce] X.env=(false,eval e X.env) :: starEach [ce] X.env:=by rfl) (he2:starEach [ce] X.env=(false,eval ce X.env) :: starEach [] X.env:=by rfl) (hpl:(backTo pos (starEach [ce] X.env)).any (·.1)=false:=by rfl) :
  JP X G (.Call (.Name "isinstance" p) [e,ce] [] pos) (dIsiX l nb da) :=
 imp (pe_callB (call_isiX cv l nb ok) hg hm boot_isinstance (pa_cons ha (pa_cons hc pa_nil he2) he) (by decide) (by decide) he hpl) fun σ H Q ⟨c,ow,ps,w,R,e,q⟩=>by
  obtain ⟨x,e1,e2⟩:=bind_ok e
  obtain ⟨b,rfl⟩:=fIsiX_bl e2
  exact ⟨c,ow,ps,x,R,e1,fun v H' s r=>⟨_,x,v,cvv,b,rfl,hcv,r,e2,q _ H' s rfl⟩⟩
end
section
variable {P:Program} {w:World} {K:Fg} {mg:Str->Option Value} {base:Bs} {G:Pg} {n:Nat} {m:Str} {ms:List Bool}
theorem mox_nil {g:Nat->List PV->Rx PV}:MtOX P w K mg base G n m ms [] g:=⟨fun c f h=>by simp at h⟩
theorem mox_cons {g:Nat->List PV->Rx PV} {c fi:Nat} {l:List (Nat × Nat)} (h:MethAt P w K mg base (CX1 P w) n (G.cA c) m (spOX K G ms (g fi))) (hm:m ∉ G.fN c) (r:MtOX P w K mg base G n m ms l g):MtOX P w K mg base G n m ms ((c,fi) :: l) g :=
 ⟨fun c' f' e=>by
  rcases look_cons e with ⟨rfl,rfl⟩ | e
  ·exact ⟨h,hm⟩
  ·exact r.all c' f' e⟩
end
def dCs:List PV->DA
 | []=>dNil
 | w :: ws=>dCons (dC w) (dCs ws)
@[simp] theorem dCs_ok: ∀ (ws:List PV) (ps:PSt),dCs ws ps= .ok ws
 | [],ps=>rfl
 | w :: ws,ps=>by show (dCs ws ps).bind _=_; rw [dCs_ok ws ps]; rfl
end DN
end
section
namespace L2
open PySem PySem.Spec PyProof.Rows
theorem mul_small {x:Str} {n:Int} (h1:x.length<=100) (h2: -100<=n/\n<=100):MulOk x n:=by
 have e:x.length * n.toNat<=10000:=Nat.le_trans (Nat.mul_le_mul h1 (show n.toNat<=100 by omega)) (by decide)
 refine ⟨?_,fun h _=> ?_,fun _ _=> ?_⟩
 ·rw [Bool.or_eq_false_iff]
  exact ⟨decide_eq_false (by omega),decide_eq_false (by omega)⟩
 ·intro z
  have h3:(x.length:Int)<=(2 ^ 63 - 1) / n:=Int.le_ediv_of_mul_le (by omega) (by
   have:(x.length:Int) * n<=100 * 100:=Int.mul_le_mul (by omega) h2.2 (by omega) (by omega)
   omega)
  omega
 ·show PySem.Builtin.Str.tooLong _=false
  unfold PySem.Builtin.Str.tooLong
  have h10:(10000:Nat)<=sizeLine:=by decide
  exact decide_eq_false (by omega)
section
variable {X:Cx}
theorem op_mul_str:OpR X (binaryOp .Mult) (fun x y H Q=> ∃ i n,x= .str i/\y= .int n/\i.length<=100/\(-100<=n/\n<=100)/\Q (.str (Txt.mul i n)) H):=by
 intro pins s σ H x y v u Q I rx ry h
 obtain ⟨i,n,rfl,rfl,h1,h2,q⟩:=h
 obtain ⟨t,rfl⟩:=rx
 obtain ⟨t',rfl⟩:=ry
 exact SB.mul (mul_small h1 h2) fun t' tk=>⟨.str (Txt.mul i n),H,I.tok _,⟨_,rfl⟩,q⟩
end
theorem boot_ValueError:bootBuiltins "ValueError"=some (.type "ValueError"):=by decide +kernel
end L2
namespace DN
open PySem PySem.Spec PyProof.Rows L2
section
variable {X:Cx} {G:Pg} {a b:Expr} {da db:DP} {pos:Pos}
def fMulS:PV->PV->Rx PV
 | .str x,.int n=>if x.length<=100/\(-100<=n/\n<=100) then .ok (.str (Txt.mul x n)) else .bad
 | _,_=> .bad
theorem p_mulS (ha:JB X G a da) (hb:JB X G b db):JP X G (.BinOp a .Mult b pos) (d2 fMulS da db):=p_op op_mul_str (by
 intro H A x y w v u Q hu e r1 r2 q
 cases x <;> try cases e
 cases y <;> try cases e
 rename_i x y
 have e:(if x.length<=100/\(-100<=y/\y<=100) then Rx.ok (PV.str (Txt.mul x y)) else .bad)= .ok w:=e
 split at e
 ·rename_i h; cases e; exact ⟨_,_,r1.str,r2.int,h.1,h.2,q _ H (Same.refl H) rfl⟩
 ·cases e) ha hb
end
theorem ck_nil {p:Nat->Prop}: ∀ k,([]:List Nat).contains k=true->p k:=fun _ h=>by cases h
theorem ck_cons {p:Nat->Prop} {a:Nat} {l:List Nat} (h:p a) (r: ∀ k,l.contains k=true->p k): ∀ k,(a :: l).contains k=true->p k:=fun k e=>by
 rw [List.contains_cons,Bool.or_eq_true] at e
 rcases e with e | e
 ·rw [eq_of_beq e]; exact h
 ·exact r k e
theorem ix_nil {K:Fg} {G:Pg} {cv:Value}:IsiX K G cv [] none:=⟨fun _ _ h=>(by cases h),fun _ h=>(by cases h)⟩
theorem ix_cons {K:Fg} {G:Pg} {cv:Value} {k:Nat} {b:Bool} {l:List (Nat × Bool)} {nb:Option Bool} (h:PySem.W.kitOne K (eA G k) cv=some b) (x:XcK K (G.cA (1000 + k))) (r:IsiX K G cv l nb):IsiX K G cv ((k,b) :: l) nb :=
 ⟨fun k' b' e=>by
  rcases look_cons e with ⟨rfl,rfl⟩ | e
  ·exact ⟨h,x⟩
  ·exact r.kit k' b' e,r.non⟩
end DN
end
section
namespace L2
open PySem PySem.Spec PyProof.Rows
section
variable {X:Cx} {pins:List (Addr × Obj)} {σ :St} {H:Hp} {s:Shared}
theorem catch_raise {E E':XK} {e:Value} {cx dx y:Str} {j j2} {np hpos dp yp cpos kp spos:Pos} {C C2:Addr} {D:Ends} {s':Shared} (hst:X.stack=X.env :: X.outer) (hfr:X.env.frame=some X.env.locals) (hP: ∀ e,PassesOwnAt (model X.prog X.w) (X.A.mark (some e)) X.A X.env X.xe) (hlv:Lv X E')
  (hg:Gl X cx) (hm:X.mg cx=some (.ref C)) (hC:ExcF X.K C) (hd:(cx == ("__debug__":Str))=false) (hgD:Gl X dx) (hmD:X.mg dx=some (.ref C2)) (hC2:ExcF X.K C2) (hdD:(dx == ("__debug__":Str))=false) (hpl:(backTo cpos (starEach [.Constant (.str y) j yp] X.env)).any (·.1)=false)
  (hE: ∀ c o H2,E c o H2->c= .ref C/\E' (.ref C2) none H2) (I:Inv X pins σ H s) (h:CX1 X.prog X.w X.stack H s E e s') :
  wpAny (model X.prog X.w) X.A (noteFrame e X.env) (fun _ s2=>wpAny (model X.prog X.w) X.A (setFlight e none) (fun _ s3=>wpAny (model X.prog X.w) X.A (handleBy e X.env [.ExceptHandler (some (.Name cx np)) none [.Raise (some (.Call (.Name dx dp) [.Constant (.str y) j yp] [] cpos)) (some (.Constant .none j2 kp)) spos] hpos]) (SP X pins D) X.xe s3) X.xe s2) X.xe s':=by
 obtain ⟨a,cls,H',h1,rfl,os,bare,u,ok,hf,⟨⟨B,a0,fly,hk⟩,up,cxn⟩,q⟩:=h
 obtain ⟨rfl,ht⟩:=hE _ _ _ q
 have nf: ∀ b ∈ frs X.stack, ∃ o,s.heap.get? b=some o/\H b=none/\ ∀ vs,o.data ≠ .fields vs:=fun b hb=>by
  obtain ⟨_,o,e,d⟩:=I.stack.mem hb
  exact ⟨o,e,I.stkFree b hb,d⟩
 have mv: ∀ h6:Heap,B.StaysIn h6->h1.UpToSlots h6->Inv X pins σ H' { s' with heap:=h6 }:=fun h6 k1 k2=>by
  obtain ⟨u6,ok6⟩:=fly_move k1 k2 hk hf nf u ok
  exact I.call' (s':={ s' with heap:=h6 }) (ch:=[]) os u6 ok6 bare (fun b z=>absurd z (by simp))
 rw [hst] at fly
 refine chn_looks (by rw [<- hst]; exact I.ok.frames) hfr fly cxn fun h4 held4 up4 cx4=> ?_
 refine chn_lands (s:={ s' with heap:=h4 }) held4 cx4 fun h5 fly5 up5 cx5=> ?_
 have I5:=mv h5 fly5.1 ((up.trans up4).trans up5)
 obtain ⟨ob,hob,hobc⟩:=fly5.there
 refine wpAny_handleBy_cons (codeAny_handlers_test ?_) (by intro z; cases z)
 refine ld_glob (X:=X.mk' (.ref a)) (I5.mark (.ref a)) hg hm ?_ hd
 obtain ⟨bm,N,nm,qn,bs,hdct,sn,sub,ab,col,dd,k0,k1,k2,k3,k5,mN,hCo,hN,hni,TL⟩:=(hC.ob I5.kIn).obj
 refine wpAny_excMatches_sub_self hCo hob hobc (TL.hasType (by rfl)) (codeAny_handlers_suite ?_)
 refine chn_again (s:={ s' with heap:=h5 }) fly5 cx5 fun h6 fly6 up6 cx6=> ?_
 have I6:=mv h6 fly6.1 (((up.trans up4).trans up5).trans up6)
 refine wpAny_passesOwnAt (hP _) ?_
 obtain ⟨bm2,N2,nm2,qn2,bs2,hdct2,sn2,sub2,ab2,col2,dd2,r0,r1,r2,r3,r5,mN2,hCo2,hN2,hni2,TL2⟩:=(hC2.ob I6.kIn).obj
 refine wpAny_execs_cons ?_
 refine raise_from (hd:=a) (C:=C2) (nm:=nm2) (q:=qn2) (N:=N2) (bs:=bs2) (bm:=bm2) (hdct:=hdct2) (sn:=sn2) (sub:=sub2) (ab:=ab2) (col:=col2) (dd:=dd2) (k0:=r0) (k1:=r1) (k2:=r2) (k3:=r3) (k5:=r5) PySem.F.excBase_ValueError (TL2.hasType (by rfl)) rfl hpl hni2 ?_
 refine ld_glob (X:=X.mk' (.ref a)) (I6.mark (.ref a)) hgD hmD ⟨rfl,?_⟩ hdD
 refine Calls.evalArgs_plain (Calls.spliced_cons (Calls.Constant_str (k:=j) (pos:=yp) (Calls.spliced_nil ?_)))
 exact ⟨rfl,(by decide:(1:Nat)<=sizeLine),hCo2,hN2,TL2,cx6,fun h' e mk=>hlv pins σ H' { s' with heap:=h6,toks:=s'.toks + 1 } h' e _ (I6.tok _) mk ht⟩
theorem ps_tryRet {k:Nat} {sp:Sp} {E':XK} {x cx dx y:Str} {j j2} {p pos rpos np hpos tpos dp yp cpos kp spos:Pos} {e:Expr} {es:List Expr} {t:TA} {C C2:Addr} (hst:X.stack=X.env :: X.outer) (hfr:X.env.frame=some X.env.locals) (hP: ∀ e,PassesOwnAt (model X.prog X.w) (X.A.mark (some e)) X.A X.env X.xe) (hlv:Lv X E')
  (h:FnAt X.prog X.w X.K X.mg X.base (CX1 X.prog X.w) k x sp) (hr:Room k X.A) (hg:Gl X x) (ha:PA X.nox (e :: es) t) (hgc:Gl X cx) (hmc:X.mg cx=some (.ref C)) (hC:ExcF X.K C) (hgD:Gl X dx) (hmD:X.mg dx=some (.ref C2)) (hC2:ExcF X.K C2)
  (hdb:(x == ("__debug__":Str))=false:=by decide) (hdc:(cx == ("__debug__":Str))=false:=by decide) (hdD:(dx == ("__debug__":Str))=false:=by decide) (he:starEach (e :: es) X.env=(false,eval e X.env) :: starEach es X.env:=by rfl) (hpl:(backTo pos (starEach es X.env)).any (·.1)=false:=by rfl) (hpl2:(backTo cpos (starEach [.Constant (.str y) j yp] X.env)).any (·.1)=false:=by rfl) :
  PS X (.Try [.Return (some (.Call (.Name x p) (e :: es) [] pos)) rpos] [.ExceptHandler (some (.Name cx np)) none [.Raise (some (.Call (.Name dx dp) [.Constant (.str y) j yp] [] cpos)) (some (.Constant .none j2 kp)) spos] hpos] [] [] tpos)
   (fun D σ H=>t σ H fun vs H1=>sp vs H1 (fun v H2=>D.rt v H2) (fun c _ H2=>c= .ref C/\E' (.ref C2) none H2)):=by
 intro pins s σ H D I hq
 refine wpAny_Try_except (wpAny_execs_cons (wpAny_mono (wpAny_Return_some (Q:=fun f s1=>SP X pins D f s1) (thn (call_at (X:=X.nox) h hr hg rfl ha (fun H1 s1 e1 s' I1 z=>catch_raise (D:=D) hst hfr hP hlv hgc hmc hC hdc hgD hmD hC2 hdD hpl2 (fun c o H2 z=>z) I1.unwish z) (I.wish _) hq hdb he hpl) fun v s1 ⟨z,H1,I1,r1,q1⟩=> ?_)) (fun f s1 q=> ?_) fun _ _ z=>z))
 ·exact ⟨z,H1,I1.unwish.fin,r1,q1⟩
 ·cases f with
  | next=>exact wpAny_execs_nil (wpAny_execs_nil q)
  | brk=>exact q
  | cont=>exact q
  | ret u=>exact q
end
end L2
namespace DN
open PySem PySem.Spec PyProof.Rows L2
section
variable {X:Cx} {G:Pg} {E:XK} {e:Expr} {es:List Expr} {d:DA} {x:Str} {ms:List Bool} {p pos:Pos}
def sTryR (g:List PV->Rx PV) (d:DA) (k k2:Nat):DS:=fun ps=>(cutR (d ps)).st fun ws=>match g ws with | .ok w=> .ret w | .exc c=>if c=k then .exc k2 else .bad | .bad=> .bad
theorem sx_tryR {g:List PV->Rx PV} {cx dx y:Str} {j j2} {rpos np hpos tpos dp yp cpos kp spos:Pos} {n:Nat} (k k2:Nat) (hst:X.stack=X.env :: X.outer) (hfr:X.env.frame=some X.env.locals) (hP: ∀ e,PassesOwnAt (model X.prog X.w) (X.A.mark (some e)) X.A X.env X.xe) (hlv:Lv X E)
  (h:FnAt X.prog X.w X.K X.mg X.base (CX1 X.prog X.w) n x (spX X.K G ms g)) (hr:Room n X.A) (hg:Gl X x) (ha:JA X.nox G ms (e :: es) d) (hgc:Gl X cx) (hmc:X.mg cx=some (eA G k)) (hC:ExcF X.K (G.cA (1000 + k))) (hgD:Gl X dx) (hmD:X.mg dx=some (eA G k2)) (hC2:ExcF X.K (G.cA (1000 + k2)))
  (hdb:(x == ("__debug__":Str))=false:=by decide) (hdc:(cx == ("__debug__":Str))=false:=by decide) (hdD:(dx == ("__debug__":Str))=false:=by decide) (he:starEach (e :: es) X.env=(false,eval e X.env) :: starEach es X.env:=by rfl) (hpl:(backTo pos (starEach es X.env)).any (·.1)=false:=by rfl) (hpl2:(backTo cpos (starEach [.Constant (.str y) j yp] X.env)).any (·.1)=false:=by rfl) :
  JSx X G E (.Try [.Return (some (.Call (.Name x p) (e :: es) [] pos)) rpos] [.ExceptHandler (some (.Name cx np)) none [.Raise (some (.Call (.Name dx dp) [.Constant (.str y) j yp] [] cpos)) (some (.Constant .none j2 kp)) spos] hpos] [] [] tpos) (sTryR g d k k2) :=
 impS (ps_tryRet (E':=E) hst hfr hP hlv h hr hg ha hgc hmc hC hgD hmD hC2 hdb hdc hdD he hpl hpl2) fun D σ H ⟨c,ow,ps,R,q⟩=>by
  obtain ⟨ws,e1,q⟩:=ends_cutR q
  refine ⟨c,ow,ps,ws,R,e1,fun vs H1 s1 r1=>⟨av c ow,ws,(R.grow s1).used,r1,?_⟩⟩
  cases eg:g ws with
  | ok w =>
   rw [eg] at q
   exact fun v H' s r=>q v H' (R.same.trans (s1.trans s)) ((Kp.weak fun a z=>Or.inl z).rep r)
  | bad=>rw [eg] at q; exact q.elim
  | exc c' =>
   rw [eg] at q
   have q2:EndsX X.K G E c H (av c ow) D (if c'=k then .exc k2 else .bad):=q
   by_cases hk:c'=k
   ·rw [if_pos hk] at q2
    subst hk
    exact fun H' s=>⟨rfl,q2 H' (R.same.trans (s1.trans s))⟩
   ·rw [if_neg hk] at q2
    exact q2.elim
def tPAx (K:Fg) (G:Pg) (E:XK) (d:DA):TA:=fun σ H Q=> ∃ (c:Fr) (ow:Ows) (ps:PSt),RepS K G c H ow ps σ /\(d ps).at (fun ws=> ∀ vs H',Same H H'->Reps K G H' (av c ow) ws vs->Q vs H') (fun k=> ∀ H',SmL c H'->E (eA G k) none H')
abbrev JPAx (X:Cx) (G:Pg) (E:XK) (es:List Expr) (d:DA):Prop:=PA X es (tPAx X.K G E d)
def dCutP (d:DP):DP:=fun ps=>cutR (d ps)
theorem px_of {da:DP} (h:JP X.nox G e da):JPx X G E e (dCutP da):=imp (PE.nox h) fun σ H Q ⟨c,ow,ps,R,q⟩=>by
 unfold dCutP at q
 cases ed:da ps with
 | bad=>rw [ed] at q; exact q.elim
 | exc k=>rw [ed] at q; exact q.elim
 | ok w=>rw [ed] at q; exact ⟨c,ow,ps,w,R,ed,q⟩
theorem pax_nil:JPAx X G E [] dNil:=impA pa_nil fun σ H Q ⟨c,ow,ps,R,q⟩=>q [] H (Same.refl H) rfl
def dConsX (da:DP) (d:DA):DA:=fun ps=>(da ps).bind fun w=>(d ps).bind fun ws=> .ok (w :: ws)
theorem pax_cons {da:DP} (ha:JPx X G E e da) (hr:JPAx X G E es d) (hs:starEach (e :: es) X.env=(false,eval e X.env) :: starEach es X.env:=by rfl):JPAx X G E (e :: es) (dConsX da d) :=
 impA (pa_cons ha hr hs) fun σ H Q ⟨c,ow,ps,R,q⟩=>⟨c,ow,ps,R,(Rx.at_bind q).imp (fun w q v H1 s1 r1=>⟨c,ow,ps,R.grow s1,(Rx.at_bind q).imp (fun ws q vs H2 s2 r2=>q (v :: vs) H2 (s1.trans s2) ⟨v,vs,rfl,r1.same s2,r2⟩) fun k q=>q⟩) fun k q=>q⟩
def dNewX (c n:Nat) (d:DA):DP:=fun ps=>(d ps).bind fun ws=>if ws.length=n then .ok (.obj c ws) else .bad
theorem px_new {c n k:Nat} (h:NewAt X.prog X.w X.K X.mg X.base x (G.cA c) (G.fN c)) (hr:Room (k + 2) X.A) (hg:Gl X x) (ha:JPAx X G E (e :: es) d) (hl:(G.fN c).length=n) (hdb:(x == ("__debug__":Str))=false:=by decide)
  (he:starEach (e :: es) X.env=(false,eval e X.env) :: starEach es X.env:=by rfl) (hpl:(backTo pos (starEach es X.env)).any (·.1)=false:=by rfl):JPx X G E (.Call (.Name x p) (e :: es) [] pos) (dNewX c n d) :=
 imp (pe_new h hr hg ha hdb he hpl) fun σ H Q ⟨f,ow,ps,R,q⟩=>⟨f,ow,ps,R,(Rx.at_bind q).imp (fun ws q vs H' s r=>by
  have q:(if ws.length=n then Rx.ok (PV.obj c ws) else .bad:Rx PV).at _ _:=q
  split at q
  ·rename_i hn
   refine ⟨by rw [<- r.len,hl]; exact hn,fun y dy n1 n2 ne=> ?_⟩
   have sn:=newI_same (C:=G.cA c) (fs:=(G.fN c).zip vs) n1 n2
   exact q _ _ (s.trans sn) ⟨y,dy,vs,rfl,newI_at,by rw [<- r.len,hl]; exact hn.symm,fun z=>(R.grow s).used y z n1,r.same sn⟩
  ·exact q.elim) fun k q=>q⟩
structure IsiXT (K:Fg) (G:Pg) (cs:List Addr) (l:List (Nat × Bool)) (nb:Option Bool):Prop where
 kit: ∀ k b,l.lookup k=some b->PySem.W.kitAny K (eA G k) (cs.map Value.ref)=some b/\XcK K (G.cA (1000 + k))
 non: ∀ b,nb=some b->PySem.W.kitAny K (.type "NoneType") (cs.map Value.ref)=some b
def tAll (vs:List V):TA:=fun _ H Q=>Q vs H
theorem ta_nil:PA X [] (tAll []):=impA pa_nil fun _ _ _ q=>q
theorem ta_cons {C:Addr} {c:Expr} {vs:List V} (h:PE X c (tC (.ref C))) (r:PA X es (tAll vs)) (hs:starEach (c :: es) X.env=(false,eval c X.env) :: starEach es X.env:=by rfl):PA X (c :: es) (tAll (.ref C :: vs)):=impA (pa_cons h r hs) fun _ _ _ q=>q
theorem refs_vals: ∀ {cs:List Addr} {its:List Value},Vals (cs.map V.ref) its->its=cs.map Value.ref
 | [],its,h=>by cases h; rfl
 | c :: cs,its,h=>by
  cases h with
  | cons r1 rr=>rw [show _=Value.ref c from r1,refs_vals rr]; rfl
theorem call_isiXT (cs:List Addr) (l:List (Nat × Bool)) (nb:Option Bool) (ok:IsiXT X.K G cs l nb):CallR X (.builtin "isinstance") (fun xs H Q=> ∃ A w v tp b,xs=[v,.ref tp]/\H tp=some (.tup (cs.map V.ref))/\RepB X.K G H A w v/\fIsiX l nb w= .ok (.bl b)/\Q (.bl b) H):=by
 intro pins s σ H xs us Q I r h
 obtain ⟨A,w,v,tp,b,rfl,hT,rw',hl,q⟩:=h
 obtain ⟨u,u',rfl,ru,rc⟩:=vals2 r
 obtain rfl:u'=Value.ref tp:=rc
 obtain ⟨its,ri,⟨⟨tc,tdd,td,tsl⟩,h1,h2,n,h3⟩,_⟩:=I.tuple (SqT.of hT)
 simp only at h2 h3
 subst h2 h3
 have ei:its=cs.map Value.ref:=refs_vals ri
 subst ei
 have fin: ∀ tk,EP X pins σ Q (.bool b) { s with toks:=tk }:=fun tk=>⟨.bl b,H,I.tok tk,rfl,q⟩
 cases w with
 | non =>
  unfold fIsiX at hl
  cases nb with
  | none=>cases hl
  | some b' =>
   cases hl
   rw [rw'.non] at ru
   cases (show u=Value.none from ru)
   exact PySem.W.kia_tup PySem.W.kitx_none I.kIn True.intro h1 (ok.non _ rfl) (fun z=>nomatch z) fin
 | exn k =>
  obtain ⟨a,o,w,rfl,hH,hcl⟩:=rw'.exn
  cases (show u=Value.ref a from ru)
  have hl:(match l.lookup k with | some b=>Rx.ok (PV.bl b) | none=> .bad)= .ok (.bl b):=hl
  cases e:l.lookup k with
  | none=>rw [e] at hl; cases hl
  | some b' =>
   rw [e] at hl; cases hl
   obtain ⟨z1,z2⟩:=ok.kit k b e
   obtain ⟨z3,_⟩:=(show ObjOk X.prog X.w H s.heap a (.frz o w) from I.hok a _ hH)
   exact PySem.W.kia_tup (kitx_exc z2.toXKit z2.gt) I.kIn ⟨o,z3,hcl⟩ h1 z1 (fun z=>nomatch z) fin
 | _=>cases hl
theorem p_isiXT {da:DP} {cs:List Addr} {ces:List Expr} {l:List (Nat × Bool)} {nb:Option Bool} {j:Nat} {pt:Pos} (hg:Gl X "isinstance") (hm:X.mg "isinstance"=none) (ok:IsiXT X.K G cs l nb) (hz:cs.length<=1000) (ha:JB X G e da) (hc:PA X ces (tAll (cs.map V.ref)))
  (he:starEach [e,.Tuple ces j pt] X.env=(false,eval e X.env) :: starEach [.Tuple ces j pt] X.env:=by rfl) (he2:starEach [.Tuple ces j pt] X.env=(false,eval (.Tuple ces j pt) X.env) :: starEach [] X.env:=by rfl) (hpl:(backTo pos (starEach [.Tuple ces j pt] X.env)).any (·.1)=false:=by rfl) :
  JP X G (.Call (.Name "isinstance" p) [e,.Tuple ces j pt] [] pos) (dIsiX l nb da) :=
 imp (pe_callB (call_isiXT cs l nb ok) hg hm boot_isinstance (pa_cons ha (pa_cons (pe_tup hc) pa_nil he2) he) (by decide) (by decide) he hpl) fun σ H Q ⟨c,ow,ps,w,R,e,q⟩=>by
  obtain ⟨x,e1,e2⟩:=bind_ok e
  obtain ⟨b,rfl⟩:=fIsiX_bl e2
  refine ⟨c,ow,ps,x,R,e1,fun v H' s r=>⟨by rw [List.length_map]; exact Nat.le_of_lt (small1000 hz),fun tp htp=> ?_⟩⟩
  have s2:=same_upd htp (.tup (cs.map V.ref))
  exact ⟨_,x,v,tp,b,rfl,upd_same,r.same s2,e2,q _ _ (s.trans s2) rfl⟩
end
theorem itx_nil {K:Fg} {G:Pg} {cs:List Addr}:IsiXT K G cs [] none:=⟨fun _ _ h=>(by cases h),fun _ h=>(by cases h)⟩
theorem itx_cons {K:Fg} {G:Pg} {cs:List Addr} {k:Nat} {b:Bool} {l:List (Nat × Bool)} {nb:Option Bool} (h:PySem.W.kitAny K (eA G k) (cs.map Value.ref)=some b) (x:XcK K (G.cA (1000 + k))) (r:IsiXT K G cs l nb):IsiXT K G cs ((k,b) :: l) nb :=
 ⟨fun k' b' e=>by
  rcases look_cons e with ⟨rfl,rfl⟩ | e
  ·exact ⟨h,x⟩
  ·exact r.kit k' b' e,r.non⟩
end DN
end
section
namespace M46
open PySem L2 DN
open PyProof.Rows (boot_isinstance boot_bool boot_int boot_str boot_tuple boot_list boot_dict boot_sum boot_all boot_any boot_abs boot_enumerate boot_min boot_max)
def top (i:Nat):Stmt:=PySem.Challenge.pw_anymeaning_k46_what_is_no_saying.main.body.getD i (.Pass ⟨0,0,0,0⟩)
def fN:Nat->List Str
 | 0=>[]
 | 1=>[]
 | 2=>[]
 | 3=>["name"]
 | 4=>["inner"]
 | 5=>["left","right"]
 | 6=>["left","right"]
 | 7=>[]
 | 8=>["test"]
 | 9=>["before","deed","after"]
 | 10=>["test","deed"]
 | 11=>["words","place"]
 | 12=>["words","place"]
 | _=>[]
theorem fNs_: ∀ k,(fN k).length < 1000
 | 0=>by decide
 | 1=>by decide
 | 2=>by decide
 | 3=>by decide
 | 4=>by decide
 | 5=>by decide
 | 6=>by decide
 | 7=>by decide
 | 8=>by decide
 | 9=>by decide
 | 10=>by decide
 | 11=>by decide
 | 12=>by decide
 | _ + 13=>(by decide:0 < 1000)
abbrev s_z0:Stmt:=top 12
abbrev s_z1:Stmt:=top 27
abbrev s_z2:Stmt:=top 32
abbrev s_z3:Stmt:=top 33
abbrev s_z4:Stmt:=top 35
abbrev s_z5:Stmt:=top 36
abbrev s_z6:Stmt:=top 37
abbrev s_z7:Stmt:=top 38
abbrev s_z8:Stmt:=top 39
abbrev s_z9:Stmt:=top 40
abbrev s_za:Stmt:=top 41
abbrev s_zb:Stmt:=inClass (top 14) 0
abbrev s_zc:Stmt:=inClass (top 14) 1
abbrev s_zd:Stmt:=inClass (top 15) 0
abbrev s_ze:Stmt:=inClass (top 15) 1
abbrev s_zf:Stmt:=inClass (top 16) 1
abbrev s_zg:Stmt:=inClass (top 16) 2
abbrev s_zh:Stmt:=inClass (top 17) 1
abbrev s_zi:Stmt:=inClass (top 17) 2
abbrev s_zj:Stmt:=inClass (top 18) 1
abbrev s_zk:Stmt:=inClass (top 18) 2
abbrev s_zl:Stmt:=inClass (top 19) 1
abbrev s_zm:Stmt:=inClass (top 19) 2
abbrev s_zn:Stmt:=inClass (top 22) 2
abbrev s_zo:Stmt:=inClass (top 23) 2
abbrev s_zp:Stmt:=inClass (top 24) 2
abbrev s_zq:Stmt:=inClass (top 28) 1
abbrev s_zr:Stmt:=inClass (top 28) 2
abbrev s_zs:Stmt:=inClass (top 29) 0
abbrev s_zt:Stmt:=inClass (top 29) 1
abbrev s_zu:Stmt:=inClass (top 29) 2
abbrev s_zv:Stmt:=inClass (top 29) 3
abbrev s_zw:Stmt:=inClass (top 28) 0
def nF:Nat->Nst
 | _=>default
abbrev tC:List (Nat × Nat):=[]
def pg (cA:Nat->Addr):Pg:=⟨cA,fN,nF⟩
abbrev a_after:List (Nat × Nat):=[(9,2)]
abbrev a_before:List (Nat × Nat):=[(9,0)]
abbrev a_deed:List (Nat × Nat):=[(9,1),(10,1)]
abbrev a_inner:List (Nat × Nat):=[(4,0)]
abbrev a_left:List (Nat × Nat):=[(5,0),(6,0)]
abbrev a_name:List (Nat × Nat):=[(3,0)]
abbrev a_place:List (Nat × Nat):=[(11,1),(12,1)]
abbrev a_right:List (Nat × Nat):=[(5,1),(6,1)]
abbrev a_test:List (Nat × Nat):=[(8,0),(10,0)]
abbrev a_words:List (Nat × Nat):=[(11,0),(12,0)]
abbrev q_holds:List (Nat × Nat):=[(1,11),(2,13),(3,15),(4,17),(5,19),(6,21)]
abbrev q_text:List (Nat × Nat):=[(1,12),(2,14),(3,16),(4,18),(5,20),(6,22),(8,23),(9,24),(10,25)]
abbrev i_zC:List (Nat × Bool):=[(0,false),(1,false),(2,false),(3,false),(4,false),(5,false),(6,false),(0 + 10,false),(1 + 10,false),(2 + 10,false),(3 + 10,false),(4 + 10,false),(5 + 10,true),(6 + 10,false),(7 + 10,false),(8 + 10,false),(9 + 10,false),(10 + 10,false),(11 + 10,false),(12 + 10,false)]
abbrev i_zD:List (Nat × Bool):=[(0,false),(1,false),(2,false),(3,false),(4,false),(5,false),(6,false),(0 + 10,false),(1 + 10,false),(2 + 10,false),(3 + 10,false),(4 + 10,false),(5 + 10,false),(6 + 10,true),(7 + 10,false),(8 + 10,false),(9 + 10,false),(10 + 10,false),(11 + 10,false),(12 + 10,false)]
@[simp] theorem fl_after_9 (x0 x1 x2:PV):fldP a_after (.obj 9 [x0,x1,x2])= .ok x2:=rfl
@[simp] theorem fl_before_9 (x0 x1 x2:PV):fldP a_before (.obj 9 [x0,x1,x2])= .ok x0:=rfl
@[simp] theorem fl_deed_9 (x0 x1 x2:PV):fldP a_deed (.obj 9 [x0,x1,x2])= .ok x1:=rfl
@[simp] theorem fl_deed_10 (x0 x1:PV):fldP a_deed (.obj 10 [x0,x1])= .ok x1:=rfl
@[simp] theorem fl_inner_4 (x0:PV):fldP a_inner (.obj 4 [x0])= .ok x0:=rfl
@[simp] theorem fl_left_5 (x0 x1:PV):fldP a_left (.obj 5 [x0,x1])= .ok x0:=rfl
@[simp] theorem fl_left_6 (x0 x1:PV):fldP a_left (.obj 6 [x0,x1])= .ok x0:=rfl
@[simp] theorem fl_name_3 (x0:PV):fldP a_name (.obj 3 [x0])= .ok x0:=rfl
@[simp] theorem fl_place_11 (x0 x1:PV):fldP a_place (.obj 11 [x0,x1])= .ok x1:=rfl
@[simp] theorem fl_place_12 (x0 x1:PV):fldP a_place (.obj 12 [x0,x1])= .ok x1:=rfl
@[simp] theorem fl_right_5 (x0 x1:PV):fldP a_right (.obj 5 [x0,x1])= .ok x1:=rfl
@[simp] theorem fl_right_6 (x0 x1:PV):fldP a_right (.obj 6 [x0,x1])= .ok x1:=rfl
@[simp] theorem fl_test_8 (x0:PV):fldP a_test (.obj 8 [x0])= .ok x0:=rfl
@[simp] theorem fl_test_10 (x0 x1:PV):fldP a_test (.obj 10 [x0,x1])= .ok x0:=rfl
@[simp] theorem fl_words_11 (x0 x1:PV):fldP a_words (.obj 11 [x0,x1])= .ok x0:=rfl
@[simp] theorem fl_words_12 (x0 x1:PV):fldP a_words (.obj 12 [x0,x1])= .ok x0:=rfl
theorem fNs {cA:Nat->Addr}: ∀ k,((pg cA).fN k).length < 1000:=fNs_
abbrev qo_at_end:List (Nat × Nat):=[(11,26),(12,26)]
abbrev qo_passes:List (Nat × Nat):=[(11,27),(12,27)]
abbrev qo_read_both:List (Nat × Nat):=[(12,29)]
abbrev qo_read_bracket:List (Nat × Nat):=[(12,31)]
abbrev qo_read_either:List (Nat × Nat):=[(12,28)]
abbrev qo_read_single:List (Nat × Nat):=[(12,30)]
@[simp] theorem ii_zC_0:isiK i_zC 0= .ok (.bl false):=rfl
@[simp] theorem ii_zC_1:isiK i_zC 1= .ok (.bl false):=rfl
@[simp] theorem ii_zC_2:isiK i_zC 2= .ok (.bl false):=rfl
@[simp] theorem ii_zC_3:isiK i_zC 3= .ok (.bl false):=rfl
@[simp] theorem ii_zC_4:isiK i_zC 4= .ok (.bl false):=rfl
@[simp] theorem ii_zC_5:isiK i_zC 5= .ok (.bl false):=rfl
@[simp] theorem ii_zC_6:isiK i_zC 6= .ok (.bl false):=rfl
@[simp] theorem ii_zC_10:isiK i_zC (0 + 10)= .ok (.bl false):=rfl
@[simp] theorem ii_zC_11:isiK i_zC (1 + 10)= .ok (.bl false):=rfl
@[simp] theorem ii_zC_12:isiK i_zC (2 + 10)= .ok (.bl false):=rfl
@[simp] theorem ii_zC_13:isiK i_zC (3 + 10)= .ok (.bl false):=rfl
@[simp] theorem ii_zC_14:isiK i_zC (4 + 10)= .ok (.bl false):=rfl
@[simp] theorem ii_zC_15:isiK i_zC (5 + 10)= .ok (.bl true):=rfl
@[simp] theorem ii_zC_16:isiK i_zC (6 + 10)= .ok (.bl false):=rfl
@[simp] theorem ii_zC_17:isiK i_zC (7 + 10)= .ok (.bl false):=rfl
@[simp] theorem ii_zC_18:isiK i_zC (8 + 10)= .ok (.bl false):=rfl
@[simp] theorem ii_zC_19:isiK i_zC (9 + 10)= .ok (.bl false):=rfl
@[simp] theorem ii_zC_20:isiK i_zC (10 + 10)= .ok (.bl false):=rfl
@[simp] theorem ii_zC_21:isiK i_zC (11 + 10)= .ok (.bl false):=rfl
@[simp] theorem ii_zC_22:isiK i_zC (12 + 10)= .ok (.bl false):=rfl
@[simp] theorem ii_zD_0:isiK i_zD 0= .ok (.bl false):=rfl
@[simp] theorem ii_zD_1:isiK i_zD 1= .ok (.bl false):=rfl
@[simp] theorem ii_zD_2:isiK i_zD 2= .ok (.bl false):=rfl
@[simp] theorem ii_zD_3:isiK i_zD 3= .ok (.bl false):=rfl
@[simp] theorem ii_zD_4:isiK i_zD 4= .ok (.bl false):=rfl
@[simp] theorem ii_zD_5:isiK i_zD 5= .ok (.bl false):=rfl
@[simp] theorem ii_zD_6:isiK i_zD 6= .ok (.bl false):=rfl
@[simp] theorem ii_zD_10:isiK i_zD (0 + 10)= .ok (.bl false):=rfl
@[simp] theorem ii_zD_11:isiK i_zD (1 + 10)= .ok (.bl false):=rfl
@[simp] theorem ii_zD_12:isiK i_zD (2 + 10)= .ok (.bl false):=rfl
@[simp] theorem ii_zD_13:isiK i_zD (3 + 10)= .ok (.bl false):=rfl
@[simp] theorem ii_zD_14:isiK i_zD (4 + 10)= .ok (.bl false):=rfl
@[simp] theorem ii_zD_15:isiK i_zD (5 + 10)= .ok (.bl false):=rfl
@[simp] theorem ii_zD_16:isiK i_zD (6 + 10)= .ok (.bl true):=rfl
@[simp] theorem ii_zD_17:isiK i_zD (7 + 10)= .ok (.bl false):=rfl
@[simp] theorem ii_zD_18:isiK i_zD (8 + 10)= .ok (.bl false):=rfl
@[simp] theorem ii_zD_19:isiK i_zD (9 + 10)= .ok (.bl false):=rfl
@[simp] theorem ii_zD_20:isiK i_zD (10 + 10)= .ok (.bl false):=rfl
@[simp] theorem ii_zD_21:isiK i_zD (11 + 10)= .ok (.bl false):=rfl
@[simp] theorem ii_zD_22:isiK i_zD (12 + 10)= .ok (.bl false):=rfl
abbrev c_DEEDS:List PV:=[PV.str "P",PV.str "Q",PV.str "R",PV.str "S",PV.str "T"]
abbrev c_LETTERS:List PV:=[PV.str "a",PV.str "b",PV.str "c",PV.str "d"]
abbrev ks_MeaningError:List Nat:=[1,4]
abbrev ix_NoSaying:List (Nat × Bool):=[(1,false),(4,true)]
abbrev ix_ValueError:List (Nat × Bool):=[(1,true),(4,true)]
abbrev it_NoNNoPNoRNoTNoWToo:List (Nat × Bool):=[(1,true),(4,false)]
structure Ct (P:Program) (w:World) (K:Fg) (mg:Str->Option Value) (base:Bs) (cA:Nat->Addr) (ts:List Addr):Prop where
 tb:base.tabs=ts
 c_zx:mg "Test"=some (.ref ((pg cA).cA 0))
 l_zx:ClsF K ((pg cA).cA 0)
 c_zy:mg "Yes"=some (.ref ((pg cA).cA 1))
 l_zy:ClsF K ((pg cA).cA 1)
 c_zz:mg "No"=some (.ref ((pg cA).cA 2))
 l_zz:ClsF K ((pg cA).cA 2)
 c_zA:mg "Named"=some (.ref ((pg cA).cA 3))
 l_zA:ClsF K ((pg cA).cA 3)
 c_zB:mg "Not"=some (.ref ((pg cA).cA 4))
 l_zB:ClsF K ((pg cA).cA 4)
 c_zC:mg "Both"=some (.ref ((pg cA).cA 5))
 l_zC:ClsF K ((pg cA).cA 5)
 c_zD:mg "Either"=some (.ref ((pg cA).cA 6))
 l_zD:ClsF K ((pg cA).cA 6)
 c_zE:mg "Saying"=some (.ref ((pg cA).cA 7))
 l_zE:ClsF K ((pg cA).cA 7)
 c_zF:mg "Nowhere"=some (.ref ((pg cA).cA 8))
 l_zF:ClsF K ((pg cA).cA 8)
 c_zG:mg "Behind"=some (.ref ((pg cA).cA 9))
 l_zG:ClsF K ((pg cA).cA 9)
 c_zH:mg "Through"=some (.ref ((pg cA).cA 10))
 l_zH:ClsF K ((pg cA).cA 10)
 c_zI:mg "WordReader"=some (.ref ((pg cA).cA 11))
 l_zI:ClsF K ((pg cA).cA 11)
 c_zJ:mg "SignReader"=some (.ref ((pg cA).cA 12))
 l_zJ:ClsF K ((pg cA).cA 12)
 xc_NoSaying:mg "NoSaying"=some (eA (pg cA) 4)
 xe_NoSaying:ExcF K ((pg cA).cA (1000 + 4))
 xc_NoTest:mg "NoTest"=some (eA (pg cA) 1)
 xe_NoTest:ExcF K ((pg cA).cA (1000 + 1))
 xm_MeaningError:mg "MeaningError"=some (.ref ((pg cA).cA (1000 + 0)))
 xk_MeaningError: ∀ k,ks_MeaningError.contains k=true->PySem.W.exmOne K (eA (pg cA) k) (.ref ((pg cA).cA (1000 + 0)))=some true
 xm_NoName:mg "NoName"=some (.ref ((pg cA).cA (1000 + 5)))
 xm_NoProgram:mg "NoProgram"=some (.ref ((pg cA).cA (1000 + 2)))
 xm_NoRow:mg "NoRow"=some (.ref ((pg cA).cA (1000 + 6)))
 xm_NoSaying:mg "NoSaying"=some (.ref ((pg cA).cA (1000 + 4)))
 xm_NoTest:mg "NoTest"=some (.ref ((pg cA).cA (1000 + 1)))
 xm_NoWorld:mg "NoWorld"=some (.ref ((pg cA).cA (1000 + 3)))
 xm_TooMuch:mg "TooMuch"=some (.ref ((pg cA).cA (1000 + 7)))
 ix_NoSaying:IsiX K (pg cA) (.ref ((pg cA).cA (1000 + 4))) ix_NoSaying none
 ix_ValueError:IsiX K (pg cA) (.type "ValueError") ix_ValueError none
 it_NoNNoPNoRNoTNoWToo:IsiXT K (pg cA) [(pg cA).cA (1000 + 5),(pg cA).cA (1000 + 2),(pg cA).cA (1000 + 6),(pg cA).cA (1000 + 1),(pg cA).cA (1000 + 3),(pg cA).cA (1000 + 7)] it_NoNNoPNoRNoTNoWToo none
 n_zG:NewAt P w K mg base "Behind" ((pg cA).cA 9) ((pg cA).fN 9)
 n_zC:NewAt P w K mg base "Both" ((pg cA).cA 5) ((pg cA).fN 5)
 n_zD:NewAt P w K mg base "Either" ((pg cA).cA 6) ((pg cA).fN 6)
 n_zA:NewAt P w K mg base "Named" ((pg cA).cA 3) ((pg cA).fN 3)
 k_zz:Mk0 K ((pg cA).cA 2)
 n_zB:NewAt P w K mg base "Not" ((pg cA).cA 4) ((pg cA).fN 4)
 n_zF:NewAt P w K mg base "Nowhere" ((pg cA).cA 8) ((pg cA).fN 8)
 n_zH:NewAt P w K mg base "Through" ((pg cA).cA 10) ((pg cA).fN 10)
 k_zy:Mk0 K ((pg cA).cA 1)
 x_SignReader_words:NoAttr K ((pg cA).cA 12) "words"
 x_SignReader_place:NoAttr K ((pg cA).cA 12) "place"
 f_after:FldOk K (pg cA) "after" a_after
 f_before:FldOk K (pg cA) "before" a_before
 f_deed:FldOk K (pg cA) "deed" a_deed
 f_inner:FldOk K (pg cA) "inner" a_inner
 f_left:FldOk K (pg cA) "left" a_left
 f_name:FldOk K (pg cA) "name" a_name
 f_place:FldOk K (pg cA) "place" a_place
 f_right:FldOk K (pg cA) "right" a_right
 f_test:FldOk K (pg cA) "test" a_test
 f_words:FldOk K (pg cA) "words" a_words
 i_zC:IsiOk K (pg cA) (.ref ((pg cA).cA 5)) i_zC
 i_zD:IsiOk K (pg cA) (.ref ((pg cA).cA 6)) i_zD
 e_DEEDS: ∃ a,mg "DEEDS"=some (.ref a)/\TopT K a [V.str "P",V.str "Q",V.str "R",V.str "S",V.str "T"]
 e_LETTERS: ∃ a,mg "LETTERS"=some (.ref a)/\TopT K a [V.str "a",V.str "b",V.str "c",V.str "d"]
 e_MOST_WORDS: ∃ t,mg "MOST_WORDS"=some (.int (40) t)
 z_ValueError:mg "ValueError"=none
 z_isinstance:mg "isinstance"=none
 z_len:mg "len"=none
 z_list:mg "list"=none
 z_range:mg "range"=none
theorem sc_z0:FnScope ["text"] ["text"] (defScope s_z0):= .q
def d_z0 (g:Nat->List PV->Rx PV):DS :=
 (sRet (d2 fCatS (d2 fCatS (dC (.str "( ")) (dSee 0)) (dC (.str " )"))))
theorem sc_z1:FnScope ["text","words","reader","test"] ["text"] (defScope s_z1):= .q
def d_z1 (g:Nat->List PV->Rx PV):DS :=
 (sSeq (sCut (sSet 1 (dOfN (dSplit (dVar 0) (dC (.str " "))))))
 (sSeq (sIfX (dTr (d2 fGt (dCall bLen (dCons (dSee 1) dNil)) (dC (.int (40)))))
 (sRaise 1)
 sNext)
 (sSeq (sCut (sOwnI 2 (g 32) (dCons (dVar 1) dNil)))
 (sSeq (sSetM 3 (mMethX qo_read_either g 2 dNil))
 (sSeq (sIfMX (mNot (mTr (mMethO qo_at_end g 2 dNil)))
 (sRaise 1)
 sNext)
 (sCut (sRet (dVar 3))))))))
theorem sc_z2:FnScope ["text","parted","pieces","before"] ["text"] (defScope s_z2):= .q
def d_z2 (g:Nat->List PV->Rx PV):DS :=
 (sSeq (sCut (sSet 1 (dPart (dVar 0) (dC (.str " ")))))
 (sSeq (sCut (sSet 2 (dOfN (dSplit (d2 fIx (dSee 1) (dC (.int 2))) (dC (.str " : "))))))
 (sSeq (sIfX (dAndT (dTr (d2 fEq (d2 fIx (dSee 1) (dC (.int 0))) (dC (.str "nowhere")))) (dTr (d2 fEq (dCall bLen (dCons (dSee 2) dNil)) (dC (.int 1)))))
 (sRet (dNewX 8 1 (dConsX (dCallX (g 3) (dCons (d2 fIx (dSee 2) (dC (.int 0))) dNil)) dNil)))
 sNext)
 (sSeq (sIfX (dAndT (dTr (d2 fEq (d2 fIx (dSee 1) (dC (.int 0))) (dC (.str "behind")))) (dAndT (dTr (d2 fEq (dCall bLen (dCons (dSee 2) dNil)) (dC (.int 3)))) (dTr (d2 (fInL false) (d2 fIx (dSee 2) (dC (.int 0))) (dC (.tup c_DEEDS))))))
 (sSeq (sSet 3 (dCallX (g 3) (dCons (d2 fIx (dSee 2) (dC (.int 1))) dNil)))
 (sRet (dNewX 9 3 (dConsX (dCutP (dVar 3)) (dConsX (dCutP (d2 fIx (dSee 2) (dC (.int 0)))) (dConsX (dCallX (g 3) (dCons (d2 fIx (dSee 2) (dC (.int 2))) dNil)) dNil))))))
 sNext)
 (sSeq (sIfX (dAndT (dTr (d2 fEq (d2 fIx (dSee 1) (dC (.int 0))) (dC (.str "through")))) (dAndT (dTr (d2 fEq (dCall bLen (dCons (dSee 2) dNil)) (dC (.int 2)))) (dTr (d2 (fInL false) (d2 fIx (dSee 2) (dC (.int 0))) (dC (.tup c_DEEDS))))))
 (sRet (dNewX 10 2 (dConsX (dCallX (g 3) (dCons (d2 fIx (dSee 2) (dC (.int 1))) dNil)) (dConsX (dCutP (d2 fIx (dSee 2) (dC (.int 0)))) dNil))))
 sNext)
 (sRaise 4))))))
theorem sc_z3:FnScope ["text"] ["text"] (defScope s_z3):= .q
def d_z3 (g:Nat->List PV->Rx PV):DS :=
 (sTryR (g 1) (dCons (dVar 0) dNil) 1 4)
theorem sc_z4:FnScope ["_law_script","_law_k"] ["_law_script","_law_k"] (defScope s_z4):= .q
def d_z4 (g:Nat->List PV->Rx PV):DS :=
 (sSeq (sIf (dTr (d2 fLt (dSee 1) (dCall bLen (dCons (dSee 0) dNil))))
 (sRet (d2 fIx (dSee 0) (dSee 1)))
 sNext)
 (sRet (dC (.int 0))))
theorem sc_z5:FnScope ["_law_cell","_law_k","_law_number"] ["_law_cell","_law_k"] (defScope s_z5):= .q
def d_z5 (g:Nat->List PV->Rx PV):DS :=
 (sSeq (sSet 2 (d2 fMod (d2 fMul (d2 fAdd (d2 fAdd (d2 fMod (dSee 0) (dC (.int 2147483647))) (d2 fMul (dC (.int 7919)) (dSee 1))) (dC (.int 1))) (dC (.int 48271))) (dC (.int 2147483647))))
 (sRet (d2 fMod (d2 fMul (dSee 2) (d2 fAdd (d2 fDiv (dSee 2) (dC (.int 1009))) (dC (.int 69621)))) (dC (.int 2147483647)))))
theorem sc_z6:FnScope ["_law_number","_law_masks","_law_one","_law_two","_law_first","_law_second","_law_way","_law_words"] ["_law_number"] (defScope s_z6):= .q
def d_z6 (g:Nat->List PV->Rx PV):DS :=
 (sSeq (sSet 1 (dOfN (dCons (dC (.int 43690)) (dCons (dC (.int 52428)) (dCons (dC (.int 61680)) (dCons (dC (.int 65280)) dNil))))))
 (sSeq (sSet 2 (d2 fIx (dC (.str "abcd")) (d2 fMod (dSee 0) (dC (.int 4)))))
 (sSeq (sSet 3 (d2 fIx (dC (.str "abcd")) (d2 fMod (d2 fDiv (dSee 0) (dC (.int 4))) (dC (.int 4)))))
 (sSeq (sSet 4 (d2 fIx (dSee 1) (d2 fMod (dSee 0) (dC (.int 4)))))
 (sSeq (sSet 5 (d2 fIx (dSee 1) (d2 fMod (d2 fDiv (dSee 0) (dC (.int 4))) (dC (.int 4)))))
 (sSeq (sSet 6 (d2 fMod (d2 fDiv (dSee 0) (dC (.int 16))) (dC (.int 7))))
 (sSeq (sIf (dTr (d2 fEq (dSee 6) (dC (.int 0))))
 (sRet (dTup (dCons (dVar 2) (dCons (dVar 2) (dCons (dVar 4) dNil)))))
 sNext)
 (sSeq (sIf (dTr (d2 fEq (dSee 6) (dC (.int 1))))
 (sRet (dTup (dCons (d2 fCatS (dC (.str "not ")) (dSee 2)) (dCons (d2 fCatS (dC (.str "not ")) (dSee 2)) (dCons (d2 fXor (dC (.int 65535)) (dSee 4)) dNil)))))
 sNext)
 (sSeq (sIf (dTr (d2 fEq (dSee 6) (dC (.int 2))))
 (sRet (dTup (dCons (d2 fCatS (d2 fCatS (d2 fCatS (d2 fCatS (dC (.str "( ")) (dSee 2)) (dC (.str " and "))) (dSee 3)) (dC (.str " )"))) (dCons (d2 fCatS (d2 fCatS (dSee 2) (dC (.str " and "))) (dSee 3)) (dCons (d2 fAnd (dSee 4) (dSee 5)) dNil)))))
 sNext)
 (sSeq (sIf (dTr (d2 fEq (dSee 6) (dC (.int 3))))
 (sRet (dTup (dCons (d2 fCatS (d2 fCatS (dSee 2) (dC (.str " or not "))) (dSee 3)) (dCons (d2 fCatS (d2 fCatS (dSee 2) (dC (.str " or not "))) (dSee 3)) (dCons (d2 fOr (dSee 4) (d2 fXor (dC (.int 65535)) (dSee 5))) dNil)))))
 sNext)
 (sSeq (sIf (dTr (d2 fEq (dSee 6) (dC (.int 4))))
 (sSeq (sSet 7 (d2 fCatS (d2 fCatS (d2 fCatS (d2 fCatS (dC (.str "not ( ")) (dSee 2)) (dC (.str " or "))) (dSee 3)) (dC (.str " )"))))
 (sRet (dTup (dCons (dVar 7) (dCons (dVar 7) (dCons (d2 fXor (dC (.int 65535)) (d2 fOr (dSee 4) (dSee 5))) dNil))))))
 sNext)
 (sSeq (sIf (dTr (d2 fEq (dSee 6) (dC (.int 5))))
 (sSeq (sSet 7 (d2 fCatS (d2 fCatS (d2 fCatS (d2 fCatS (dC (.str "( ")) (dSee 2)) (dC (.str " or "))) (dSee 3)) (dC (.str " ) and yes"))))
 (sRet (dTup (dCons (dVar 7) (dCons (dVar 7) (dCons (d2 fOr (dSee 4) (dSee 5)) dNil))))))
 sNext)
 (sRet (dTup (dCons (dC (.str "( ( no ) )")) (dCons (dC (.str "no")) (dCons (dC (.int 0)) dNil)))))))))))))))))
theorem sc_z7:FnScope ["_law_text","_law_error","e"] ["_law_text"] (defScope s_z7):= .q
def d_z7 (g:Nat->List PV->Rx PV):DS :=
 (sSeq (sSet 1 (dC .non))
 (sSeq (sTryE (g 2) (dCons (dVar 0) dNil) 2 ks_MeaningError (sSet 1 (dVar 2)))
 (sSeq (sIf (dTr (dIsiX it_NoNNoPNoRNoTNoWToo none (dSee 1)))
 (sRet (dC (.bl false)))
 sNext)
 (sRet (dAndV (dIsiX ix_NoSaying none (dSee 1)) (dIsiX ix_ValueError none (dSee 1)))))))
theorem sc_z8:FnScope ["_law_one","_law_letter","_law_two","_law_way","_law_head","_law_some_here"] ["_law_one","_law_letter","_law_two","_law_way"] (defScope s_z8):= .q
def d_z8 (g:Nat->List PV->Rx PV):DS :=
 (sSeq (sSet 4 (d2 fCatS (d2 fCatS (dC (.str "behind ")) (dSee 1)) (dC (.str " : "))))
 (sSeq (sSet 5 (dOfN (dCons (dC (.str "")) (dCons (dC (.str "nowhere")) (dCons (dC (.str "nowhere ")) (dCons (dC (.str "behind")) (dCons (d2 fCatS (dC (.str "through ")) (dSee 1)) (dCons (d2 fCatS (d2 fCatS (dC (.str "through ")) (dSee 1)) (dC (.str " : "))) dNil))))))))
 (sSeq (sSet 5 (dOfN (dCatL (dSee 5) (dOfN (dCons (d2 fCatS (dSee 4) (dSee 0)) (dCons (d2 fCatS (d2 fCatS (dSee 4) (dSee 0)) (dC (.str " : "))) (dCons (d2 fCatS (d2 fCatS (dSee 4) (dC (.str " : "))) (dSee 2)) dNil)))))))
 (sSeq (sSet 5 (dOfN (dCatL (dSee 5) (dOfN (dCons (d2 fCatS (d2 fCatS (d2 fCatS (d2 fCatS (d2 fCatS (dSee 4) (dSee 0)) (dC (.str " : "))) (dSee 2)) (dC (.str " : "))) (dSee 0)) dNil)))))
 (sSeq (sSet 5 (dOfN (dCatL (dSee 5) (dOfN (dCons (d2 fCatS (d2 fCatS (d2 fCatS (d2 fCatS (d2 fCatS (dC (.str "behind ")) (dSee 0)) (dC (.str " : "))) (dSee 1)) (dC (.str " : "))) (dSee 2)) dNil)))))
 (sSeq (sSet 5 (dOfN (dCatL (dSee 5) (dOfN (dCons (d2 fCatS (d2 fCatS (d2 fCatS (d2 fCatS (d2 fCatS (dC (.str "behind  ")) (dSee 1)) (dC (.str " : "))) (dSee 0)) (dC (.str " : "))) (dSee 2)) (dCons (d2 fCatS (d2 fCatS (d2 fCatS (dC (.str "behind U : ")) (dSee 0)) (dC (.str " : "))) (dSee 2)) dNil))))))
 (sSeq (sSet 5 (dOfN (dCatL (dSee 5) (dOfN (dCons (d2 fCatS (d2 fCatS (d2 fCatS (dC (.str "behind p : ")) (dSee 0)) (dC (.str " : "))) (dSee 2)) (dCons (d2 fCatS (d2 fCatS (d2 fCatS (dSee 4) (dSee 0)) (dC (.str ": "))) (dSee 2)) (dCons (d2 fCatS (dC (.str "through PQ : ")) (dSee 0)) dNil)))))))
 (sSeq (sSet 5 (dOfN (dCatL (dSee 5) (dOfN (dCons (d2 fCatS (d2 fCatS (d2 fCatS (dC (.str "through ")) (dSee 0)) (dC (.str " : "))) (dSee 1)) (dCons (d2 fCatS (d2 fCatS (d2 fCatS (dC (.str "through ")) (dSee 1)) (dC (.str " "))) (dSee 0)) dNil))))))
 (sSeq (sSet 5 (dOfN (dCatL (dSee 5) (dOfN (dCons (d2 fCatS (d2 fCatS (d2 fCatS (dC (.str "nowhere ")) (dSee 0)) (dC (.str " : "))) (dSee 2)) (dCons (d2 fCatS (dC (.str "Nowhere ")) (dSee 0)) (dCons (dC (.str "nowhere e")) dNil)))))))
 (sSeq (sSet 5 (dOfN (dCatL (dSee 5) (dOfN (dCons (d2 fCatS (d2 fCatS (dC (.str "nowhere ")) (dSee 0)) (dC (.str " and"))) (dCons (d2 fCatS (d2 fCatS (dSee 4) (dC (.str "not : "))) (dSee 2)) (dCons (d2 fCatS (d2 fCatS (dSee 4) (dSee 0)) (dC (.str " : not"))) dNil)))))))
 (sSeq (sSet 5 (dOfN (dCatL (dSee 5) (dOfN (dCons (d2 fCatS (d2 fCatS (dSee 4) (dSee 0)) (dC (.str " : e"))) (dCons (d2 fCatS (d2 fCatS (dC (.str "through ")) (dSee 1)) (dC (.str " : a b"))) dNil))))))
 (sSeq (sSet 5 (dOfN (dCatL (dSee 5) (dOfN (dCons (d2 fCatS (dC (.str "through : ")) (dSee 0)) (dCons (d2 fCatS (dC (.str "where ")) (dSee 0)) (dCons (dVar 0) (dCons (d2 fCatS (dC (.str " nowhere ")) (dSee 0)) (dCons (d2 fCatS (dC (.str "nowhere ")) (dSee 1)) dNil)))))))))
 (sRet (d2 fIx (dSee 5) (d2 fMod (dSee 3) (dCall bLen (dCons (dSee 5) dNil)))))))))))))))))
theorem sc_z9:FnScope ["_law_letter","_law_cell","_law_many","_law_words","_law_some_here","_law_text"] ["_law_letter","_law_cell"] (defScope s_z9):= .q
def d_z9 (g:Nat->List PV->Rx PV):DS :=
 (sSeq (sSet 2 (d2 fAdd (dC (.int 38)) (d2 fMod (dSee 1) (dC (.int 5)))))
 (sSeq (sSet 3 (d2 fCatS (d2 fMulS (dC (.str "not ")) (d2 fSub (dSee 2) (dC (.int 1)))) (d2 fIx (dC (.str "abcd")) (d2 fMod (d2 fDiv (dSee 1) (dC (.int 5))) (dC (.int 4))))))
 (sSeq (sSet 4 (dOfN (dCons (d2 fCatS (dC (.str "nowhere ")) (dSee 3)) (dCons (d2 fCatS (d2 fCatS (d2 fCatS (dC (.str "through ")) (dSee 0)) (dC (.str " : "))) (dSee 3)) dNil))))
 (sSeq (sSet 4 (dOfN (dCatL (dSee 4) (dOfN (dCons (d2 fCatS (d2 fCatS (d2 fCatS (dC (.str "behind ")) (dSee 0)) (dC (.str " : a : "))) (dSee 3)) (dCons (d2 fCatS (d2 fCatS (d2 fCatS (d2 fCatS (dC (.str "behind ")) (dSee 0)) (dC (.str " : "))) (dSee 3)) (dC (.str " : b"))) dNil))))))
 (sSeq (sSet 5 (d2 fIx (dSee 4) (d2 fMod (d2 fDiv (dSee 1) (dC (.int 20))) (dC (.int 4)))))
 (sSeq (sIf (dTr (d2 fGt (dSee 2) (dC (.int 40))))
 (sRet (dCall (g 7) (dCons (dVar 5) dNil)))
 sNext)
 (sRet (d2 fEq (dMeth q_text g (dCall (g 2) (dCons (dVar 5) dNil)) dNil) (dSee 5)))))))))
theorem sc_za:FnScope ["_law_script","_law_one","_law_two","_law_letter","_law_cell","_law_good","_law_bad","_law_places","_law_at"] ["_law_script"] (defScope s_za):= .q
def d_za (g:Nat->List PV->Rx PV):DS :=
 (sSeq (sSet 1 (d2 fIx (dCall (g 6) (dCons (dCall (g 5) (dCons (dCall (g 4) (dCons (dVar 0) (dCons (dC (.int 0)) dNil))) (dCons (dC (.int 1)) dNil))) dNil)) (dC (.int 0))))
 (sSeq (sSet 2 (d2 fIx (dCall (g 6) (dCons (dCall (g 5) (dCons (dCall (g 4) (dCons (dVar 0) (dCons (dC (.int 1)) dNil))) (dCons (dC (.int 2)) dNil))) dNil)) (dC (.int 0))))
 (sSeq (sSet 3 (d2 fIx (dC (.str "PQRST")) (d2 fMod (dCall (g 4) (dCons (dVar 0) (dCons (dC (.int 2)) dNil))) (dC (.int 5)))))
 (sSeq (sSet 4 (dCall (g 4) (dCons (dVar 0) (dCons (dC (.int 3)) dNil))))
 (sSeq (sSet 5 (d2 fCatS (d2 fCatS (d2 fCatS (d2 fCatS (d2 fCatS (dC (.str "behind ")) (dSee 3)) (dC (.str " : "))) (dSee 1)) (dC (.str " : "))) (dSee 2)))
 (sSeq (sIf (dTr (d2 fEq (d2 fMod (d2 fDiv (dSee 4) (dC (.int 24))) (dC (.int 3))) (dC (.int 1))))
 (sSet 5 (d2 fCatS (d2 fCatS (d2 fCatS (dC (.str "through ")) (dSee 3)) (dC (.str " : "))) (dSee 1)))
 sNext)
 (sSeq (sIf (dTr (d2 fEq (d2 fMod (d2 fDiv (dSee 4) (dC (.int 24))) (dC (.int 3))) (dC (.int 2))))
 (sSet 5 (d2 fCatS (dC (.str "nowhere ")) (dSee 1)))
 sNext)
 (sSeq (sIf (dTr (d2 fGt (d2 fMod (dSee 4) (dC (.int 24))) (dC (.int 20))))
 (sRet (dCall (g 9) (dCons (dVar 3) (dCons (d2 fDiv (dSee 4) (dC (.int 24))) dNil))))
 sNext)
 (sSeq (sExpr (dLift (dCall (g 2) (dCons (dVar 5) dNil))))
 (sSeq (sSet 6 (dCall (g 8) (dCons (dVar 1) (dCons (dVar 3) (dCons (dVar 2) (dCons (d2 fDiv (dSee 4) (dC (.int 3))) dNil))))))
 (sSeq (sIf (dTr (d2 fEq (d2 fMod (dSee 4) (dC (.int 3))) (dC (.int 1))))
 (sSeq (sSet 7 (dOfN (dComp ["_law_k"] [("_law_good",5)] (dRng1 (dCons (dCall bLen (dCons (dSee 5) dNil)) dNil)) (gSet 0) (dTr (d2 fEq (d2 fIx (dSee 1) (dSee 0)) (dC (.str " ")))) (dVar 0))))
 (sSeq (sSet 8 (d2 fIx (dSee 7) (d2 fMod (d2 fDiv (dSee 4) (dC (.int 72))) (dCall bLen (dCons (dSee 7) dNil)))))
 (sSet 6 (d2 fCatS (d2 fCatS (dCutS (dVar 5) dO0 (dO1 (dVar 8))) (dC (.str " "))) (dCutS (dVar 5) (dO1 (dVar 8)) dO0)))))
 sNext)
 (sSeq (sIf (dTr (d2 fEq (d2 fMod (dSee 4) (dC (.int 3))) (dC (.int 2))))
 (sSet 6 (d2 fIx (dOfN (dCons (d2 fCatS (dSee 5) (dC (.str " "))) (dCons (d2 fCatS (d2 fCatS (dSee 5) (dC (.str " "))) (dSee 1)) (dCons (d2 fCatS (dC (.str " ")) (dSee 5)) (dCons (d2 fCatS (dSee 5) (dC (.str " :"))) dNil))))) (d2 fMod (d2 fDiv (dSee 4) (dC (.int 3))) (dC (.int 4)))))
 sNext)
 (sSeq (sIf (dNotT (dTr (dCall (g 7) (dCons (dVar 6) dNil))))
 (sRet (dC (.bl false)))
 sNext)
 (sRet (d2 fNe (dMeth q_text g (dCall (g 2) (dCons (dVar 5) dNil)) dNil) (dC (.str "")))))))))))))))))
theorem sc_zb:FnScope ["self","setting"] ["self","setting"] (defScope s_zb):= .q
def d_zb (g:Nat->List PV->Rx PV):DS :=
 (sRet (dC (.bl true)))
theorem sc_zc:FnScope ["self"] ["self"] (defScope s_zc):= .q
def d_zc (g:Nat->List PV->Rx PV):DS :=
 (sRet (dC (.str "yes")))
theorem sc_zd:FnScope ["self","setting"] ["self","setting"] (defScope s_zd):= .q
def d_zd (g:Nat->List PV->Rx PV):DS :=
 (sRet (dC (.bl false)))
theorem sc_ze:FnScope ["self"] ["self"] (defScope s_ze):= .q
def d_ze (g:Nat->List PV->Rx PV):DS :=
 (sRet (dC (.str "no")))
theorem sc_zf:FnScope ["self","setting"] ["self","setting"] (defScope s_zf):= .q
def d_zf (g:Nat->List PV->Rx PV):DS :=
 (sRet (d2 fEq (d2 fAnd (d2 fShr (dSee 1) (dIndex c_LETTERS (dFld a_name (dVar 0)))) (dC (.int 1))) (dC (.int 1))))
theorem sc_zg:FnScope ["self"] ["self"] (defScope s_zg):= .q
def d_zg (g:Nat->List PV->Rx PV):DS :=
 (sRet (dFld a_name (dVar 0)))
theorem sc_zh:FnScope ["self","setting"] ["self","setting"] (defScope s_zh):= .q
def d_zh (g:Nat->List PV->Rx PV):DS :=
 (sRet (dNotV (dMeth q_holds g (dFld a_inner (dVar 0)) (dCons (dVar 1) dNil))))
theorem sc_zi:FnScope ["self","inner"] ["self"] (defScope s_zi):= .q
def d_zi (g:Nat->List PV->Rx PV):DS :=
 (sSeq (sSet 1 (dMeth q_text g (dFld a_inner (dVar 0)) dNil))
 (sSeq (sIf (dTr (dIsiT i_zC i_zD (dFld a_inner (dVar 0))))
 (sSet 1 (dCall (g 0) (dCons (dVar 1) dNil)))
 sNext)
 (sRet (d2 fCatS (dC (.str "not ")) (dSee 1)))))
theorem sc_zj:FnScope ["self","setting"] ["self","setting"] (defScope s_zj):= .q
def d_zj (g:Nat->List PV->Rx PV):DS :=
 (sRet (dAndV (dMeth q_holds g (dFld a_left (dVar 0)) (dCons (dVar 1) dNil)) (dMeth q_holds g (dFld a_right (dVar 0)) (dCons (dVar 1) dNil))))
theorem sc_zk:FnScope ["self","left","right"] ["self"] (defScope s_zk):= .q
def d_zk (g:Nat->List PV->Rx PV):DS :=
 (sSeq (sSet 1 (dMeth q_text g (dFld a_left (dVar 0)) dNil))
 (sSeq (sIf (dTr (dIsi i_zD (dFld a_left (dVar 0))))
 (sSet 1 (dCall (g 0) (dCons (dVar 1) dNil)))
 sNext)
 (sSeq (sSet 2 (dMeth q_text g (dFld a_right (dVar 0)) dNil))
 (sSeq (sIf (dTr (dIsiT i_zC i_zD (dFld a_right (dVar 0))))
 (sSet 2 (dCall (g 0) (dCons (dVar 2) dNil)))
 sNext)
 (sRet (d2 fCatS (d2 fCatS (dSee 1) (dC (.str " and "))) (dSee 2)))))))
theorem sc_zl:FnScope ["self","setting"] ["self","setting"] (defScope s_zl):= .q
def d_zl (g:Nat->List PV->Rx PV):DS :=
 (sRet (dOrV (dMeth q_holds g (dFld a_left (dVar 0)) (dCons (dVar 1) dNil)) (dMeth q_holds g (dFld a_right (dVar 0)) (dCons (dVar 1) dNil))))
theorem sc_zm:FnScope ["self","right"] ["self"] (defScope s_zm):= .q
def d_zm (g:Nat->List PV->Rx PV):DS :=
 (sSeq (sSet 1 (dMeth q_text g (dFld a_right (dVar 0)) dNil))
 (sSeq (sIf (dTr (dIsi i_zD (dFld a_right (dVar 0))))
 (sSet 1 (dCall (g 0) (dCons (dVar 1) dNil)))
 sNext)
 (sRet (d2 fCatS (d2 fCatS (dMeth q_text g (dFld a_left (dVar 0)) dNil) (dC (.str " or "))) (dSee 1)))))
theorem sc_zn:FnScope ["self"] ["self"] (defScope s_zn):= .q
def d_zn (g:Nat->List PV->Rx PV):DS :=
 (sRet (d2 fCatS (dC (.str "nowhere ")) (dMeth q_text g (dFld a_test (dVar 0)) dNil)))
theorem sc_zo:FnScope ["self"] ["self"] (defScope s_zo):= .q
def d_zo (g:Nat->List PV->Rx PV):DS :=
 (sRet (d2 fCatS (d2 fCatS (d2 fCatS (d2 fCatS (d2 fCatS (dC (.str "behind ")) (dFld a_deed (dVar 0))) (dC (.str " : "))) (dMeth q_text g (dFld a_before (dVar 0)) dNil)) (dC (.str " : "))) (dMeth q_text g (dFld a_after (dVar 0)) dNil)))
theorem sc_zp:FnScope ["self"] ["self"] (defScope s_zp):= .q
def d_zp (g:Nat->List PV->Rx PV):DS :=
 (sRet (d2 fCatS (d2 fCatS (d2 fCatS (dC (.str "through ")) (dFld a_deed (dVar 0))) (dC (.str " : "))) (dMeth q_text g (dFld a_test (dVar 0)) dNil)))
theorem sc_zq:FnScope ["self"] ["self"] (defScope s_zq):= .q
def d_zq (g:Nat->List PV->Rx PV):DS :=
 (sRetI (d2 fEq (dFldI a_place 0) (dCall bLen (dCons (dFldI a_words 0) dNil))))
theorem sc_zr:FnScope ["self","word"] ["self","word"] (defScope s_zr):= .q
def d_zr (g:Nat->List PV->Rx PV):DS :=
 (sSeq (sIfM (mOr (mTr (mMethO qo_at_end g 0 dNil)) (mOfT (dTr (d2 fNe (d2 fIx (dFldI a_words 0) (dFldI a_place 0)) (dSee 1)))))
 (sRetI (dC (.bl false)))
 sNext)
 (sSeq (sFldAugI a_place 0 (fun i j=>i + j) (dC (.int 1)))
 (sRetI (dC (.bl true)))))
theorem sc_zs:FnScope ["self","test"] ["self"] (defScope s_zs):= .q
def d_zs (g:Nat->List PV->Rx PV):DS :=
 (sSeq (sSetM 1 (mMethX qo_read_both g 0 dNil))
 (sSeq (sWhileM (fun ps=>cutR ((mTr (mMethO qo_passes g 0 (dCons (dC (.str "or")) dNil))) ps))
 (sSetM 1 (mNew 6 2 (mCons (mCutM (dLift (dVar 1))) (mCons (mMethX qo_read_both g 0 dNil) mNil)))))
 (sCut (sRetI (dVar 1)))))
theorem sc_zt:FnScope ["self","test"] ["self"] (defScope s_zt):= .q
def d_zt (g:Nat->List PV->Rx PV):DS :=
 (sSeq (sSetM 1 (mMethX qo_read_single g 0 dNil))
 (sSeq (sWhileM (fun ps=>cutR ((mTr (mMethO qo_passes g 0 (dCons (dC (.str "and")) dNil))) ps))
 (sSetM 1 (mNew 5 2 (mCons (mCutM (dLift (dVar 1))) (mCons (mMethX qo_read_single g 0 dNil) mNil)))))
 (sCut (sRetI (dVar 1)))))
theorem sc_zu:FnScope ["self","letter"] ["self"] (defScope s_zu):= .q
def b_zu_1 (g:Nat->List PV->Rx PV):DS :=
 (sIfM (mTr (mMethO qo_passes g 0 (dCons (dVar 1) dNil)))
 (sRetI (dNew 3 (dCons (dVar 1) dNil)))
 sNext)
def d_zu (g:Nat->List PV->Rx PV):DS :=
 (sSeq (sCut (sFor (dItemsT (dC (.tup c_LETTERS))) (gSet 1)
 (b_zu_1 g)))
 (sSeq (sCut (sIfM (mTr (mMethO qo_passes g 0 (dCons (dC (.str "yes")) dNil)))
 (sRetI (dC (.obj 1 [])))
 sNext))
 (sSeq (sCut (sIfM (mTr (mMethO qo_passes g 0 (dCons (dC (.str "no")) dNil)))
 (sRetI (dC (.obj 2 [])))
 sNext))
 (sSeq (sIfMX (mTr (mMethO qo_passes g 0 (dCons (dC (.str "not")) dNil)))
 (sRetIM (mNew 4 1 (mCons (mMethX qo_read_single g 0 dNil) mNil)))
 sNext)
 (sSeq (sIfMX (mTr (mMethO qo_passes g 0 (dCons (dC (.str "(")) dNil)))
 (sRetIM (mMethX qo_read_bracket g 0 dNil))
 sNext)
 (sRaise 1))))))
theorem sc_zv:FnScope ["self","test"] ["self"] (defScope s_zv):= .q
def d_zv (g:Nat->List PV->Rx PV):DS :=
 (sSeq (sSetM 1 (mMethX qo_read_either g 0 dNil))
 (sSeq (sIfMX (mNot (mTr (mMethO qo_passes g 0 (dCons (dC (.str ")")) dNil))))
 (sRaise 1)
 sNext)
 (sCut (sRetI (dVar 1)))))
theorem sc_zw:FnScope ["self","words"] ["self","words"] (defScope s_zw):= .q
def d_zw (g:Nat->List PV->Rx PV):DS :=
 (sSeq (sIni 12 0 (dOfN (dCallN bList (dCons (dSee 1) dNil))))
 (sIni 12 1 (dC (.int 0))))
def gF:Nat->Nat->List PV->Rx PV
 | 0,_,_=> .bad
 | n + 1,0,ws=>runD [false] 1 (d_z0 (gF n)) ws
 | n + 1,1,ws=>runD [false] 4 (d_z1 (gF n)) ws
 | n + 1,2,ws=>runD [false] 4 (d_z2 (gF n)) ws
 | n + 1,3,ws=>runD [false] 1 (d_z3 (gF n)) ws
 | n + 1,4,ws=>runD [false,false] 2 (d_z4 (gF n)) ws
 | n + 1,5,ws=>runD [false,false] 3 (d_z5 (gF n)) ws
 | n + 1,6,ws=>runD [false] 8 (d_z6 (gF n)) ws
 | n + 1,7,ws=>runD [false] 3 (d_z7 (gF n)) ws
 | n + 1,8,ws=>runD [false,false,false,false] 6 (d_z8 (gF n)) ws
 | n + 1,9,ws=>runD [false,false] 6 (d_z9 (gF n)) ws
 | n + 1,10,ws=>runD [false] 9 (d_za (gF n)) ws
 | n + 1,11,ws=>runD [false,false] 2 (d_zb (gF n)) ws
 | n + 1,12,ws=>runD [false] 1 (d_zc (gF n)) ws
 | n + 1,13,ws=>runD [false,false] 2 (d_zd (gF n)) ws
 | n + 1,14,ws=>runD [false] 1 (d_ze (gF n)) ws
 | n + 1,15,ws=>runD [false,false] 2 (d_zf (gF n)) ws
 | n + 1,16,ws=>runD [false] 1 (d_zg (gF n)) ws
 | n + 1,17,ws=>runD [false,false] 2 (d_zh (gF n)) ws
 | n + 1,18,ws=>runD [false] 2 (d_zi (gF n)) ws
 | n + 1,19,ws=>runD [false,false] 2 (d_zj (gF n)) ws
 | n + 1,20,ws=>runD [false] 3 (d_zk (gF n)) ws
 | n + 1,21,ws=>runD [false,false] 2 (d_zl (gF n)) ws
 | n + 1,22,ws=>runD [false] 2 (d_zm (gF n)) ws
 | n + 1,23,ws=>runD [false] 1 (d_zn (gF n)) ws
 | n + 1,24,ws=>runD [false] 1 (d_zo (gF n)) ws
 | n + 1,25,ws=>runD [false] 1 (d_zp (gF n)) ws
 | n + 1,26,ws=>runO [] 1 (d_zq (gF n)) ws
 | n + 1,27,ws=>runO [false] 2 (d_zr (gF n)) ws
 | n + 1,28,ws=>runO [] 2 (d_zs (gF n)) ws
 | n + 1,29,ws=>runO [] 2 (d_zt (gF n)) ws
 | n + 1,30,ws=>runO [] 2 (d_zu (gF n)) ws
 | n + 1,31,ws=>runO [] 2 (d_zv (gF n)) ws
 | n + 1,32,ws=>runI 12 2 [false] 2 (d_zw (gF n)) ws
 | _ + 1,_,_=> .bad
theorem g_z0 (n:Nat) (ws:List PV):gF (n + 1) 0 ws=runD [false] 1 (d_z0 (gF n)) ws:=rfl
theorem g_z4 (n:Nat) (ws:List PV):gF (n + 1) 4 ws=runD [false,false] 2 (d_z4 (gF n)) ws:=rfl
theorem g_z5 (n:Nat) (ws:List PV):gF (n + 1) 5 ws=runD [false,false] 3 (d_z5 (gF n)) ws:=rfl
theorem g_z6 (n:Nat) (ws:List PV):gF (n + 1) 6 ws=runD [false] 8 (d_z6 (gF n)) ws:=rfl
theorem j_zJ: ∀ (n:Nat) (ws:List PV) (w:PV),gF n 32 ws= .ok w-> ∃ fs,w= .obj 12 fs
 | 0,ws,w,h=>by cases h
 | n + 1,ws,w,h=>runI_obj h
structure AllF (P:Program) (w:World) (K:Fg) (mg:Str->Option Value) (base:Bs) (cA:Nat->Addr) (n:Nat):Prop where
 h_z0:FnAt P w K mg base CX0 (2 * n + 3) "in_brackets" (spG K (pg cA) [false] (gF n 0))
 h_z1:FnAt P w K mg base CX0 (2 * n + 3) "read_test" (spG K (pg cA) [false] (gF n 1))
 x_z1:FnAt P w K mg base (CX1 P w) (2 * n + 3) "read_test" (spX K (pg cA) [false] (gF n 1))
 h_z2:FnAt P w K mg base CX0 (2 * n + 3) "read_saying" (spG K (pg cA) [false] (gF n 2))
 x_z2:FnAt P w K mg base (CX1 P w) (2 * n + 3) "read_saying" (spX K (pg cA) [false] (gF n 2))
 h_z3:FnAt P w K mg base CX0 (2 * n + 3) "read_piece" (spG K (pg cA) [false] (gF n 3))
 x_z3:FnAt P w K mg base (CX1 P w) (2 * n + 3) "read_piece" (spX K (pg cA) [false] (gF n 3))
 h__law_cell_at:FnAt P w K mg base CX0 (2 * n + 3) "_law_cell_at" (spG K (pg cA) [false,false] (gF n 4))
 h__law_mixed:FnAt P w K mg base CX0 (2 * n + 3) "_law_mixed" (spG K (pg cA) [false,false] (gF n 5))
 h__law_test_words:FnAt P w K mg base CX0 (2 * n + 3) "_law_test_words" (spG K (pg cA) [false] (gF n 6))
 h__law_refused:FnAt P w K mg base CX0 (2 * n + 3) "_law_refused" (spG K (pg cA) [false] (gF n 7))
 h__law_some:FnAt P w K mg base CX0 (2 * n + 3) "_law_some" (spG K (pg cA) [false,false,false,false] (gF n 8))
 h__law_long:FnAt P w K mg base CX0 (2 * n + 3) "_law_long" (spG K (pg cA) [false,false] (gF n 9))
 h_za:FnAt P w K mg base CX0 (2 * n + 3) "law" (spG K (pg cA) [false] (gF n 10))
 m_holds:MtOk P w K mg base (pg cA) (2 * n + 3) "holds" [false] q_holds (gF n)
 m_text:MtOk P w K mg base (pg cA) (2 * n + 3) "text" [] q_text (gF n)
 ox_read_both:MtOX P w K mg base (pg cA) (2 * n + 3) "read_both" [] qo_read_both (gF n)
 ox_read_bracket:MtOX P w K mg base (pg cA) (2 * n + 3) "read_bracket" [] qo_read_bracket (gF n)
 ox_read_either:MtOX P w K mg base (pg cA) (2 * n + 3) "read_either" [] qo_read_either (gF n)
 ox_read_single:MtOX P w K mg base (pg cA) (2 * n + 3) "read_single" [] qo_read_single (gF n)
 o_at_end:MtO P w K mg base (pg cA) (2 * n + 3) "at_end" [] qo_at_end (gF n)
 o_passes:MtO P w K mg base (pg cA) (2 * n + 3) "passes" [false] qo_passes (gF n)
 n_zJ:NewI P w K mg base (pg cA) (2 * n + 3) "SignReader" 12 [false] (gF n 32)
section
variable {P:Program} {w:World} {K:Fg} {mg:Str->Option Value} {base:Bs} {cA:Nat->Addr} {ts:List Addr} {n:Nat} (C:Ct P w K mg base cA ts) (I:AllF P w K mg base cA n)
variable {f:Addr} {cdv:Value} {A:Around} {outer:List Env} {s:Shared} {H:Hp} {E:XK}
include C I
theorem b_z0 (hr:Room (2 * n + 4) (A.deeper (PyProof.Rows.envOfC "in_brackets" (defScope s_z0) s.heap.objs.size f cdv))) :
  JSs (cxOf CX0 P w K mg base ["text"] "in_brackets" (defScope s_z0) f cdv A outer s H E).nox (pg cA) (defBody s_z0) (d_z0 (gF n)):=by
 unfold d_z0
 exact (ss_one (s_ret (p_catS (b_of (p_catS (b_of p_str) (b_var 0))) (b_of p_str))))
theorem b_z1 (hr:Room (2 * n + 4) (A.deeper (PyProof.Rows.envOfC "read_test" (defScope s_z1) s.heap.objs.size f cdv))) :
  JSsx (cxOf (CX1 P w) P w K mg base ["text","words","reader","test"] "read_test" (defScope s_z1) f cdv A outer s H E) (pg cA) E (defBody s_z1) (d_z1 (gF n)):=by
 obtain ⟨_,g_MOST_WORDS⟩:=C.e_MOST_WORDS
 unfold d_z1
 exact (ssx_cons (sx_of (s_set (i:=1) sc_z1.nd rfl (Or.inl rfl) (p_of_n (n_split (p_var 0) p_str))))
 (ssx_cons (sx_if (t_gt (b_of (p_callB call_len cb_len rfl C.z_len PySem.boot_len (a_consB (b_var 1) a_nil))) (b_of (p_topI rfl g_MOST_WORDS)))
 (ssx_one (sx_raise 1 (fun _ _ _ _ _ _ _ I mk z=>raise_leaves I mk z) rfl rfl C.xc_NoTest C.xe_NoTest))
 ssx_nil)
 (ssx_cons (sx_of (s_ownI (i:=2) sc_z1.nd rfl (Or.inl rfl) I.n_zJ hr rfl (a_cons (p_var 1) a_nil) (j_zJ _)))
 (ssx_cons (sx_setM (i:=3) sc_z1.nd rfl (Or.inl rfl) (m_methX0 2 I.ox_read_either hr.s (passX fun _ _ _ z=>z)))
 (ssx_cons (sx_ifM (tm_not (tm_val (m_methO0 2 I.o_at_end hr.s)))
 (ssx_one (sx_raise 1 (fun _ _ _ _ _ _ _ I mk z=>raise_leaves I mk z) rfl rfl C.xc_NoTest C.xe_NoTest))
 ssx_nil)
 (ssx_one (sx_of (s_ret (p_var 3)))))))))
theorem b_z2 (hr:Room (2 * n + 4) (A.deeper (PyProof.Rows.envOfC "read_saying" (defScope s_z2) s.heap.objs.size f cdv))) :
  JSsx (cxOf (CX1 P w) P w K mg base ["text","parted","pieces","before"] "read_saying" (defScope s_z2) f cdv A outer s H E) (pg cA) E (defBody s_z2) (d_z2 (gF n)):=by
 obtain ⟨_,g_DEEDS,t_DEEDS⟩:=C.e_DEEDS
 unfold d_z2
 exact (ssx_cons (sx_of (s_set (i:=1) sc_z2.nd rfl (Or.inl rfl) (p_part (p_var 0) p_str)))
 (ssx_cons (sx_of (s_set (i:=2) sc_z2.nd rfl (Or.inl rfl) (p_of_n (n_split (p_at (b_var 1) (b_of p_int) (fun _ _=>rfl)) p_str))))
 (ssx_cons (sx_if (t_w (w_and (t_eq hr (b_of (p_at (b_var 1) (b_of p_int) (fun _ _=>rfl))) (b_of p_str)) (w_and1 (t_eq hr (b_of (p_callB call_len cb_len rfl C.z_len PySem.boot_len (a_consB (b_var 2) a_nil))) (b_of p_int)))))
 (ssx_one (sx_ret (px_new (k:=2 * n + 2) C.n_zF hr rfl (pax_cons (px_fn I.x_z3 hr.s rfl (passX fun _ _ _ z=>z) (a_cons (p_at (b_var 2) (b_of p_int) (fun _ _=>rfl)) a_nil)) pax_nil) rfl)))
 ssx_nil)
 (ssx_cons (sx_if (t_w (w_and (t_eq hr (b_of (p_at (b_var 1) (b_of p_int) (fun _ _=>rfl))) (b_of p_str)) (w_and (t_eq hr (b_of (p_callB call_len cb_len rfl C.z_len PySem.boot_len (a_consB (b_var 2) a_nil))) (b_of p_int)) (w_and1 (t_inTop (ws:=c_DEEDS) op_in_seq (b_of (p_at (b_var 2) (b_of p_int) (fun _ _=>rfl))) t_DEEDS rfl g_DEEDS (fun _ _=>⟨_,_,rfl,rfl,⟨_,_,rfl,rfl,⟨_,_,rfl,rfl,⟨_,_,rfl,rfl,⟨_,_,rfl,rfl,rfl⟩⟩⟩⟩⟩) rfl)))))
 (ssx_cons (sx_set (i:=3) sc_z2.nd rfl (Or.inl rfl) (px_fn I.x_z3 hr.s rfl (passX fun _ _ _ z=>z) (a_cons (p_at (b_var 2) (b_of p_int) (fun _ _=>rfl)) a_nil)))
 (ssx_one (sx_ret (px_new (k:=2 * n + 2) C.n_zG hr rfl (pax_cons (px_of (p_var 3)) (pax_cons (px_of (p_at (b_var 2) (b_of p_int) (fun _ _=>rfl))) (pax_cons (px_fn I.x_z3 hr.s rfl (passX fun _ _ _ z=>z) (a_cons (p_at (b_var 2) (b_of p_int) (fun _ _=>rfl)) a_nil)) pax_nil))) rfl))))
 ssx_nil)
 (ssx_cons (sx_if (t_w (w_and (t_eq hr (b_of (p_at (b_var 1) (b_of p_int) (fun _ _=>rfl))) (b_of p_str)) (w_and (t_eq hr (b_of (p_callB call_len cb_len rfl C.z_len PySem.boot_len (a_consB (b_var 2) a_nil))) (b_of p_int)) (w_and1 (t_inTop (ws:=c_DEEDS) op_in_seq (b_of (p_at (b_var 2) (b_of p_int) (fun _ _=>rfl))) t_DEEDS rfl g_DEEDS (fun _ _=>⟨_,_,rfl,rfl,⟨_,_,rfl,rfl,⟨_,_,rfl,rfl,⟨_,_,rfl,rfl,⟨_,_,rfl,rfl,rfl⟩⟩⟩⟩⟩) rfl)))))
 (ssx_one (sx_ret (px_new (k:=2 * n + 2) C.n_zH hr rfl (pax_cons (px_fn I.x_z3 hr.s rfl (passX fun _ _ _ z=>z) (a_cons (p_at (b_var 2) (b_of p_int) (fun _ _=>rfl)) a_nil)) (pax_cons (px_of (p_at (b_var 2) (b_of p_int) (fun _ _=>rfl))) pax_nil)) rfl)))
 ssx_nil)
 (ssx_one (sx_raise 4 (fun _ _ _ _ _ _ _ I mk z=>raise_leaves I mk z) rfl rfl C.xc_NoSaying C.xe_NoSaying)))))))
theorem b_z3 (hr:Room (2 * n + 4) (A.deeper (PyProof.Rows.envOfC "read_piece" (defScope s_z3) s.heap.objs.size f cdv))) :
  JSsx (cxOf (CX1 P w) P w K mg base ["text"] "read_piece" (defScope s_z3) f cdv A outer s H E) (pg cA) E (defBody s_z3) (d_z3 (gF n)):=by
 unfold d_z3
 exact (ssx_one (sx_tryR 1 4 rfl rfl (fun _=>PassesOwnAt.leaving) (fun _ _ _ _ _ _ _ I mk z=>raise_leaves I mk z) I.x_z1 hr.s rfl (a_cons (p_var 0) a_nil) rfl C.xc_NoTest C.xe_NoTest rfl C.xc_NoSaying C.xe_NoSaying))
theorem b_z4 (hr:Room (2 * n + 4) (A.deeper (PyProof.Rows.envOfC "_law_cell_at" (defScope s_z4) s.heap.objs.size f cdv))) :
  JSs (cxOf CX0 P w K mg base ["_law_script","_law_k"] "_law_cell_at" (defScope s_z4) f cdv A outer s H E).nox (pg cA) (defBody s_z4) (d_z4 (gF n)):=by
 unfold d_z4
 exact (ss_cons (s_if (t_lt (b_var 1) (b_of (p_callB call_len cb_len rfl C.z_len PySem.boot_len (a_consB (b_var 0) a_nil))))
 (ss_one (s_ret (p_at (b_var 0) (b_var 1) (fun _ _=>rfl))))
 ss_nil)
 (ss_one (s_ret p_int)))
theorem b_z5 (hr:Room (2 * n + 4) (A.deeper (PyProof.Rows.envOfC "_law_mixed" (defScope s_z5) s.heap.objs.size f cdv))) :
  JSs (cxOf CX0 P w K mg base ["_law_cell","_law_k","_law_number"] "_law_mixed" (defScope s_z5) f cdv A outer s H E).nox (pg cA) (defBody s_z5) (d_z5 (gF n)):=by
 unfold d_z5
 exact (ss_cons (s_set (i:=2) sc_z5.nd rfl (Or.inl rfl) (p_mod (b_of (p_mul (b_of (p_add (b_of (p_add (b_of (p_mod (b_var 0) (b_of p_int))) (b_of (p_mul (b_of p_int) (b_var 1))))) (b_of p_int))) (b_of p_int))) (b_of p_int)))
 (ss_one (s_ret (p_mod (b_of (p_mul (b_var 2) (b_of (p_add (b_of (p_div (b_var 2) (b_of p_int))) (b_of p_int))))) (b_of p_int)))))
theorem b_z6 (hr:Room (2 * n + 4) (A.deeper (PyProof.Rows.envOfC "_law_test_words" (defScope s_z6) s.heap.objs.size f cdv))) :
  JSs (cxOf CX0 P w K mg base ["_law_number","_law_masks","_law_one","_law_two","_law_first","_law_second","_law_way","_law_words"] "_law_test_words" (defScope s_z6) f cdv A outer s H E).nox (pg cA) (defBody s_z6) (d_z6 (gF n)):=by
 unfold d_z6
 exact (ss_cons (s_set (i:=1) sc_z6.nd rfl (Or.inl rfl) (p_of_n (n_lst (a_cons p_int (a_cons p_int (a_cons p_int (a_cons p_int a_nil)))))))
 (ss_cons (s_set (i:=2) sc_z6.nd rfl (Or.inl rfl) (p_at (b_of p_str) (b_of (p_mod (b_var 0) (b_of p_int))) (fun _ _=>rfl)))
 (ss_cons (s_set (i:=3) sc_z6.nd rfl (Or.inl rfl) (p_at (b_of p_str) (b_of (p_mod (b_of (p_div (b_var 0) (b_of p_int))) (b_of p_int))) (fun _ _=>rfl)))
 (ss_cons (s_set (i:=4) sc_z6.nd rfl (Or.inl rfl) (p_at (b_var 1) (b_of (p_mod (b_var 0) (b_of p_int))) (fun _ _=>rfl)))
 (ss_cons (s_set (i:=5) sc_z6.nd rfl (Or.inl rfl) (p_at (b_var 1) (b_of (p_mod (b_of (p_div (b_var 0) (b_of p_int))) (b_of p_int))) (fun _ _=>rfl)))
 (ss_cons (s_set (i:=6) sc_z6.nd rfl (Or.inl rfl) (p_mod (b_of (p_div (b_var 0) (b_of p_int))) (b_of p_int)))
 (ss_cons (s_if (t_eq hr (b_var 6) (b_of p_int))
 (ss_one (s_ret (p_tup (a_cons (p_var 2) (a_cons (p_var 2) (a_cons (p_var 4) a_nil))))))
 ss_nil)
 (ss_cons (s_if (t_eq hr (b_var 6) (b_of p_int))
 (ss_one (s_ret (p_tup (a_cons (p_catS (b_of p_str) (b_var 2)) (a_cons (p_catS (b_of p_str) (b_var 2)) (a_cons (p_xor (b_of p_int) (b_var 4)) a_nil))))))
 ss_nil)
 (ss_cons (s_if (t_eq hr (b_var 6) (b_of p_int))
 (ss_one (s_ret (p_tup (a_cons (p_catS (b_of (p_catS (b_of (p_catS (b_of (p_catS (b_of p_str) (b_var 2))) (b_of p_str))) (b_var 3))) (b_of p_str)) (a_cons (p_catS (b_of (p_catS (b_var 2) (b_of p_str))) (b_var 3)) (a_cons (p_and (b_var 4) (b_var 5)) a_nil))))))
 ss_nil)
 (ss_cons (s_if (t_eq hr (b_var 6) (b_of p_int))
 (ss_one (s_ret (p_tup (a_cons (p_catS (b_of (p_catS (b_var 2) (b_of p_str))) (b_var 3)) (a_cons (p_catS (b_of (p_catS (b_var 2) (b_of p_str))) (b_var 3)) (a_cons (p_or (b_var 4) (b_of (p_xor (b_of p_int) (b_var 5)))) a_nil))))))
 ss_nil)
 (ss_cons (s_if (t_eq hr (b_var 6) (b_of p_int))
 (ss_cons (s_set (i:=7) sc_z6.nd rfl (Or.inl rfl) (p_catS (b_of (p_catS (b_of (p_catS (b_of (p_catS (b_of p_str) (b_var 2))) (b_of p_str))) (b_var 3))) (b_of p_str)))
 (ss_one (s_ret (p_tup (a_cons (p_var 7) (a_cons (p_var 7) (a_cons (p_xor (b_of p_int) (b_of (p_or (b_var 4) (b_var 5)))) a_nil)))))))
 ss_nil)
 (ss_cons (s_if (t_eq hr (b_var 6) (b_of p_int))
 (ss_cons (s_set (i:=7) sc_z6.nd rfl (Or.inl rfl) (p_catS (b_of (p_catS (b_of (p_catS (b_of (p_catS (b_of p_str) (b_var 2))) (b_of p_str))) (b_var 3))) (b_of p_str)))
 (ss_one (s_ret (p_tup (a_cons (p_var 7) (a_cons (p_var 7) (a_cons (p_or (b_var 4) (b_var 5)) a_nil)))))))
 ss_nil)
 (ss_one (s_ret (p_tup (a_cons p_str (a_cons p_str (a_cons p_int a_nil))))))))))))))))))
theorem b_z7 (hr:Room (2 * n + 4) (A.deeper (PyProof.Rows.envOfC "_law_refused" (defScope s_z7) s.heap.objs.size f cdv))) :
  JSs (cxOf CX0 P w K mg base ["_law_text","_law_error","e"] "_law_refused" (defScope s_z7) f cdv A outer s H E).nox (pg cA) (defBody s_z7) (d_z7 (gF n)):=by
 unfold d_z7
 exact (ss_cons (s_set (i:=1) sc_z7.nd rfl (Or.inl rfl) p_non)
 (ss_cons (s_tryE (i:=2) ks_MeaningError rfl rfl rfl sc_z7.nd rfl rfl I.x_z2 hr.s rfl (a_cons (p_var 0) a_nil) rfl C.xm_MeaningError C.xk_MeaningError fun _=>(ss_one (s_set (i:=1) sc_z7.nd rfl (Or.inl rfl) (p_var 2))))
 (ss_cons (s_if (t_val (p_isiXT rfl C.z_isinstance C.it_NoNNoPNoRNoTNoWToo (show 6<=1000 by decide) (b_var 1) (ta_cons (pe_globR rfl C.xm_NoName) (ta_cons (pe_globR rfl C.xm_NoProgram) (ta_cons (pe_globR rfl C.xm_NoRow) (ta_cons (pe_globR rfl C.xm_NoTest) (ta_cons (pe_globR rfl C.xm_NoWorld) (ta_cons (pe_globR rfl C.xm_TooMuch) ta_nil))))))))
 (ss_one (s_ret p_bl))
 ss_nil)
 (ss_one (s_ret (p_andV (p_isiX rfl C.z_isinstance C.ix_NoSaying ref_only (b_var 1) (pe_globR rfl C.xm_NoSaying)) (p_one (p_isiX rfl C.z_isinstance C.ix_ValueError ty_only (b_var 1) (pe_type rfl C.z_ValueError boot_ValueError)))))))))
theorem b_z8 (hr:Room (2 * n + 4) (A.deeper (PyProof.Rows.envOfC "_law_some" (defScope s_z8) s.heap.objs.size f cdv))) :
  JSs (cxOf CX0 P w K mg base ["_law_one","_law_letter","_law_two","_law_way","_law_head","_law_some_here"] "_law_some" (defScope s_z8) f cdv A outer s H E).nox (pg cA) (defBody s_z8) (d_z8 (gF n)):=by
 unfold d_z8
 exact (ss_cons (s_set (i:=4) sc_z8.nd rfl (Or.inl rfl) (p_catS (b_of (p_catS (b_of p_str) (b_var 1))) (b_of p_str)))
 (ss_cons (s_set (i:=5) sc_z8.nd rfl (Or.inl rfl) (p_of_n (n_lst (a_cons p_str (a_cons p_str (a_cons p_str (a_cons p_str (a_cons (p_catS (b_of p_str) (b_var 1)) (a_cons (p_catS (b_of (p_catS (b_of p_str) (b_var 1))) (b_of p_str)) a_nil)))))))))
 (ss_cons (s_set (i:=5) sc_z8.nd rfl (Or.inl rfl) (p_of_n (n_cat (b_var 5) (b_of (p_of_n (n_lst (a_cons (p_catS (b_var 4) (b_var 0)) (a_cons (p_catS (b_of (p_catS (b_var 4) (b_var 0))) (b_of p_str)) (a_cons (p_catS (b_of (p_catS (b_var 4) (b_of p_str))) (b_var 2)) a_nil)))))) op_catL)))
 (ss_cons (s_set (i:=5) sc_z8.nd rfl (Or.inl rfl) (p_of_n (n_cat (b_var 5) (b_of (p_of_n (n_lst (a_cons (p_catS (b_of (p_catS (b_of (p_catS (b_of (p_catS (b_of (p_catS (b_var 4) (b_var 0))) (b_of p_str))) (b_var 2))) (b_of p_str))) (b_var 0)) a_nil)))) op_catL)))
 (ss_cons (s_set (i:=5) sc_z8.nd rfl (Or.inl rfl) (p_of_n (n_cat (b_var 5) (b_of (p_of_n (n_lst (a_cons (p_catS (b_of (p_catS (b_of (p_catS (b_of (p_catS (b_of (p_catS (b_of p_str) (b_var 0))) (b_of p_str))) (b_var 1))) (b_of p_str))) (b_var 2)) a_nil)))) op_catL)))
 (ss_cons (s_set (i:=5) sc_z8.nd rfl (Or.inl rfl) (p_of_n (n_cat (b_var 5) (b_of (p_of_n (n_lst (a_cons (p_catS (b_of (p_catS (b_of (p_catS (b_of (p_catS (b_of (p_catS (b_of p_str) (b_var 1))) (b_of p_str))) (b_var 0))) (b_of p_str))) (b_var 2)) (a_cons (p_catS (b_of (p_catS (b_of (p_catS (b_of p_str) (b_var 0))) (b_of p_str))) (b_var 2)) a_nil))))) op_catL)))
 (ss_cons (s_set (i:=5) sc_z8.nd rfl (Or.inl rfl) (p_of_n (n_cat (b_var 5) (b_of (p_of_n (n_lst (a_cons (p_catS (b_of (p_catS (b_of (p_catS (b_of p_str) (b_var 0))) (b_of p_str))) (b_var 2)) (a_cons (p_catS (b_of (p_catS (b_of (p_catS (b_var 4) (b_var 0))) (b_of p_str))) (b_var 2)) (a_cons (p_catS (b_of p_str) (b_var 0)) a_nil)))))) op_catL)))
 (ss_cons (s_set (i:=5) sc_z8.nd rfl (Or.inl rfl) (p_of_n (n_cat (b_var 5) (b_of (p_of_n (n_lst (a_cons (p_catS (b_of (p_catS (b_of (p_catS (b_of p_str) (b_var 0))) (b_of p_str))) (b_var 1)) (a_cons (p_catS (b_of (p_catS (b_of (p_catS (b_of p_str) (b_var 1))) (b_of p_str))) (b_var 0)) a_nil))))) op_catL)))
 (ss_cons (s_set (i:=5) sc_z8.nd rfl (Or.inl rfl) (p_of_n (n_cat (b_var 5) (b_of (p_of_n (n_lst (a_cons (p_catS (b_of (p_catS (b_of (p_catS (b_of p_str) (b_var 0))) (b_of p_str))) (b_var 2)) (a_cons (p_catS (b_of p_str) (b_var 0)) (a_cons p_str a_nil)))))) op_catL)))
 (ss_cons (s_set (i:=5) sc_z8.nd rfl (Or.inl rfl) (p_of_n (n_cat (b_var 5) (b_of (p_of_n (n_lst (a_cons (p_catS (b_of (p_catS (b_of p_str) (b_var 0))) (b_of p_str)) (a_cons (p_catS (b_of (p_catS (b_var 4) (b_of p_str))) (b_var 2)) (a_cons (p_catS (b_of (p_catS (b_var 4) (b_var 0))) (b_of p_str)) a_nil)))))) op_catL)))
 (ss_cons (s_set (i:=5) sc_z8.nd rfl (Or.inl rfl) (p_of_n (n_cat (b_var 5) (b_of (p_of_n (n_lst (a_cons (p_catS (b_of (p_catS (b_var 4) (b_var 0))) (b_of p_str)) (a_cons (p_catS (b_of (p_catS (b_of p_str) (b_var 1))) (b_of p_str)) a_nil))))) op_catL)))
 (ss_cons (s_set (i:=5) sc_z8.nd rfl (Or.inl rfl) (p_of_n (n_cat (b_var 5) (b_of (p_of_n (n_lst (a_cons (p_catS (b_of p_str) (b_var 0)) (a_cons (p_catS (b_of p_str) (b_var 0)) (a_cons (p_var 0) (a_cons (p_catS (b_of p_str) (b_var 0)) (a_cons (p_catS (b_of p_str) (b_var 1)) a_nil)))))))) op_catL)))
 (ss_one (s_ret (p_at (b_var 5) (b_of (p_mod (b_var 3) (b_of (p_callB call_len cb_len rfl C.z_len PySem.boot_len (a_consB (b_var 5) a_nil))))) (fun _ _=>rfl))))))))))))))))
theorem b_z9 (hr:Room (2 * n + 4) (A.deeper (PyProof.Rows.envOfC "_law_long" (defScope s_z9) s.heap.objs.size f cdv))) :
  JSs (cxOf CX0 P w K mg base ["_law_letter","_law_cell","_law_many","_law_words","_law_some_here","_law_text"] "_law_long" (defScope s_z9) f cdv A outer s H E).nox (pg cA) (defBody s_z9) (d_z9 (gF n)):=by
 unfold d_z9
 exact (ss_cons (s_set (i:=2) sc_z9.nd rfl (Or.inl rfl) (p_add (b_of p_int) (b_of (p_mod (b_var 1) (b_of p_int)))))
 (ss_cons (s_set (i:=3) sc_z9.nd rfl (Or.inl rfl) (p_catS (b_of (p_mulS (b_of p_str) (b_of (p_sub (b_var 2) (b_of p_int))))) (b_of (p_at (b_of p_str) (b_of (p_mod (b_of (p_div (b_var 1) (b_of p_int))) (b_of p_int))) (fun _ _=>rfl)))))
 (ss_cons (s_set (i:=4) sc_z9.nd rfl (Or.inl rfl) (p_of_n (n_lst (a_cons (p_catS (b_of p_str) (b_var 3)) (a_cons (p_catS (b_of (p_catS (b_of (p_catS (b_of p_str) (b_var 0))) (b_of p_str))) (b_var 3)) a_nil)))))
 (ss_cons (s_set (i:=4) sc_z9.nd rfl (Or.inl rfl) (p_of_n (n_cat (b_var 4) (b_of (p_of_n (n_lst (a_cons (p_catS (b_of (p_catS (b_of (p_catS (b_of p_str) (b_var 0))) (b_of p_str))) (b_var 3)) (a_cons (p_catS (b_of (p_catS (b_of (p_catS (b_of (p_catS (b_of p_str) (b_var 0))) (b_of p_str))) (b_var 3))) (b_of p_str)) a_nil))))) op_catL)))
 (ss_cons (s_set (i:=5) sc_z9.nd rfl (Or.inl rfl) (p_at (b_var 4) (b_of (p_mod (b_of (p_div (b_var 1) (b_of p_int))) (b_of p_int))) (fun _ _=>rfl)))
 (ss_cons (s_if (t_gt (b_var 2) (b_of p_int))
 (ss_one (s_ret (p_fn I.h__law_refused hr.s rfl (a_cons (p_var 5) a_nil))))
 ss_nil)
 (ss_one (s_ret (p_eq hr (b_of (p_meth0 I.m_text hr.s (p_fn I.h_z2 hr.s rfl (a_cons (p_var 5) a_nil)))) (b_var 5))))))))))
theorem b_za (hr:Room (2 * n + 4) (A.deeper (PyProof.Rows.envOfC "law" (defScope s_za) s.heap.objs.size f cdv))) :
  JSs (cxOf CX0 P w K mg base ["_law_script","_law_one","_law_two","_law_letter","_law_cell","_law_good","_law_bad","_law_places","_law_at"] "law" (defScope s_za) f cdv A outer s H E).nox (pg cA) (defBody s_za) (d_za (gF n)):=by
 unfold d_za
 exact (ss_cons (s_set (i:=1) sc_za.nd rfl (Or.inl rfl) (p_at (b_of (p_fn I.h__law_test_words hr.s rfl (a_cons (p_fn I.h__law_mixed hr.s rfl (a_cons (p_fn I.h__law_cell_at hr.s rfl (a_cons (p_var 0) (a_cons p_int a_nil))) (a_cons p_int a_nil))) a_nil))) (b_of p_int) (fun _ _=>rfl)))
 (ss_cons (s_set (i:=2) sc_za.nd rfl (Or.inl rfl) (p_at (b_of (p_fn I.h__law_test_words hr.s rfl (a_cons (p_fn I.h__law_mixed hr.s rfl (a_cons (p_fn I.h__law_cell_at hr.s rfl (a_cons (p_var 0) (a_cons p_int a_nil))) (a_cons p_int a_nil))) a_nil))) (b_of p_int) (fun _ _=>rfl)))
 (ss_cons (s_set (i:=3) sc_za.nd rfl (Or.inl rfl) (p_at (b_of p_str) (b_of (p_mod (b_of (p_fn I.h__law_cell_at hr.s rfl (a_cons (p_var 0) (a_cons p_int a_nil)))) (b_of p_int))) (fun _ _=>rfl)))
 (ss_cons (s_set (i:=4) sc_za.nd rfl (Or.inl rfl) (p_fn I.h__law_cell_at hr.s rfl (a_cons (p_var 0) (a_cons p_int a_nil))))
 (ss_cons (s_set (i:=5) sc_za.nd rfl (Or.inr rfl) (p_catS (b_of (p_catS (b_of (p_catS (b_of (p_catS (b_of (p_catS (b_of p_str) (b_var 3))) (b_of p_str))) (b_var 1))) (b_of p_str))) (b_var 2)))
 (ss_cons (s_if (t_eq hr (b_of (p_mod (b_of (p_div (b_var 4) (b_of p_int))) (b_of p_int))) (b_of p_int))
 (ss_one (s_set (i:=5) sc_za.nd rfl (Or.inr rfl) (p_catS (b_of (p_catS (b_of (p_catS (b_of p_str) (b_var 3))) (b_of p_str))) (b_var 1))))
 ss_nil)
 (ss_cons (s_if (t_eq hr (b_of (p_mod (b_of (p_div (b_var 4) (b_of p_int))) (b_of p_int))) (b_of p_int))
 (ss_one (s_set (i:=5) sc_za.nd rfl (Or.inr rfl) (p_catS (b_of p_str) (b_var 1))))
 ss_nil)
 (ss_cons (s_if (t_gt (b_of (p_mod (b_var 4) (b_of p_int))) (b_of p_int))
 (ss_one (s_ret (p_fn I.h__law_long hr.s rfl (a_cons (p_var 3) (a_cons (p_div (b_var 4) (b_of p_int)) a_nil)))))
 ss_nil)
 (ss_cons (s_expr (m_of (p_fn I.h_z2 hr.s rfl (a_cons (p_var 5) a_nil))))
 (ss_cons (s_set (i:=6) sc_za.nd rfl (Or.inl rfl) (p_fn I.h__law_some hr.s rfl (a_cons (p_var 1) (a_cons (p_var 3) (a_cons (p_var 2) (a_cons (p_div (b_var 4) (b_of p_int)) a_nil))))))
 (ss_cons (s_if (t_eq hr (b_of (p_mod (b_var 4) (b_of p_int))) (b_of p_int))
 (ss_cons (s_setC (i:=7) sc_za.nd rfl (Or.inl rfl) (own:=["_law_k"]) (caps:=[("_law_good",5)]) ⟨rfl,by decide +kernel,by decide +kernel,⟨⟨rfl,rfl,Or.inl rfl⟩,True.intro⟩,rfl⟩ rfl (s_of_i (i_rng1 rfl C.z_range (a_cons (p_callB call_len cb_len rfl C.z_len PySem.boot_len (a_consB (b_var 5) a_nil)) a_nil))) (fun _ _ _ _=>(g_name (i:=0) (show (["_law_k","_law_good"]:List Str).Nodup by decide +kernel) rfl (Or.inl rfl))) (fun _ _ _ _=>(ts_one (t_eq hr (b_of (p_at (b_var 1) (b_var 0) (fun _ _=>rfl))) (b_of p_str)))) (fun _ _ _ _=>(p_var 0)) gk_set)
 (ss_cons (s_set (i:=8) sc_za.nd rfl (Or.inl rfl) (p_at (b_var 7) (b_of (p_mod (b_of (p_div (b_var 4) (b_of p_int))) (b_of (p_callB call_len cb_len rfl C.z_len PySem.boot_len (a_consB (b_var 7) a_nil))))) (fun _ _=>rfl)))
 (ss_one (s_set (i:=6) sc_za.nd rfl (Or.inl rfl) (p_catS (b_of (p_catS (b_of (p_cutS (p_var 5) o_none (o_some (p_var 8)))) (b_of p_str))) (b_of (p_cutS (p_var 5) (o_some (p_var 8)) o_none)))))))
 ss_nil)
 (ss_cons (s_if (t_eq hr (b_of (p_mod (b_var 4) (b_of p_int))) (b_of p_int))
 (ss_one (s_set (i:=6) sc_za.nd rfl (Or.inl rfl) (p_at (b_of (p_of_n (n_lst (a_cons (p_catS (b_var 5) (b_of p_str)) (a_cons (p_catS (b_of (p_catS (b_var 5) (b_of p_str))) (b_var 1)) (a_cons (p_catS (b_of p_str) (b_var 5)) (a_cons (p_catS (b_var 5) (b_of p_str)) a_nil))))))) (b_of (p_mod (b_of (p_div (b_var 4) (b_of p_int))) (b_of p_int))) (fun _ _=>rfl))))
 ss_nil)
 (ss_cons (s_if (t_not (t_val (p_fn I.h__law_refused hr.s rfl (a_cons (p_var 6) a_nil))))
 (ss_one (s_ret p_bl))
 ss_nil)
 (ss_one (s_ret (p_ne hr (b_of (p_meth0 I.m_text hr.s (p_fn I.h_z2 hr.s rfl (a_cons (p_var 5) a_nil)))) (b_of p_str)))))))))))))))))
theorem b_zb (hr:Room (2 * n + 4) (A.deeper (PyProof.Rows.envOfC "Yes.holds" (defScope s_zb) s.heap.objs.size f cdv))) :
  JSs (cxOf CX0 P w K mg base ["self","setting"] "Yes.holds" (defScope s_zb) f cdv A outer s H E).nox (pg cA) (defBody s_zb) (d_zb (gF n)):=by
 unfold d_zb
 exact (ss_one (s_ret p_bl))
theorem b_zc (hr:Room (2 * n + 4) (A.deeper (PyProof.Rows.envOfC "Yes.text" (defScope s_zc) s.heap.objs.size f cdv))) :
  JSs (cxOf CX0 P w K mg base ["self"] "Yes.text" (defScope s_zc) f cdv A outer s H E).nox (pg cA) (defBody s_zc) (d_zc (gF n)):=by
 unfold d_zc
 exact (ss_one (s_ret p_str))
theorem b_zd (hr:Room (2 * n + 4) (A.deeper (PyProof.Rows.envOfC "No.holds" (defScope s_zd) s.heap.objs.size f cdv))) :
  JSs (cxOf CX0 P w K mg base ["self","setting"] "No.holds" (defScope s_zd) f cdv A outer s H E).nox (pg cA) (defBody s_zd) (d_zd (gF n)):=by
 unfold d_zd
 exact (ss_one (s_ret p_bl))
theorem b_ze (hr:Room (2 * n + 4) (A.deeper (PyProof.Rows.envOfC "No.text" (defScope s_ze) s.heap.objs.size f cdv))) :
  JSs (cxOf CX0 P w K mg base ["self"] "No.text" (defScope s_ze) f cdv A outer s H E).nox (pg cA) (defBody s_ze) (d_ze (gF n)):=by
 unfold d_ze
 exact (ss_one (s_ret p_str))
theorem b_zf (hr:Room (2 * n + 4) (A.deeper (PyProof.Rows.envOfC "Named.holds" (defScope s_zf) s.heap.objs.size f cdv))) :
  JSs (cxOf CX0 P w K mg base ["self","setting"] "Named.holds" (defScope s_zf) f cdv A outer s H E).nox (pg cA) (defBody s_zf) (d_zf (gF n)):=by
 obtain ⟨_,g_LETTERS,t_LETTERS⟩:=C.e_LETTERS
 unfold d_zf
 exact (ss_one (s_ret (p_eq hr (b_of (p_and (b_of (p_shr (b_var 1) (b_of (p_index (ws:=c_LETTERS) t_LETTERS rfl g_LETTERS (fun _ _=>⟨_,_,rfl,rfl,⟨_,_,rfl,rfl,⟨_,_,rfl,rfl,⟨_,_,rfl,rfl,rfl⟩⟩⟩⟩) rfl (p_fld C.f_name (p_var 0) rfl))))) (b_of p_int))) (b_of p_int))))
theorem b_zg (hr:Room (2 * n + 4) (A.deeper (PyProof.Rows.envOfC "Named.text" (defScope s_zg) s.heap.objs.size f cdv))) :
  JSs (cxOf CX0 P w K mg base ["self"] "Named.text" (defScope s_zg) f cdv A outer s H E).nox (pg cA) (defBody s_zg) (d_zg (gF n)):=by
 unfold d_zg
 exact (ss_one (s_ret (p_fld C.f_name (p_var 0) rfl)))
theorem b_zh (hr:Room (2 * n + 4) (A.deeper (PyProof.Rows.envOfC "Not.holds" (defScope s_zh) s.heap.objs.size f cdv))) :
  JSs (cxOf CX0 P w K mg base ["self","setting"] "Not.holds" (defScope s_zh) f cdv A outer s H E).nox (pg cA) (defBody s_zh) (d_zh (gF n)):=by
 unfold d_zh
 exact (ss_one (s_ret (p_notV (p_meth I.m_holds hr.s (p_fld C.f_inner (p_var 0) rfl) (a_cons (p_var 1) a_nil)))))
theorem b_zi (hr:Room (2 * n + 4) (A.deeper (PyProof.Rows.envOfC "Not.text" (defScope s_zi) s.heap.objs.size f cdv))) :
  JSs (cxOf CX0 P w K mg base ["self","inner"] "Not.text" (defScope s_zi) f cdv A outer s H E).nox (pg cA) (defBody s_zi) (d_zi (gF n)):=by
 unfold d_zi
 exact (ss_cons (s_set (i:=1) sc_zi.nd rfl (Or.inl rfl) (p_meth0 I.m_text hr.s (p_fld C.f_inner (p_var 0) rfl)))
 (ss_cons (s_if (t_val (p_isiT rfl C.z_isinstance C.i_zC C.i_zD (b_of (p_fld C.f_inner (p_var 0) rfl)) (pe_globR rfl C.c_zC) (pe_globR rfl C.c_zD)))
 (ss_one (s_set (i:=1) sc_zi.nd rfl (Or.inl rfl) (p_fn I.h_z0 hr.s rfl (a_cons (p_var 1) a_nil))))
 ss_nil)
 (ss_one (s_ret (p_catS (b_of p_str) (b_var 1))))))
theorem b_zj (hr:Room (2 * n + 4) (A.deeper (PyProof.Rows.envOfC "Both.holds" (defScope s_zj) s.heap.objs.size f cdv))) :
  JSs (cxOf CX0 P w K mg base ["self","setting"] "Both.holds" (defScope s_zj) f cdv A outer s H E).nox (pg cA) (defBody s_zj) (d_zj (gF n)):=by
 unfold d_zj
 exact (ss_one (s_ret (p_andV (p_meth I.m_holds hr.s (p_fld C.f_left (p_var 0) rfl) (a_cons (p_var 1) a_nil)) (p_one (p_meth I.m_holds hr.s (p_fld C.f_right (p_var 0) rfl) (a_cons (p_var 1) a_nil))))))
theorem b_zk (hr:Room (2 * n + 4) (A.deeper (PyProof.Rows.envOfC "Both.text" (defScope s_zk) s.heap.objs.size f cdv))) :
  JSs (cxOf CX0 P w K mg base ["self","left","right"] "Both.text" (defScope s_zk) f cdv A outer s H E).nox (pg cA) (defBody s_zk) (d_zk (gF n)):=by
 unfold d_zk
 exact (ss_cons (s_set (i:=1) sc_zk.nd rfl (Or.inl rfl) (p_meth0 I.m_text hr.s (p_fld C.f_left (p_var 0) rfl)))
 (ss_cons (s_if (t_val (p_isi rfl C.z_isinstance C.i_zD ref_only (b_of (p_fld C.f_left (p_var 0) rfl)) (pe_globR rfl C.c_zD)))
 (ss_one (s_set (i:=1) sc_zk.nd rfl (Or.inl rfl) (p_fn I.h_z0 hr.s rfl (a_cons (p_var 1) a_nil))))
 ss_nil)
 (ss_cons (s_set (i:=2) sc_zk.nd rfl (Or.inl rfl) (p_meth0 I.m_text hr.s (p_fld C.f_right (p_var 0) rfl)))
 (ss_cons (s_if (t_val (p_isiT rfl C.z_isinstance C.i_zC C.i_zD (b_of (p_fld C.f_right (p_var 0) rfl)) (pe_globR rfl C.c_zC) (pe_globR rfl C.c_zD)))
 (ss_one (s_set (i:=2) sc_zk.nd rfl (Or.inl rfl) (p_fn I.h_z0 hr.s rfl (a_cons (p_var 2) a_nil))))
 ss_nil)
 (ss_one (s_ret (p_catS (b_of (p_catS (b_var 1) (b_of p_str))) (b_var 2))))))))
theorem b_zl (hr:Room (2 * n + 4) (A.deeper (PyProof.Rows.envOfC "Either.holds" (defScope s_zl) s.heap.objs.size f cdv))) :
  JSs (cxOf CX0 P w K mg base ["self","setting"] "Either.holds" (defScope s_zl) f cdv A outer s H E).nox (pg cA) (defBody s_zl) (d_zl (gF n)):=by
 unfold d_zl
 exact (ss_one (s_ret (p_orV (p_meth I.m_holds hr.s (p_fld C.f_left (p_var 0) rfl) (a_cons (p_var 1) a_nil)) (p_one (p_meth I.m_holds hr.s (p_fld C.f_right (p_var 0) rfl) (a_cons (p_var 1) a_nil))))))
theorem b_zm (hr:Room (2 * n + 4) (A.deeper (PyProof.Rows.envOfC "Either.text" (defScope s_zm) s.heap.objs.size f cdv))) :
  JSs (cxOf CX0 P w K mg base ["self","right"] "Either.text" (defScope s_zm) f cdv A outer s H E).nox (pg cA) (defBody s_zm) (d_zm (gF n)):=by
 unfold d_zm
 exact (ss_cons (s_set (i:=1) sc_zm.nd rfl (Or.inl rfl) (p_meth0 I.m_text hr.s (p_fld C.f_right (p_var 0) rfl)))
 (ss_cons (s_if (t_val (p_isi rfl C.z_isinstance C.i_zD ref_only (b_of (p_fld C.f_right (p_var 0) rfl)) (pe_globR rfl C.c_zD)))
 (ss_one (s_set (i:=1) sc_zm.nd rfl (Or.inl rfl) (p_fn I.h_z0 hr.s rfl (a_cons (p_var 1) a_nil))))
 ss_nil)
 (ss_one (s_ret (p_catS (b_of (p_catS (b_of (p_meth0 I.m_text hr.s (p_fld C.f_left (p_var 0) rfl))) (b_of p_str))) (b_var 1))))))
theorem b_zn (hr:Room (2 * n + 4) (A.deeper (PyProof.Rows.envOfC "Nowhere.text" (defScope s_zn) s.heap.objs.size f cdv))) :
  JSs (cxOf CX0 P w K mg base ["self"] "Nowhere.text" (defScope s_zn) f cdv A outer s H E).nox (pg cA) (defBody s_zn) (d_zn (gF n)):=by
 unfold d_zn
 exact (ss_one (s_ret (p_catS (b_of p_str) (b_of (p_meth0 I.m_text hr.s (p_fld C.f_test (p_var 0) rfl))))))
theorem b_zo (hr:Room (2 * n + 4) (A.deeper (PyProof.Rows.envOfC "Behind.text" (defScope s_zo) s.heap.objs.size f cdv))) :
  JSs (cxOf CX0 P w K mg base ["self"] "Behind.text" (defScope s_zo) f cdv A outer s H E).nox (pg cA) (defBody s_zo) (d_zo (gF n)):=by
 unfold d_zo
 exact (ss_one (s_ret (p_catS (b_of (p_catS (b_of (p_catS (b_of (p_catS (b_of (p_catS (b_of p_str) (b_of (p_fld C.f_deed (p_var 0) rfl)))) (b_of p_str))) (b_of (p_meth0 I.m_text hr.s (p_fld C.f_before (p_var 0) rfl))))) (b_of p_str))) (b_of (p_meth0 I.m_text hr.s (p_fld C.f_after (p_var 0) rfl))))))
theorem b_zp (hr:Room (2 * n + 4) (A.deeper (PyProof.Rows.envOfC "Through.text" (defScope s_zp) s.heap.objs.size f cdv))) :
  JSs (cxOf CX0 P w K mg base ["self"] "Through.text" (defScope s_zp) f cdv A outer s H E).nox (pg cA) (defBody s_zp) (d_zp (gF n)):=by
 unfold d_zp
 exact (ss_one (s_ret (p_catS (b_of (p_catS (b_of (p_catS (b_of p_str) (b_of (p_fld C.f_deed (p_var 0) rfl)))) (b_of p_str))) (b_of (p_meth0 I.m_text hr.s (p_fld C.f_test (p_var 0) rfl))))))
theorem b_zq (hr:Room (2 * n + 4) (A.deeper (PyProof.Rows.envOfC "WordReader.at_end" (defScope s_zq) s.heap.objs.size f cdv))) :
  JSs (cxOf CX0 P w K mg base ["self"] "WordReader.at_end" (defScope s_zq) f cdv A outer s H E).nox (pg cA) (defBody s_zq) (d_zq (gF n)):=by
 unfold d_zq
 exact (ss_one (s_retI (p_eq hr (b_of (p_fldI 0 C.f_place)) (b_of (p_callB call_len cb_len rfl C.z_len PySem.boot_len (a_consB (b_of (p_fldI 0 C.f_words)) a_nil))))))
theorem b_zr (hr:Room (2 * n + 4) (A.deeper (PyProof.Rows.envOfC "WordReader.passes" (defScope s_zr) s.heap.objs.size f cdv))) :
  JSs (cxOf CX0 P w K mg base ["self","word"] "WordReader.passes" (defScope s_zr) f cdv A outer s H E).nox (pg cA) (defBody s_zr) (d_zr (gF n)):=by
 unfold d_zr
 exact (ss_cons (s_ifM (tm_w (wm_or (tm_val (m_methO0 0 I.o_at_end hr.s)) (wm_or1 (tm_of (t_ne hr (b_of (p_at (b_of (p_fldI 0 C.f_words)) (b_of (p_fldI 0 C.f_place)) (fun _ _=>rfl))) (b_var 1))))))
 (ss_one (s_retI p_bl))
 ss_nil)
 (ss_cons (s_fldAugI 0 C.f_place fNs in_add p_int)
 (ss_one (s_retI p_bl))))
theorem b_zs (hr:Room (2 * n + 4) (A.deeper (PyProof.Rows.envOfC "SignReader.read_either" (defScope s_zs) s.heap.objs.size f cdv))) :
  JSsx (cxOf (CX1 P w) P w K mg base ["self","test"] "SignReader.read_either" (defScope s_zs) f cdv A outer s H E) (pg cA) E (defBody s_zs) (d_zs (gF n)):=by
 unfold d_zs
 exact (ssx_cons (sx_setM (i:=1) sc_zs.nd rfl (Or.inl rfl) (m_methX0 0 I.ox_read_both hr.s (passX fun _ _ _ z=>z)))
 (ssx_cons (sx_whileM PassesOwn.leaving (tm_val (m_methO 0 I.o_passes hr.s (a_cons p_str a_nil)))
 (ssx_one (sx_setM (i:=1) sc_zs.nd rfl (Or.inl rfl) (m_newX (k:=2 * n + 2) C.n_zD hr rfl (max_cons (m_of (p_var 1)) (max_one (m_methX0 0 I.ox_read_both hr.s (passX fun _ _ _ z=>z)))) rfl))))
 (ssx_one (sx_of (s_retI (p_var 1))))))
theorem b_zt (hr:Room (2 * n + 4) (A.deeper (PyProof.Rows.envOfC "SignReader.read_both" (defScope s_zt) s.heap.objs.size f cdv))) :
  JSsx (cxOf (CX1 P w) P w K mg base ["self","test"] "SignReader.read_both" (defScope s_zt) f cdv A outer s H E) (pg cA) E (defBody s_zt) (d_zt (gF n)):=by
 unfold d_zt
 exact (ssx_cons (sx_setM (i:=1) sc_zt.nd rfl (Or.inl rfl) (m_methX0 0 I.ox_read_single hr.s (passX fun _ _ _ z=>z)))
 (ssx_cons (sx_whileM PassesOwn.leaving (tm_val (m_methO 0 I.o_passes hr.s (a_cons p_str a_nil)))
 (ssx_one (sx_setM (i:=1) sc_zt.nd rfl (Or.inl rfl) (m_newX (k:=2 * n + 2) C.n_zC hr rfl (max_cons (m_of (p_var 1)) (max_one (m_methX0 0 I.ox_read_single hr.s (passX fun _ _ _ z=>z)))) rfl))))
 (ssx_one (sx_of (s_retI (p_var 1))))))
theorem b_zu (hr:Room (2 * n + 4) (A.deeper (PyProof.Rows.envOfC "SignReader.read_single" (defScope s_zu) s.heap.objs.size f cdv))) :
  JSsx (cxOf (CX1 P w) P w K mg base ["self","letter"] "SignReader.read_single" (defScope s_zu) f cdv A outer s H E) (pg cA) E (defBody s_zu) (d_zu (gF n)):=by
 obtain ⟨_,g_LETTERS,t_LETTERS⟩:=C.e_LETTERS
 unfold d_zu
 exact (ssx_cons (sx_of (s_for PassesOwn.never rfl (i_topT (ws:=c_LETTERS)  t_LETTERS rfl g_LETTERS (fun _ _=>⟨_,_,rfl,rfl,⟨_,_,rfl,rfl,⟨_,_,rfl,rfl,⟨_,_,rfl,rfl,rfl⟩⟩⟩⟩)) (g_name (i:=1) sc_zu.nd rfl (Or.inl rfl))
 (ss_one (s_ifM (tm_val (m_methO 0 I.o_passes hr.s (a_cons (p_var 1) a_nil)))
 (ss_one (s_retI (p_new (k:=2 * n + 2) C.n_zA hr rfl (a_cons (p_var 1) a_nil) rfl)))
 ss_nil))))
 (ssx_cons (sx_of (s_ifM (tm_val (m_methO 0 I.o_passes hr.s (a_cons p_str a_nil)))
 (ss_one (s_retI (p_new0 C.k_zy rfl rfl C.c_zy)))
 ss_nil))
 (ssx_cons (sx_of (s_ifM (tm_val (m_methO 0 I.o_passes hr.s (a_cons p_str a_nil)))
 (ss_one (s_retI (p_new0 C.k_zz rfl rfl C.c_zz)))
 ss_nil))
 (ssx_cons (sx_ifM (tm_val (m_methO 0 I.o_passes hr.s (a_cons p_str a_nil)))
 (ssx_one (sx_retIM (m_newX (k:=2 * n + 2) C.n_zB hr rfl (max_one (m_methX0 0 I.ox_read_single hr.s (passX fun _ _ _ z=>z))) rfl)))
 ssx_nil)
 (ssx_cons (sx_ifM (tm_val (m_methO 0 I.o_passes hr.s (a_cons p_str a_nil)))
 (ssx_one (sx_retIM (m_methX0 0 I.ox_read_bracket hr.s (passX fun _ _ _ z=>z))))
 ssx_nil)
 (ssx_one (sx_raise 1 (fun _ _ _ _ _ _ _ I mk z=>raise_leaves I mk z) rfl rfl C.xc_NoTest C.xe_NoTest)))))))
theorem b_zv (hr:Room (2 * n + 4) (A.deeper (PyProof.Rows.envOfC "SignReader.read_bracket" (defScope s_zv) s.heap.objs.size f cdv))) :
  JSsx (cxOf (CX1 P w) P w K mg base ["self","test"] "SignReader.read_bracket" (defScope s_zv) f cdv A outer s H E) (pg cA) E (defBody s_zv) (d_zv (gF n)):=by
 unfold d_zv
 exact (ssx_cons (sx_setM (i:=1) sc_zv.nd rfl (Or.inl rfl) (m_methX0 0 I.ox_read_either hr.s (passX fun _ _ _ z=>z)))
 (ssx_cons (sx_ifM (tm_not (tm_val (m_methO 0 I.o_passes hr.s (a_cons p_str a_nil))))
 (ssx_one (sx_raise 1 (fun _ _ _ _ _ _ _ I mk z=>raise_leaves I mk z) rfl rfl C.xc_NoTest C.xe_NoTest))
 ssx_nil)
 (ssx_one (sx_of (s_retI (p_var 1))))))
theorem b_zw (hr:Room (2 * n + 4) (A.deeper (PyProof.Rows.envOfC "WordReader.__init__" (defScope s_zw) s.heap.objs.size f cdv))) :
  JSs (cxOf CX0 P w K mg base ["self","words"] "WordReader.__init__" (defScope s_zw) f cdv A outer s H E).nox (pg cA) (defBody s_zw) (d_zw (gF n)):=by
 unfold d_zw
 exact (ss_cons (s_ini (j:=0) 12 C.l_zJ.cls C.x_SignReader_words (show (fN 12).Nodup by decide +kernel) rfl (show (fN 12).length < 1000 by decide) (p_of_n (n_list (x:="list") rfl C.z_list (a_consB (b_var 1) a_nil))))
 (ss_one (s_ini (j:=1) 12 C.l_zJ.cls C.x_SignReader_place (show (fN 12).Nodup by decide +kernel) rfl (show (fN 12).length < 1000 by decide) p_int)))
end
structure Fs (K:Fg) (mg:Str->Option Value) (cA:Nat->Addr) (ts:List Addr):Prop where
 F_z0: ∃ f fd,DefF K mg "in_brackets" s_z0 ["text"] f fd
 F_z1: ∃ f fd,DefF K mg "read_test" s_z1 ["text"] f fd
 F_z2: ∃ f fd,DefF K mg "read_saying" s_z2 ["text"] f fd
 F_z3: ∃ f fd,DefF K mg "read_piece" s_z3 ["text"] f fd
 F_z4: ∃ f fd,DefF K mg "_law_cell_at" s_z4 ["_law_script","_law_k"] f fd
 F_z5: ∃ f fd,DefF K mg "_law_mixed" s_z5 ["_law_cell","_law_k"] f fd
 F_z6: ∃ f fd,DefF K mg "_law_test_words" s_z6 ["_law_number"] f fd
 F_z7: ∃ f fd,DefF K mg "_law_refused" s_z7 ["_law_text"] f fd
 F_z8: ∃ f fd,DefF K mg "_law_some" s_z8 ["_law_one","_law_letter","_law_two","_law_way"] f fd
 F_z9: ∃ f fd,DefF K mg "_law_long" s_z9 ["_law_letter","_law_cell"] f fd
 F_za: ∃ f fd,DefF K mg "law" s_za ["_law_script"] f fd
 F_zb: ∃ f fd,Fun K "holds" "Yes.holds" s_zb f fd/\Binds K fd ["self","setting"] []/\Meth K ((pg cA).cA 1) "holds" f
 F_zc: ∃ f fd,Fun K "text" "Yes.text" s_zc f fd/\Binds K fd ["self"] []/\Meth K ((pg cA).cA 1) "text" f
 F_zd: ∃ f fd,Fun K "holds" "No.holds" s_zd f fd/\Binds K fd ["self","setting"] []/\Meth K ((pg cA).cA 2) "holds" f
 F_ze: ∃ f fd,Fun K "text" "No.text" s_ze f fd/\Binds K fd ["self"] []/\Meth K ((pg cA).cA 2) "text" f
 F_zf: ∃ f fd,Fun K "holds" "Named.holds" s_zf f fd/\Binds K fd ["self","setting"] []/\Meth K ((pg cA).cA 3) "holds" f
 F_zg: ∃ f fd,Fun K "text" "Named.text" s_zg f fd/\Binds K fd ["self"] []/\Meth K ((pg cA).cA 3) "text" f
 F_zh: ∃ f fd,Fun K "holds" "Not.holds" s_zh f fd/\Binds K fd ["self","setting"] []/\Meth K ((pg cA).cA 4) "holds" f
 F_zi: ∃ f fd,Fun K "text" "Not.text" s_zi f fd/\Binds K fd ["self"] []/\Meth K ((pg cA).cA 4) "text" f
 F_zj: ∃ f fd,Fun K "holds" "Both.holds" s_zj f fd/\Binds K fd ["self","setting"] []/\Meth K ((pg cA).cA 5) "holds" f
 F_zk: ∃ f fd,Fun K "text" "Both.text" s_zk f fd/\Binds K fd ["self"] []/\Meth K ((pg cA).cA 5) "text" f
 F_zl: ∃ f fd,Fun K "holds" "Either.holds" s_zl f fd/\Binds K fd ["self","setting"] []/\Meth K ((pg cA).cA 6) "holds" f
 F_zm: ∃ f fd,Fun K "text" "Either.text" s_zm f fd/\Binds K fd ["self"] []/\Meth K ((pg cA).cA 6) "text" f
 F_zn: ∃ f fd,Fun K "text" "Nowhere.text" s_zn f fd/\Binds K fd ["self"] []/\Meth K ((pg cA).cA 8) "text" f
 F_zo: ∃ f fd,Fun K "text" "Behind.text" s_zo f fd/\Binds K fd ["self"] []/\Meth K ((pg cA).cA 9) "text" f
 F_zp: ∃ f fd,Fun K "text" "Through.text" s_zp f fd/\Binds K fd ["self"] []/\Meth K ((pg cA).cA 10) "text" f
 F_zq: ∃ f fd,Fun K "at_end" "WordReader.at_end" s_zq f fd/\Binds K fd ["self"] []/\Meth K ((pg cA).cA 11) "at_end" f/\Meth K ((pg cA).cA 12) "at_end" f
 F_zr: ∃ f fd,Fun K "passes" "WordReader.passes" s_zr f fd/\Binds K fd ["self","word"] []/\Meth K ((pg cA).cA 11) "passes" f/\Meth K ((pg cA).cA 12) "passes" f
 F_zs: ∃ f fd,Fun K "read_either" "SignReader.read_either" s_zs f fd/\Binds K fd ["self"] []/\Meth K ((pg cA).cA 12) "read_either" f
 F_zt: ∃ f fd,Fun K "read_both" "SignReader.read_both" s_zt f fd/\Binds K fd ["self"] []/\Meth K ((pg cA).cA 12) "read_both" f
 F_zu: ∃ f fd,Fun K "read_single" "SignReader.read_single" s_zu f fd/\Binds K fd ["self"] []/\Meth K ((pg cA).cA 12) "read_single" f
 F_zv: ∃ f fd,Fun K "read_bracket" "SignReader.read_bracket" s_zv f fd/\Binds K fd ["self"] []/\Meth K ((pg cA).cA 12) "read_bracket" f
 F_zw: ∃ f fd,Fun K "__init__" "WordReader.__init__" s_zw f fd/\Binds K fd ["self","words"] []/\Mk K ((pg cA).cA 12) f
theorem all_fn {P:Program} {w:World} {K:Fg} {mg:Str->Option Value} {base:Bs} {cA:Nat->Addr} {ts:List Addr} (C:Ct P w K mg base cA ts) (F:Fs K mg cA ts): ∀ n,AllF P w K mg base cA n
 | 0=>by
  obtain ⟨f_z0,fd_z0,E_z0⟩:=F.F_z0
  obtain ⟨f_z1,fd_z1,E_z1⟩:=F.F_z1
  obtain ⟨f_z2,fd_z2,E_z2⟩:=F.F_z2
  obtain ⟨f_z3,fd_z3,E_z3⟩:=F.F_z3
  obtain ⟨f_z4,fd_z4,E_z4⟩:=F.F_z4
  obtain ⟨f_z5,fd_z5,E_z5⟩:=F.F_z5
  obtain ⟨f_z6,fd_z6,E_z6⟩:=F.F_z6
  obtain ⟨f_z7,fd_z7,E_z7⟩:=F.F_z7
  obtain ⟨f_z8,fd_z8,E_z8⟩:=F.F_z8
  obtain ⟨f_z9,fd_z9,E_z9⟩:=F.F_z9
  obtain ⟨f_za,fd_za,E_za⟩:=F.F_za
  obtain ⟨f_zb,fd_zb,F_zb,B_zb,M_zb_1⟩:=F.F_zb
  obtain ⟨f_zc,fd_zc,F_zc,B_zc,M_zc_1⟩:=F.F_zc
  obtain ⟨f_zd,fd_zd,F_zd,B_zd,M_zd_2⟩:=F.F_zd
  obtain ⟨f_ze,fd_ze,F_ze,B_ze,M_ze_2⟩:=F.F_ze
  obtain ⟨f_zf,fd_zf,F_zf,B_zf,M_zf_3⟩:=F.F_zf
  obtain ⟨f_zg,fd_zg,F_zg,B_zg,M_zg_3⟩:=F.F_zg
  obtain ⟨f_zh,fd_zh,F_zh,B_zh,M_zh_4⟩:=F.F_zh
  obtain ⟨f_zi,fd_zi,F_zi,B_zi,M_zi_4⟩:=F.F_zi
  obtain ⟨f_zj,fd_zj,F_zj,B_zj,M_zj_5⟩:=F.F_zj
  obtain ⟨f_zk,fd_zk,F_zk,B_zk,M_zk_5⟩:=F.F_zk
  obtain ⟨f_zl,fd_zl,F_zl,B_zl,M_zl_6⟩:=F.F_zl
  obtain ⟨f_zm,fd_zm,F_zm,B_zm,M_zm_6⟩:=F.F_zm
  obtain ⟨f_zn,fd_zn,F_zn,B_zn,M_zn_8⟩:=F.F_zn
  obtain ⟨f_zo,fd_zo,F_zo,B_zo,M_zo_9⟩:=F.F_zo
  obtain ⟨f_zp,fd_zp,F_zp,B_zp,M_zp_10⟩:=F.F_zp
  obtain ⟨f_zq,fd_zq,F_zq,B_zq,M_zq_11,M_zq_12⟩:=F.F_zq
  obtain ⟨f_zr,fd_zr,F_zr,B_zr,M_zr_11,M_zr_12⟩:=F.F_zr
  obtain ⟨f_zs,fd_zs,F_zs,B_zs,M_zs_12⟩:=F.F_zs
  obtain ⟨f_zt,fd_zt,F_zt,B_zt,M_zt_12⟩:=F.F_zt
  obtain ⟨f_zu,fd_zu,F_zu,B_zu,M_zu_12⟩:=F.F_zu
  obtain ⟨f_zv,fd_zv,F_zv,B_zv,M_zv_12⟩:=F.F_zv
  obtain ⟨f_zw,fd_zw,F_zw,B_zw,M_zw⟩:=F.F_zw
  exact {
   h_z0:=E_z0.at (spG_none fun _=>rfl)
   x_z1:=⟨_,_,_,E_z1.m,E_z1.F.kp,(spX_none fun _=>rfl),E_z1.b⟩
   h_z1:=E_z1.at (fnx_none (spX_none fun _=>rfl) spX_G)
   x_z2:=⟨_,_,_,E_z2.m,E_z2.F.kp,(spX_none fun _=>rfl),E_z2.b⟩
   h_z2:=E_z2.at (fnx_none (spX_none fun _=>rfl) spX_G)
   x_z3:=⟨_,_,_,E_z3.m,E_z3.F.kp,(spX_none fun _=>rfl),E_z3.b⟩
   h_z3:=E_z3.at (fnx_none (spX_none fun _=>rfl) spX_G)
   h__law_cell_at:=E_z4.at (spG_none fun _=>rfl)
   h__law_mixed:=E_z5.at (spG_none fun _=>rfl)
   h__law_test_words:=E_z6.at (spG_none fun _=>rfl)
   h__law_refused:=E_z7.at (spG_none fun _=>rfl)
   h__law_some:=E_z8.at (spG_none fun _=>rfl)
   h__law_long:=E_z9.at (spG_none fun _=>rfl)
   h_za:=E_za.at (spG_none fun _=>rfl)
   n_zJ:=⟨C.c_zJ,C.l_zJ.cls,_,_,_,M_zw,(spIn_none fun _=>rfl),B_zw⟩
   ox_read_both:=(mox_cons ⟨C.l_zJ.cls,_,_,_,M_zt_12,(spOX_none fun _=>rfl),B_zt⟩ (show ("read_both":Str) ∉ fN 12 by decide +kernel) mox_nil)
   ox_read_bracket:=(mox_cons ⟨C.l_zJ.cls,_,_,_,M_zv_12,(spOX_none fun _=>rfl),B_zv⟩ (show ("read_bracket":Str) ∉ fN 12 by decide +kernel) mox_nil)
   ox_read_either:=(mox_cons ⟨C.l_zJ.cls,_,_,_,M_zs_12,(spOX_none fun _=>rfl),B_zs⟩ (show ("read_either":Str) ∉ fN 12 by decide +kernel) mox_nil)
   ox_read_single:=(mox_cons ⟨C.l_zJ.cls,_,_,_,M_zu_12,(spOX_none fun _=>rfl),B_zu⟩ (show ("read_single":Str) ∉ fN 12 by decide +kernel) mox_nil)
   o_at_end:=(mo_cons ⟨C.l_zI.cls,_,_,_,M_zq_11,(spO_none fun _=>rfl),B_zq⟩ (show ("at_end":Str) ∉ fN 11 by decide +kernel) (mo_cons ⟨C.l_zJ.cls,_,_,_,M_zq_12,(spO_none fun _=>rfl),B_zq⟩ (show ("at_end":Str) ∉ fN 12 by decide +kernel) mo_nil))
   o_passes:=(mo_cons ⟨C.l_zI.cls,_,_,_,M_zr_11,(spO_none fun _=>rfl),B_zr⟩ (show ("passes":Str) ∉ fN 11 by decide +kernel) (mo_cons ⟨C.l_zJ.cls,_,_,_,M_zr_12,(spO_none fun _=>rfl),B_zr⟩ (show ("passes":Str) ∉ fN 12 by decide +kernel) mo_nil))
   m_holds:=(mt_cons ⟨C.l_zy.cls,_,_,_,M_zb_1,(spG_none fun _=>rfl),B_zb⟩ (show ("holds":Str) ∉ fN 1 by decide +kernel) (mt_cons ⟨C.l_zz.cls,_,_,_,M_zd_2,(spG_none fun _=>rfl),B_zd⟩ (show ("holds":Str) ∉ fN 2 by decide +kernel) (mt_cons ⟨C.l_zA.cls,_,_,_,M_zf_3,(spG_none fun _=>rfl),B_zf⟩ (show ("holds":Str) ∉ fN 3 by decide +kernel) (mt_cons ⟨C.l_zB.cls,_,_,_,M_zh_4,(spG_none fun _=>rfl),B_zh⟩ (show ("holds":Str) ∉ fN 4 by decide +kernel) (mt_cons ⟨C.l_zC.cls,_,_,_,M_zj_5,(spG_none fun _=>rfl),B_zj⟩ (show ("holds":Str) ∉ fN 5 by decide +kernel) (mt_cons ⟨C.l_zD.cls,_,_,_,M_zl_6,(spG_none fun _=>rfl),B_zl⟩ (show ("holds":Str) ∉ fN 6 by decide +kernel) mt_nil))))))
   m_text:=(mt_cons ⟨C.l_zy.cls,_,_,_,M_zc_1,(spG_none fun _=>rfl),B_zc⟩ (show ("text":Str) ∉ fN 1 by decide +kernel) (mt_cons ⟨C.l_zz.cls,_,_,_,M_ze_2,(spG_none fun _=>rfl),B_ze⟩ (show ("text":Str) ∉ fN 2 by decide +kernel) (mt_cons ⟨C.l_zA.cls,_,_,_,M_zg_3,(spG_none fun _=>rfl),B_zg⟩ (show ("text":Str) ∉ fN 3 by decide +kernel) (mt_cons ⟨C.l_zB.cls,_,_,_,M_zi_4,(spG_none fun _=>rfl),B_zi⟩ (show ("text":Str) ∉ fN 4 by decide +kernel) (mt_cons ⟨C.l_zC.cls,_,_,_,M_zk_5,(spG_none fun _=>rfl),B_zk⟩ (show ("text":Str) ∉ fN 5 by decide +kernel) (mt_cons ⟨C.l_zD.cls,_,_,_,M_zm_6,(spG_none fun _=>rfl),B_zm⟩ (show ("text":Str) ∉ fN 6 by decide +kernel) (mt_cons ⟨C.l_zF.cls,_,_,_,M_zn_8,(spG_none fun _=>rfl),B_zn⟩ (show ("text":Str) ∉ fN 8 by decide +kernel) (mt_cons ⟨C.l_zG.cls,_,_,_,M_zo_9,(spG_none fun _=>rfl),B_zo⟩ (show ("text":Str) ∉ fN 9 by decide +kernel) (mt_cons ⟨C.l_zH.cls,_,_,_,M_zp_10,(spG_none fun _=>rfl),B_zp⟩ (show ("text":Str) ∉ fN 10 by decide +kernel) mt_nil)))))))))
  }
 | n + 1=>by
  show AllF P w K mg base cA (n + 1)
  have I:=all_fn C F n
  obtain ⟨f_z0,fd_z0,E_z0⟩:=F.F_z0
  obtain ⟨f_z1,fd_z1,E_z1⟩:=F.F_z1
  obtain ⟨f_z2,fd_z2,E_z2⟩:=F.F_z2
  obtain ⟨f_z3,fd_z3,E_z3⟩:=F.F_z3
  obtain ⟨f_z4,fd_z4,E_z4⟩:=F.F_z4
  obtain ⟨f_z5,fd_z5,E_z5⟩:=F.F_z5
  obtain ⟨f_z6,fd_z6,E_z6⟩:=F.F_z6
  obtain ⟨f_z7,fd_z7,E_z7⟩:=F.F_z7
  obtain ⟨f_z8,fd_z8,E_z8⟩:=F.F_z8
  obtain ⟨f_z9,fd_z9,E_z9⟩:=F.F_z9
  obtain ⟨f_za,fd_za,E_za⟩:=F.F_za
  obtain ⟨f_zb,fd_zb,F_zb,B_zb,M_zb_1⟩:=F.F_zb
  obtain ⟨f_zc,fd_zc,F_zc,B_zc,M_zc_1⟩:=F.F_zc
  obtain ⟨f_zd,fd_zd,F_zd,B_zd,M_zd_2⟩:=F.F_zd
  obtain ⟨f_ze,fd_ze,F_ze,B_ze,M_ze_2⟩:=F.F_ze
  obtain ⟨f_zf,fd_zf,F_zf,B_zf,M_zf_3⟩:=F.F_zf
  obtain ⟨f_zg,fd_zg,F_zg,B_zg,M_zg_3⟩:=F.F_zg
  obtain ⟨f_zh,fd_zh,F_zh,B_zh,M_zh_4⟩:=F.F_zh
  obtain ⟨f_zi,fd_zi,F_zi,B_zi,M_zi_4⟩:=F.F_zi
  obtain ⟨f_zj,fd_zj,F_zj,B_zj,M_zj_5⟩:=F.F_zj
  obtain ⟨f_zk,fd_zk,F_zk,B_zk,M_zk_5⟩:=F.F_zk
  obtain ⟨f_zl,fd_zl,F_zl,B_zl,M_zl_6⟩:=F.F_zl
  obtain ⟨f_zm,fd_zm,F_zm,B_zm,M_zm_6⟩:=F.F_zm
  obtain ⟨f_zn,fd_zn,F_zn,B_zn,M_zn_8⟩:=F.F_zn
  obtain ⟨f_zo,fd_zo,F_zo,B_zo,M_zo_9⟩:=F.F_zo
  obtain ⟨f_zp,fd_zp,F_zp,B_zp,M_zp_10⟩:=F.F_zp
  obtain ⟨f_zq,fd_zq,F_zq,B_zq,M_zq_11,M_zq_12⟩:=F.F_zq
  obtain ⟨f_zr,fd_zr,F_zr,B_zr,M_zr_11,M_zr_12⟩:=F.F_zr
  obtain ⟨f_zs,fd_zs,F_zs,B_zs,M_zs_12⟩:=F.F_zs
  obtain ⟨f_zt,fd_zt,F_zt,B_zt,M_zt_12⟩:=F.F_zt
  obtain ⟨f_zu,fd_zu,F_zu,B_zu,M_zu_12⟩:=F.F_zu
  obtain ⟨f_zv,fd_zv,F_zv,B_zv,M_zv_12⟩:=F.F_zv
  obtain ⟨f_zw,fd_zw,F_zw,B_zw,M_zw⟩:=F.F_zw
  exact {
   h_z0:=E_z0.at ((fn_ok E_z0.F sc_z0 rfl fun _ _ _ _ _ _ hr=>b_z0 C I hr))
   x_z1:=⟨_,_,_,E_z1.m,E_z1.F.kp,((fn_okX E_z1.F sc_z1 rfl fun _ _ _ _ _ _ hr=>b_z1 C I hr)),E_z1.b⟩
   h_z1:=E_z1.at (fnx_none ((fn_okX E_z1.F sc_z1 rfl fun _ _ _ _ _ _ hr=>b_z1 C I hr)) spX_G)
   x_z2:=⟨_,_,_,E_z2.m,E_z2.F.kp,((fn_okX E_z2.F sc_z2 rfl fun _ _ _ _ _ _ hr=>b_z2 C I hr)),E_z2.b⟩
   h_z2:=E_z2.at (fnx_none ((fn_okX E_z2.F sc_z2 rfl fun _ _ _ _ _ _ hr=>b_z2 C I hr)) spX_G)
   x_z3:=⟨_,_,_,E_z3.m,E_z3.F.kp,((fn_okX E_z3.F sc_z3 rfl fun _ _ _ _ _ _ hr=>b_z3 C I hr)),E_z3.b⟩
   h_z3:=E_z3.at (fnx_none ((fn_okX E_z3.F sc_z3 rfl fun _ _ _ _ _ _ hr=>b_z3 C I hr)) spX_G)
   h__law_cell_at:=E_z4.at ((fn_ok E_z4.F sc_z4 rfl fun _ _ _ _ _ _ hr=>b_z4 C I hr))
   h__law_mixed:=E_z5.at ((fn_ok E_z5.F sc_z5 rfl fun _ _ _ _ _ _ hr=>b_z5 C I hr))
   h__law_test_words:=E_z6.at ((fn_ok E_z6.F sc_z6 rfl fun _ _ _ _ _ _ hr=>b_z6 C I hr))
   h__law_refused:=E_z7.at ((fn_ok E_z7.F sc_z7 rfl fun _ _ _ _ _ _ hr=>b_z7 C I hr))
   h__law_some:=E_z8.at ((fn_ok E_z8.F sc_z8 rfl fun _ _ _ _ _ _ hr=>b_z8 C I hr))
   h__law_long:=E_z9.at ((fn_ok E_z9.F sc_z9 rfl fun _ _ _ _ _ _ hr=>b_z9 C I hr))
   h_za:=E_za.at ((fn_ok E_za.F sc_za rfl fun _ _ _ _ _ _ hr=>b_za C I hr))
   n_zJ:=⟨C.c_zJ,C.l_zJ.cls,_,_,_,M_zw,(fn_okI F_zw sc_zw rfl (by decide) rfl fun _ _ _ _ _ _ hr=>b_zw C I hr),B_zw⟩
   ox_read_both:=(mox_cons ⟨C.l_zJ.cls,_,_,_,M_zt_12,(fn_okOX F_zt sc_zt rfl (by decide) fun _ _ _ _ _ _ hr=>b_zt C I hr),B_zt⟩ (show ("read_both":Str) ∉ fN 12 by decide +kernel) mox_nil)
   ox_read_bracket:=(mox_cons ⟨C.l_zJ.cls,_,_,_,M_zv_12,(fn_okOX F_zv sc_zv rfl (by decide) fun _ _ _ _ _ _ hr=>b_zv C I hr),B_zv⟩ (show ("read_bracket":Str) ∉ fN 12 by decide +kernel) mox_nil)
   ox_read_either:=(mox_cons ⟨C.l_zJ.cls,_,_,_,M_zs_12,(fn_okOX F_zs sc_zs rfl (by decide) fun _ _ _ _ _ _ hr=>b_zs C I hr),B_zs⟩ (show ("read_either":Str) ∉ fN 12 by decide +kernel) mox_nil)
   ox_read_single:=(mox_cons ⟨C.l_zJ.cls,_,_,_,M_zu_12,(fn_okOX F_zu sc_zu rfl (by decide) fun _ _ _ _ _ _ hr=>b_zu C I hr),B_zu⟩ (show ("read_single":Str) ∉ fN 12 by decide +kernel) mox_nil)
   o_at_end:=(mo_cons ⟨C.l_zI.cls,_,_,_,M_zq_11,(fn_okO F_zq sc_zq rfl (by decide) fun _ _ _ _ _ _ hr=>b_zq C I hr),B_zq⟩ (show ("at_end":Str) ∉ fN 11 by decide +kernel) (mo_cons ⟨C.l_zJ.cls,_,_,_,M_zq_12,(fn_okO F_zq sc_zq rfl (by decide) fun _ _ _ _ _ _ hr=>b_zq C I hr),B_zq⟩ (show ("at_end":Str) ∉ fN 12 by decide +kernel) mo_nil))
   o_passes:=(mo_cons ⟨C.l_zI.cls,_,_,_,M_zr_11,(fn_okO F_zr sc_zr rfl (by decide) fun _ _ _ _ _ _ hr=>b_zr C I hr),B_zr⟩ (show ("passes":Str) ∉ fN 11 by decide +kernel) (mo_cons ⟨C.l_zJ.cls,_,_,_,M_zr_12,(fn_okO F_zr sc_zr rfl (by decide) fun _ _ _ _ _ _ hr=>b_zr C I hr),B_zr⟩ (show ("passes":Str) ∉ fN 12 by decide +kernel) mo_nil))
   m_holds:=(mt_cons ⟨C.l_zy.cls,_,_,_,M_zb_1,((fn_ok F_zb sc_zb rfl fun _ _ _ _ _ _ hr=>b_zb C I hr)),B_zb⟩ (show ("holds":Str) ∉ fN 1 by decide +kernel) (mt_cons ⟨C.l_zz.cls,_,_,_,M_zd_2,((fn_ok F_zd sc_zd rfl fun _ _ _ _ _ _ hr=>b_zd C I hr)),B_zd⟩ (show ("holds":Str) ∉ fN 2 by decide +kernel) (mt_cons ⟨C.l_zA.cls,_,_,_,M_zf_3,((fn_ok F_zf sc_zf rfl fun _ _ _ _ _ _ hr=>b_zf C I hr)),B_zf⟩ (show ("holds":Str) ∉ fN 3 by decide +kernel) (mt_cons ⟨C.l_zB.cls,_,_,_,M_zh_4,((fn_ok F_zh sc_zh rfl fun _ _ _ _ _ _ hr=>b_zh C I hr)),B_zh⟩ (show ("holds":Str) ∉ fN 4 by decide +kernel) (mt_cons ⟨C.l_zC.cls,_,_,_,M_zj_5,((fn_ok F_zj sc_zj rfl fun _ _ _ _ _ _ hr=>b_zj C I hr)),B_zj⟩ (show ("holds":Str) ∉ fN 5 by decide +kernel) (mt_cons ⟨C.l_zD.cls,_,_,_,M_zl_6,((fn_ok F_zl sc_zl rfl fun _ _ _ _ _ _ hr=>b_zl C I hr)),B_zl⟩ (show ("holds":Str) ∉ fN 6 by decide +kernel) mt_nil))))))
   m_text:=(mt_cons ⟨C.l_zy.cls,_,_,_,M_zc_1,((fn_ok F_zc sc_zc rfl fun _ _ _ _ _ _ hr=>b_zc C I hr)),B_zc⟩ (show ("text":Str) ∉ fN 1 by decide +kernel) (mt_cons ⟨C.l_zz.cls,_,_,_,M_ze_2,((fn_ok F_ze sc_ze rfl fun _ _ _ _ _ _ hr=>b_ze C I hr)),B_ze⟩ (show ("text":Str) ∉ fN 2 by decide +kernel) (mt_cons ⟨C.l_zA.cls,_,_,_,M_zg_3,((fn_ok F_zg sc_zg rfl fun _ _ _ _ _ _ hr=>b_zg C I hr)),B_zg⟩ (show ("text":Str) ∉ fN 3 by decide +kernel) (mt_cons ⟨C.l_zB.cls,_,_,_,M_zi_4,((fn_ok F_zi sc_zi rfl fun _ _ _ _ _ _ hr=>b_zi C I hr)),B_zi⟩ (show ("text":Str) ∉ fN 4 by decide +kernel) (mt_cons ⟨C.l_zC.cls,_,_,_,M_zk_5,((fn_ok F_zk sc_zk rfl fun _ _ _ _ _ _ hr=>b_zk C I hr)),B_zk⟩ (show ("text":Str) ∉ fN 5 by decide +kernel) (mt_cons ⟨C.l_zD.cls,_,_,_,M_zm_6,((fn_ok F_zm sc_zm rfl fun _ _ _ _ _ _ hr=>b_zm C I hr)),B_zm⟩ (show ("text":Str) ∉ fN 6 by decide +kernel) (mt_cons ⟨C.l_zF.cls,_,_,_,M_zn_8,((fn_ok F_zn sc_zn rfl fun _ _ _ _ _ _ hr=>b_zn C I hr)),B_zn⟩ (show ("text":Str) ∉ fN 8 by decide +kernel) (mt_cons ⟨C.l_zG.cls,_,_,_,M_zo_9,((fn_ok F_zo sc_zo rfl fun _ _ _ _ _ _ hr=>b_zo C I hr)),B_zo⟩ (show ("text":Str) ∉ fN 9 by decide +kernel) (mt_cons ⟨C.l_zH.cls,_,_,_,M_zp_10,((fn_ok F_zp sc_zp rfl fun _ _ _ _ _ _ hr=>b_zp C I hr)),B_zp⟩ (show ("text":Str) ∉ fN 10 by decide +kernel) mt_nil)))))))))
  }
end M46
end
section
namespace M46
open PySem L2 DN
inductive Tr where
 | yes | no | named (c:Str) | neg (t:Tr) | both (l r:Tr) | either (l r:Tr)
def Tr.pv:Tr->PV
 | .yes=> .obj 1 [] | .no=> .obj 2 [] | .named c=> .obj 3 [.str c] | .neg t=> .obj 4 [t.pv] | .both l r=> .obj 5 [l.pv,r.pv] | .either l r=> .obj 6 [l.pv,r.pv]
def Tr.depth:Tr->Nat
 | .yes=>0 | .no=>0 | .named _=>0 | .neg t=>t.depth + 1 | .both l r=>max l.depth r.depth + 1 | .either l r=>max l.depth r.depth + 1
def Tr.size:Tr->Nat
 | .yes=>1 | .no=>1 | .named _=>1 | .neg t=>t.size + 1 | .both l r=>l.size + r.size + 1 | .either l r=>l.size + r.size + 1
def Letter (c:Str):Prop:=c="a"\/c="b"\/c="c"\/c="d"
def Tr.ok:Tr->Prop
 | .yes=>True | .no=>True | .named c=>Letter c | .neg t=>t.ok | .both l r=>l.ok/\r.ok | .either l r=>l.ok/\r.ok
def ixL (c:Str):Nat:=if c="a" then 0 else if c="b" then 1 else if c="c" then 2 else 3
def Tr.at:Tr->Int->Bool
 | .yes,_=>true
 | .no,_=>false
 | .named c,s=>Builtin.bitAnd (s / 2 ^ ((ixL c:Nat):Int).toNat) 1 == 1
 | .neg t,s=> !t.at s
 | .both l r,s=>l.at s && r.at s
 | .either l r,s=>l.at s || r.at s
def br (x:Str):Str:="( " ++ x ++ " )"
def Tr.isE:Tr->Bool
 | .either _ _=>true | _=>false
def Tr.isB:Tr->Bool
 | .both _ _=>true | .either _ _=>true | _=>false
def Tr.txt:Tr->Str
 | .yes=>"yes" | .no=>"no" | .named c=>c
 | .neg t=>"not " ++ (if t.isB then br t.txt else t.txt)
 | .both l r=>(if l.isE then br l.txt else l.txt) ++ " and " ++ (if r.isB then br r.txt else r.txt)
 | .either l r=>l.txt ++ " or " ++ (if r.isE then br r.txt else r.txt)
theorem slen (x y:Str):(x ++ y).length=x.length + y.length:=Str.length_append x y
theorem br_len (x:Str):(br x).length=x.length + 4:=by
 unfold br
 rw [slen,slen]
 have h1:("( ":Str).length=2:=by decide +kernel
 have h2:(" )":Str).length=2:=by decide +kernel
 omega
theorem letter_len {c:Str} (h:Letter c):c.length=1:=by
 rcases h with rfl | rfl | rfl | rfl <;> decide +kernel
theorem ite_len {b:Bool} {x:Str}:(if b=true then br x else x).length<=x.length + 4:=by
 split
 ·rw [br_len]; omega
 ·omega
theorem txt_len: ∀ t:Tr,t.ok->t.txt.length<=13 * t.size
 | .yes,_=>by decide +kernel
 | .no,_=>by decide +kernel
 | .named c,h=>by show c.length<=13; rw [letter_len h]; decide
 | .neg t,h=>by
  have ih:=txt_len t h
  show ("not " ++ (if t.isB=true then br t.txt else t.txt)).length<=13 * (t.size + 1)
  have h1:("not ":Str).length=4:=by decide +kernel
  have:=ite_len (b:=t.isB) (x:=t.txt)
  rw [slen]; omega
 | .both l r,h=>by
  have i1:=txt_len l h.1
  have i2:=txt_len r h.2
  show ((if l.isE=true then br l.txt else l.txt) ++ " and " ++ (if r.isB=true then br r.txt else r.txt)).length<=13 * (l.size + r.size + 1)
  have h1:(" and ":Str).length=5:=by decide +kernel
  have q1:=ite_len (b:=l.isE) (x:=l.txt)
  have q2:=ite_len (b:=r.isB) (x:=r.txt)
  rw [slen,slen]; omega
 | .either l r,h=>by
  have i1:=txt_len l h.1
  have i2:=txt_len r h.2
  show (l.txt ++ " or " ++ (if r.isE=true then br r.txt else r.txt)).length<=13 * (l.size + r.size + 1)
  have h1:(" or ":Str).length=4:=by decide +kernel
  have q2:=ite_len (b:=r.isE) (x:=r.txt)
  rw [slen,slen]; omega
theorem catS {x y:Str} (h:x.length + y.length<=sizeLine):fCatS (.str x) (.str y)= .ok (.str (x ++ y)):=by
 show (if x.length + y.length<=sizeLine then Rx.ok (PV.str (x ++ y)) else .bad)=_
 rw [if_pos h]
theorem sz:sizeLine=16777216:=rfl
theorem brackets_ok (n:Nat) (x:Str) (h:x.length<=1000000):gF (n + 1) 0 [.str x]= .ok (.str (br x)):=by
 rw [g_z0,runD_of rfl]
 show fin (d_z0 (gF n) [.v (.str x)])=_
 unfold d_z0
 have h1:("( ":Str).length=2:=by decide +kernel
 have h2:(" )":Str).length=2:=by decide +kernel
 have e1:=catS (x:="( ") (y:=x) (by rw [sz]; omega)
 have e2:=catS (x:="( " ++ x) (y:=" )") (by rw [sz,slen]; omega)
 simp [e1,e2,br]
theorem isB_ok (t:Tr):isiP2 i_zC i_zD t.pv= .ok (.bl t.isB):=by cases t <;> rfl
theorem isE_ok (t:Tr):isiP i_zD t.pv= .ok (.bl t.isE):=by cases t <;> rfl
theorem ttext_ok: ∀ (t:Tr) (n:Nat),t.ok->t.depth + 1 < n->t.size<=10000->callM q_text (gF n) t.pv []= .ok (.str t.txt)
 | .yes,n + 1,_,_,_=>rfl
 | .no,n + 1,_,_,_=>rfl
 | .named c,n + 1,_,_,_=>rfl
 | .neg t,n + 1,h,hd,hs=>by
  have hd':t.depth + 1 + 1 < n + 1:=hd
  have hs':t.size + 1<=10000:=hs
  have ih:=ttext_ok t n h (by omega) (by omega)
  have tl:=txt_len t h
  obtain ⟨m,rfl⟩: ∃ m,n=m + 1:=⟨n - 1,by omega⟩
  have hb:=brackets_ok m t.txt (by omega)
  have h1:("not ":Str).length=4:=by decide +kernel
  have e:callM q_text (gF (m + 1 + 1)) (Tr.neg t).pv []=fin (d_zi (gF (m + 1)) [.v (.obj 4 [t.pv]),.no]):=rfl
  rw [e]
  unfold d_zi
  have f1:fldP a_inner (.obj 4 [t.pv])= .ok t.pv:=rfl
  have q:=ite_len (b:=t.isB) (x:=t.txt)
  have e2:=catS (x:="not ") (y:=if t.isB=true then br t.txt else t.txt) (by rw [sz]; omega)
  cases hB:t.isB <;> rw [hB] at e2 <;> simp [f1,ih,isB_ok,hB,hb] <;> simp at e2 <;> simp [e2,Tr.txt,hB]
 | .both l r,n + 1,h,hd,hs=>by
  have hd':max l.depth r.depth + 1 + 1 < n + 1:=hd
  have hs':l.size + r.size + 1<=10000:=hs
  have i1:=ttext_ok l n h.1 (by omega) (by omega)
  have i2:=ttext_ok r n h.2 (by omega) (by omega)
  have l1:=txt_len l h.1
  have l2:=txt_len r h.2
  obtain ⟨m,rfl⟩: ∃ m,n=m + 1:=⟨n - 1,by omega⟩
  have hb1:=brackets_ok m l.txt (by omega)
  have hb2:=brackets_ok m r.txt (by omega)
  have h1:(" and ":Str).length=5:=by decide +kernel
  have e:callM q_text (gF (m + 1 + 1)) (Tr.both l r).pv []=fin (d_zk (gF (m + 1)) [.v (.obj 5 [l.pv,r.pv]),.no,.no]):=rfl
  rw [e]
  unfold d_zk
  have f1:fldP a_left (.obj 5 [l.pv,r.pv])= .ok l.pv:=rfl
  have f2:fldP a_right (.obj 5 [l.pv,r.pv])= .ok r.pv:=rfl
  have q1:=ite_len (b:=l.isE) (x:=l.txt)
  have q2:=ite_len (b:=r.isB) (x:=r.txt)
  have e2:=catS (x:=if l.isE=true then br l.txt else l.txt) (y:=" and ") (by rw [sz]; omega)
  have e3:=catS (x:=(if l.isE=true then br l.txt else l.txt) ++ " and ") (y:=if r.isB=true then br r.txt else r.txt) (by rw [sz,slen]; omega)
  cases hE:l.isE <;> cases hB:r.isB <;> rw [hE] at e2 e3 <;> rw [hB] at e3 <;> simp [f1,f2,i1,i2,isB_ok,isE_ok,hB,hE,hb1,hb2] <;> simp at e2 e3 <;> simp [e2,e3,Tr.txt,hB,hE]
 | .either l r,n + 1,h,hd,hs=>by
  have hd':max l.depth r.depth + 1 + 1 < n + 1:=hd
  have hs':l.size + r.size + 1<=10000:=hs
  have i1:=ttext_ok l n h.1 (by omega) (by omega)
  have i2:=ttext_ok r n h.2 (by omega) (by omega)
  have l1:=txt_len l h.1
  have l2:=txt_len r h.2
  obtain ⟨m,rfl⟩: ∃ m,n=m + 1:=⟨n - 1,by omega⟩
  have hb2:=brackets_ok m r.txt (by omega)
  have h1:(" or ":Str).length=4:=by decide +kernel
  have e:callM q_text (gF (m + 1 + 1)) (Tr.either l r).pv []=fin (d_zm (gF (m + 1)) [.v (.obj 6 [l.pv,r.pv]),.no]):=rfl
  rw [e]
  unfold d_zm
  have f1:fldP a_left (.obj 6 [l.pv,r.pv])= .ok l.pv:=rfl
  have f2:fldP a_right (.obj 6 [l.pv,r.pv])= .ok r.pv:=rfl
  have q2:=ite_len (b:=r.isE) (x:=r.txt)
  have e2:=catS (x:=l.txt) (y:=" or ") (by rw [sz]; omega)
  have e3:=catS (x:=l.txt ++ " or ") (y:=if r.isE=true then br r.txt else r.txt) (by rw [sz,slen]; omega)
  cases hE:r.isE <;> rw [hE] at e3 <;> simp [f1,f2,i1,i2,isE_ok,hE,hb2] <;> simp at e2 e3 <;> simp [e2,e3,Tr.txt,hE]
theorem mkS_toList (x:Str):mkS x.cps.toList=x:=PySem.Str.ext' (by simp [mkS])
theorem cat_toList (x y:Str):(x ++ y).cps.toList=x.cps.toList ++ y.cps.toList:=by rw [PySem.Str.cps_append]; simp
theorem cat_as (x y z:Str):x ++ y ++ z=x ++ (y ++ z):=PySem.Str.ext' (by simp [PySem.Str.cps_append,Array.append_assoc])
theorem blank:(" ":Str).cps.toList=[32]:=by decide +kernel
theorem good1:goodSep " "=true:=by decide +kernel
theorem spg_free: ∀ (l cur:List Nat),32 ∉ l->spg [32] 0 cur l=[cur.reverse ++ l]
 | [],cur,_=>by simp [spg]
 | c :: l,cur,h=>by
  have hl:32 ∉ l:=fun z=>h (List.mem_cons_of_mem _ z)
  have hp:[32].isPrefixOf (c :: l)=false:=by
   have:(32 == c)=false:=by
    have:c ≠ 32:=fun z=>h (by rw [z]; exact List.mem_cons_self)
    simpa using fun z:32=c=>this z.symm
   simp only [List.isPrefixOf,this,Bool.false_and]
  rw [spg,if_neg (by rw [hp]; exact Bool.false_ne_true),spg_free l _ hl]
  simp
theorem spg_sep: ∀ (l cur r:List Nat),32 ∉ l->spg [32] 0 cur (l ++ 32 :: r)=(cur.reverse ++ l) :: spg [32] 0 [] r
 | [],cur,r,_=>by simp [spg,List.isPrefixOf]
 | c :: l,cur,r,h=>by
  have hl:32 ∉ l:=fun z=>h (List.mem_cons_of_mem _ z)
  have hp:[32].isPrefixOf (c :: (l ++ 32 :: r))=false:=by
   have:(32 == c)=false:=by
    have:c ≠ 32:=fun z=>h (by rw [z]; exact List.mem_cons_self)
    simpa using fun z:32=c=>this z.symm
   simp only [List.isPrefixOf,this,Bool.false_and]
  rw [List.cons_append,spg,if_neg (by rw [hp]; exact Bool.false_ne_true),spg_sep l _ r hl]
  simp
def jn:List Str->Str
 | []=>""
 | [w]=>w
 | w :: v :: r=>w ++ " " ++ jn (v :: r)
theorem jn_cons (w:Str) {r:List Str} (h:r ≠ []):jn (w :: r)=w ++ " " ++ jn r:=by
 cases r with
 | nil=>exact absurd rfl h
 | cons v r=>rfl
theorem spl_jn: ∀ {ws:List Str},ws ≠ []->(∀ w ∈ ws,32 ∉ w.cps.toList)->spl (jn ws) " "=ws
 | [],h,_=>absurd rfl h
 | [w],_,h=>by
  unfold spl
  rw [blank,show jn [w]=w from rfl,spg_free _ _ (h w (by simp))]
  simp [mkS_toList]
 | w :: v :: r,_,h=>by
  have ih:=spl_jn (ws:=v :: r) (by simp) (fun x hx=>h x (List.mem_cons_of_mem _ hx))
  unfold spl at ih ⊢
  rw [blank] at ih ⊢
  rw [jn_cons w (by simp),cat_toList,cat_toList,blank,List.append_assoc]
  show List.map mkS (spg [32] 0 [] (w.cps.toList ++ 32 :: (jn (v :: r)).cps.toList))=_
  rw [spg_sep _ _ _ (h w (by simp)),List.map_cons,ih]
  simp [mkS_toList]
def Tr.lw:Tr->Nat
 | .both _ _=>1 | .either _ _=>2 | _=>0
def Tr.tp:Tr->PV
 | .yes=> .tup [.str "yes"] | .no=> .tup [.str "no"] | .named c=> .tup [.str "named",.str c] | .neg t=> .tup [.str "not",t.tp] | .both l r=> .tup [.str "both",l.tp,r.tp] | .either l r=> .tup [.str "either",l.tp,r.tp]
inductive Fm:Nat->Tr->List Str->Prop where
 | yes:Fm 0 .yes ["yes"]
 | no:Fm 0 .no ["no"]
 | named {c:Str} (h:Letter c):Fm 0 (.named c) [c]
 | neg {t:Tr} {w:List Str} (h:Fm 0 t w):Fm 0 (.neg t) ("not" :: w)
 | br {t:Tr} {w:List Str} (h:Fm 2 t w):Fm 0 t ("(" :: (w ++ [(")":Str)]))
 | both {l r:Tr} {w v:List Str} (h1:Fm 1 l w) (h2:Fm 0 r v):Fm 1 (.both l r) (w ++ ("and":Str) :: v)
 | either {l r:Tr} {w v:List Str} (h1:Fm 2 l w) (h2:Fm 1 r v):Fm 2 (.either l r) (w ++ ("or":Str) :: v)
 | up1 {t:Tr} {w:List Str} (h:Fm 0 t w):Fm 1 t w
 | up2 {t:Tr} {w:List Str} (h:Fm 1 t w):Fm 2 t w
theorem Fm.up {i j:Nat} {t:Tr} {w:List Str} (h:Fm i t w) (hi:i<=j) (hj:j<=2):Fm j t w:=by
 have hh:i=0\/i=1\/i=2:=by omega
 have hg:j=0\/j=1\/j=2:=by omega
 rcases hh with rfl | rfl | rfl <;> rcases hg with rfl | rfl | rfl
 ·exact h
 ·exact h.up1
 ·exact h.up1.up2
 ·omega
 ·exact h
 ·exact h.up2
 ·omega
 ·omega
 ·exact h
theorem fm_ne {i:Nat} {t:Tr} {w:List Str} (h:Fm i t w):w ≠ []:=by
 induction h with
 | yes=>simp
 | no=>simp
 | named h=>simp
 | neg h _=>simp
 | br h _=>simp
 | both h1 h2 _ _=>simp
 | either h1 h2 _ _=>simp
 | up1 h ih=>exact ih
 | up2 h ih=>exact ih
theorem fm_blank {i:Nat} {t:Tr} {w:List Str} (h:Fm i t w): ∀ x ∈ w,32 ∉ x.cps.toList:=by
 have c1:(32:Nat) ∉ ("yes":Str).cps.toList:=by decide +kernel
 have c2:(32:Nat) ∉ ("no":Str).cps.toList:=by decide +kernel
 have c3:(32:Nat) ∉ ("not":Str).cps.toList:=by decide +kernel
 have c4:(32:Nat) ∉ ("(":Str).cps.toList:=by decide +kernel
 have c5:(32:Nat) ∉ (")":Str).cps.toList:=by decide +kernel
 have c6:(32:Nat) ∉ ("and":Str).cps.toList:=by decide +kernel
 have c7:(32:Nat) ∉ ("or":Str).cps.toList:=by decide +kernel
 induction h with
 | yes=>intro x hx; rw [List.mem_singleton.mp hx]; exact c1
 | no=>intro x hx; rw [List.mem_singleton.mp hx]; exact c2
 | named h =>
  intro x hx
  rw [List.mem_singleton.mp hx]
  rcases h with rfl | rfl | rfl | rfl <;> decide +kernel
 | neg h ih =>
  intro x hx
  rcases List.mem_cons.mp hx with rfl | q
  ·exact c3
  ·exact ih x q
 | br h ih =>
  intro x hx
  rcases List.mem_cons.mp hx with rfl | q
  ·exact c4
  ·rcases List.mem_append.mp q with q | q
   ·exact ih x q
   ·rw [List.mem_singleton.mp q]; exact c5
 | both h1 h2 i1 i2 =>
  intro x hx
  rcases List.mem_append.mp hx with q | q
  ·exact i1 x q
  ·rcases List.mem_cons.mp q with rfl | q
   ·exact c6
   ·exact i2 x q
 | either h1 h2 i1 i2 =>
  intro x hx
  rcases List.mem_append.mp hx with q | q
  ·exact i1 x q
  ·rcases List.mem_cons.mp q with rfl | q
   ·exact c7
   ·exact i2 x q
 | up1 h ih=>exact ih
 | up2 h ih=>exact ih
theorem jn_not {w:List Str} (h:w ≠ []):jn ("not" :: w)="not " ++ jn w:=by
 have e1:("not ":Str)="not" ++ " ":=by decide +kernel
 rw [jn_cons _ h,e1]
def RO (ws:List Str) (p:Nat):Ow:= .obj 12 [.lst (ws.map PV.str),.int p]
abbrev R (ws:List Str) (p:Nat):PV:=(RO ws p).pv
theorem at_endo (n:Nat) (ws:List Str) (p:Nat):gF (n + 1) 26 [R ws p]= .ok (.tup [.bl (decide (p=ws.length)),R ws p]):=by
 have e:gF (n + 1) 26 [R ws p]=finO (d_zq (gF n) [.ino (RO ws p)]):=rfl
 rw [e]
 have e2:d_zq (gF n) [.ino (RO ws p)]= .reti (.bl ((p:Int) == (((ws.map PV.str).length:Nat):Int))) (RO ws p):=rfl
 rw [e2]
 have:((p:Int) == (((ws.map PV.str).length:Nat):Int))=decide (p=ws.length):=by
  rw [List.length_map]
  by_cases h:p=ws.length
  ·subst h; simp
  ·rw [decide_eq_false h]
   have: ¬ ((p:Int)=(ws.length:Int)):=by omega
   simpa using this
 rw [this]
 rfl
theorem atI_map {ws:List Str} {p:Nat} {w:Str} (h:ws[p]? =some w):atI (ws.map PV.str) (p:Int)=some (.str w):=by
 have hl:p < ws.length:=(List.getElem?_eq_some_iff.mp h).1
 rw [atI_nat (by rw [List.getElem?_map,h]; rfl)]
theorem passY (n:Nat) {ws:List Str} {p:Nat} {w:Str} (h:ws[p]? =some w):gF (n + 2) 27 [R ws p,.str w]= .ok (.tup [.bl true,R ws (p + 1)]):=by
 have hl:p < ws.length:=(List.getElem?_eq_some_iff.mp h).1
 have e:gF (n + 2) 27 [R ws p,.str w]=finO (d_zr (gF (n + 1)) [.ino (RO ws p),.v (.str w)]):=rfl
 rw [e]
 have a1:mMethO qo_at_end (gF (n + 1)) 0 dNil [.ino (RO ws p),.v (.str w)]= .ok (.bl false,[.ino (RO ws p),.v (.str w)]):=by
  have:mMethO qo_at_end (gF (n + 1)) 0 dNil [.ino (RO ws p),.v (.str w)]=(gF (n + 1) 26 [R ws p]).bind (resO [.ino (RO ws p),.v (.str w)] 0):=rfl
  rw [this,at_endo,decide_eq_false (by omega)]
  rfl
 have a2:(d2 fNe (d2 fIx (dFldI a_words 0) (dFldI a_place 0)) (dSee 1)) [.ino (RO ws p),.v (.str w)]= .ok (.bl false):=by
  have:(d2 fNe (d2 fIx (dFldI a_words 0) (dFldI a_place 0)) (dSee 1)) [.ino (RO ws p),.v (.str w)]=(fIx (.lst (ws.map PV.str)) (.int p)).bind fun x=>fNe x (.str w):=rfl
  rw [this,e_ixL,atI_map h]
  simp
 have a3:sFldAugI a_place 0 (fun i j=>i + j) (dC (.int 1)) [.ino (RO ws p),.v (.str w)]= .nx [.ino (RO ws (p + 1)),.v (.str w)]:=by
  have:sFldAugI a_place 0 (fun i j=>i + j) (dC (.int 1)) [.ino (RO ws p),.v (.str w)]= .nx [.ino (.obj 12 [.lst (ws.map PV.str),.int ((p:Int) + 1)]),.v (.str w)]:=rfl
  rw [this]
  rfl
 unfold d_zr
 rw [e_seq,e_ifM,e_mOr,e_mTr,a1]
 simp only [ok_bind,e_mOfT,e_Tr,a2,ok_st,Bool.false_eq_true,if_false,e_next,next_nx,e_seq]
 rw [a3]
 rfl
theorem passN (n:Nat) {ws:List Str} {p:Nat} {w:Str} (hp:p<=ws.length) (h:ws[p]? ≠ some w):gF (n + 2) 27 [R ws p,.str w]= .ok (.tup [.bl false,R ws p]):=by
 have e:gF (n + 2) 27 [R ws p,.str w]=finO (d_zr (gF (n + 1)) [.ino (RO ws p),.v (.str w)]):=rfl
 rw [e]
 have a0:mMethO qo_at_end (gF (n + 1)) 0 dNil [.ino (RO ws p),.v (.str w)]= .ok (.bl (decide (p=ws.length)),[.ino (RO ws p),.v (.str w)]):=by
  have:mMethO qo_at_end (gF (n + 1)) 0 dNil [.ino (RO ws p),.v (.str w)]=(gF (n + 1) 26 [R ws p]).bind (resO [.ino (RO ws p),.v (.str w)] 0):=rfl
  rw [this,at_endo]
  rfl
 unfold d_zr
 rw [e_seq,e_ifM,e_mOr,e_mTr,a0]
 by_cases q:p=ws.length
 ·rw [decide_eq_true q]
  rfl
 ·rw [decide_eq_false q]
  have hl:p < ws.length:=by omega
  obtain ⟨x,hx⟩: ∃ x,ws[p]? =some x:=⟨_,List.getElem?_eq_getElem hl⟩
  have hne:x ≠ w:=fun z=>h (by rw [hx,z])
  have a2:(d2 fNe (d2 fIx (dFldI a_words 0) (dFldI a_place 0)) (dSee 1)) [.ino (RO ws p),.v (.str w)]= .ok (.bl true):=by
   have:(d2 fNe (d2 fIx (dFldI a_words 0) (dFldI a_place 0)) (dSee 1)) [.ino (RO ws p),.v (.str w)]=(fIx (.lst (ws.map PV.str)) (.int p)).bind fun x=>fNe x (.str w):=rfl
   rw [this,e_ixL,atI_map hx]
   have b:(x == w)=false:=by simpa using hne
   simp [b]
  simp only [ok_bind,e_mOfT,e_Tr,a2,ok_st,Bool.false_eq_true,if_false,if_true]
  rfl
theorem moY (n:Nat) {ws:List Str} {p:Nat} {w:Str} {r:PSt} {d:DA} (hd:d (.ino (RO ws p) :: r)= .ok [.str w]) (h:ws[p]? =some w):mMethO qo_passes (gF (n + 2)) 0 d (.ino (RO ws p) :: r)= .ok (.bl true,.ino (RO ws (p + 1)) :: r):=by
 have:mMethO qo_passes (gF (n + 2)) 0 d (.ino (RO ws p) :: r)=(d (.ino (RO ws p) :: r)).bind fun us=>(gF (n + 2) 27 (R ws p :: us)).bind (resO (.ino (RO ws p) :: r) 0):=rfl
 rw [this,hd,ok_bind,passY n h]
 rfl
theorem moN (n:Nat) {ws:List Str} {p:Nat} {w:Str} {r:PSt} {d:DA} (hd:d (.ino (RO ws p) :: r)= .ok [.str w]) (hp:p<=ws.length) (h:ws[p]? ≠ some w):mMethO qo_passes (gF (n + 2)) 0 d (.ino (RO ws p) :: r)= .ok (.bl false,.ino (RO ws p) :: r):=by
 have:mMethO qo_passes (gF (n + 2)) 0 d (.ino (RO ws p) :: r)=(d (.ino (RO ws p) :: r)).bind fun us=>(gF (n + 2) 27 (R ws p :: us)).bind (resO (.ino (RO ws p) :: r) 0):=rfl
 rw [this,hd,ok_bind,passN n hp h]
 rfl
theorem one_turn (n:Nat) {ws:List Str} {p:Nat} {w:Str} (hp:p<=ws.length) (h:ws[p]? ≠ some w) (s:Sl) (l:List PV) :
  forD (gSet 1) (b_zu_1 (gF (n + 2))) (.str w :: l) [.ino (RO ws p),s]=forD (gSet 1) (b_zu_1 (gF (n + 2))) l [.ino (RO ws p),.v (.str w)]:=by
 have e:b_zu_1 (gF (n + 2)) [.ino (RO ws p),.v (.str w)]= .nx [.ino (RO ws p),.v (.str w)]:=by
  unfold b_zu_1
  rw [e_ifM,e_mTr,moN n (w:=w) rfl hp h]
  rfl
 show ((gSet 1 (.str w) [.ino (RO ws p),s]).st fun ps1=>match b_zu_1 (gF (n + 2)) ps1 with | .nx ps2=>forD (gSet 1) (b_zu_1 (gF (n + 2))) l ps2 | .cnt ps2=>forD (gSet 1) (b_zu_1 (gF (n + 2))) l ps2 | .brk ps2=> .nx ps2 | r=>r)=_
 rw [e_gset,ok_st]
 show (match b_zu_1 (gF (n + 2)) [.ino (RO ws p),.v (.str w)] with | .nx ps2=>forD (gSet 1) (b_zu_1 (gF (n + 2))) l ps2 | .cnt ps2=>forD (gSet 1) (b_zu_1 (gF (n + 2))) l ps2 | .brk ps2=> .nx ps2 | r=>r)=_
 rw [e]
theorem one_hit (n:Nat) {ws:List Str} {p:Nat} {w:Str} (h:ws[p]? =some w) (s:Sl) (l:List PV) :
  forD (gSet 1) (b_zu_1 (gF (n + 2))) (.str w :: l) [.ino (RO ws p),s]= .reti (.obj 3 [.str w]) (RO ws (p + 1)):=by
 have e:b_zu_1 (gF (n + 2)) [.ino (RO ws p),.v (.str w)]= .reti (.obj 3 [.str w]) (RO ws (p + 1)):=by
  unfold b_zu_1
  rw [e_ifM,e_mTr,moY n (w:=w) rfl h]
  rfl
 show ((gSet 1 (.str w) [.ino (RO ws p),s]).st fun ps1=>match b_zu_1 (gF (n + 2)) ps1 with | .nx ps2=>forD (gSet 1) (b_zu_1 (gF (n + 2))) l ps2 | .cnt ps2=>forD (gSet 1) (b_zu_1 (gF (n + 2))) l ps2 | .brk ps2=> .nx ps2 | r=>r)=_
 rw [e_gset,ok_st]
 show (match b_zu_1 (gF (n + 2)) [.ino (RO ws p),.v (.str w)] with | .nx ps2=>forD (gSet 1) (b_zu_1 (gF (n + 2))) l ps2 | .cnt ps2=>forD (gSet 1) (b_zu_1 (gF (n + 2))) l ps2 | .brk ps2=> .nx ps2 | r=>r)=_
 rw [e]
abbrev Rd:=Option (Tr × List Str)
instance (c:Str):Decidable (Letter c):=by unfold Letter; exact inferInstance
def lp (w:Str) (c:Tr->Tr->Tr) (f:List Str->Rd):Nat->Tr->List Str->Rd
 | 0,t,r=>some (t,r)
 | _ + 1,t,[]=>some (t,[])
 | k + 1,t,x :: r=>if x=w then (match f r with | none=>none | some (u,r')=>lp w c f k (c t u) r') else some (t,x :: r)
def sq (w:Str) (c:Tr->Tr->Tr) (f:List Str->Rd) (k:Nat) (ws:List Str):Rd:=match f ws with | none=>none | some (t,r)=>lp w c f k t r
abbrev pBt (f:List Str->Rd) (k:Nat):List Str->Rd:=sq "and" .both f k
abbrev pEt (f:List Str->Rd) (k:Nat):List Str->Rd:=sq "or" .either (pBt f k) k
def clz:Rd->Rd
 | some (t,x :: r)=>if x=")" then some (t,r) else none
 | _=>none
def pS:Nat->List Str->Rd
 | 0,_=>none
 | _ + 1,[]=>none
 | m + 1,w :: r=>if Letter w then some (.named w,r) else if w="yes" then some (.yes,r) else if w="no" then some (.no,r) else if w="not" then (match pS m r with | none=>none | some (t,r')=>some (.neg t,r')) else if w="(" then clz (pEt (pS m) m r) else none
def pl (ws rest:List Str):Nat:=ws.length - rest.length
abbrev Rr (ws rest:List Str):PV:=R ws (pl ws rest)
def res (ws:List Str):Rd->Rx PV
 | none=> .exc 1
 | some (t,r)=> .ok (.tup [t.pv,Rr ws r])
def resM (ws:List Str) (s:PSt):Rd->Rx (PV × PSt)
 | none=> .exc 1
 | some (t,r)=> .ok (t.pv,.ino (RO ws (pl ws r)) :: s)
theorem pl_at {ws rest:List Str} (h:rest <:+ ws):ws[pl ws rest]? =rest.head? :=by
 obtain ⟨l,rfl⟩:=h
 unfold pl
 rw [List.length_append,Nat.add_sub_cancel,List.getElem?_append_right (Nat.le_refl _),Nat.sub_self]
 cases rest <;> rfl
theorem pl_le (ws rest:List Str):pl ws rest<=ws.length:=Nat.sub_le _ _
theorem pl_up {ws r:List Str} {w:Str} (h:(w :: r) <:+ ws):pl ws (w :: r) + 1=pl ws r:=by
 have:=h.length_le
 simp only [List.length_cons] at this
 unfold pl
 simp only [List.length_cons]
 omega
theorem suf_tl {ws r:List Str} {w:Str} (h:(w :: r) <:+ ws):r <:+ ws:=(List.suffix_cons w r).trans h
theorem e_sCut (d:DS) (ps:PSt):sCut d ps=cutX (d ps):=rfl
theorem e_ifMX (t:DTM) (a b:DS) (ps:PSt):sIfMX t a b ps=(cutR (t ps)).st fun r=>if r.1=true then a r.2 else b r.2:=rfl
theorem mxS (n:Nat) {ws r:List Str} {s:PSt} {o:Rd} (k:gF n 30 [Rr ws r]=res ws o):mMethX qo_read_single (gF n) 0 dNil (.ino (RO ws (pl ws r)) :: s)=resM ws s o:=by
 have e:mMethX qo_read_single (gF n) 0 dNil (.ino (RO ws (pl ws r)) :: s)=(gF n 30 [Rr ws r]).bind (resO (.ino (RO ws (pl ws r)) :: s) 0):=rfl
 rw [e,k]
 cases o <;> rfl
theorem mxK (n:Nat) {ws r:List Str} {s:PSt} {o:Rd} (k:gF n 31 [Rr ws r]=res ws o):mMethX qo_read_bracket (gF n) 0 dNil (.ino (RO ws (pl ws r)) :: s)=resM ws s o:=by
 have e:mMethX qo_read_bracket (gF n) 0 dNil (.ino (RO ws (pl ws r)) :: s)=(gF n 31 [Rr ws r]).bind (resO (.ino (RO ws (pl ws r)) :: s) 0):=rfl
 rw [e,k]
 cases o <;> rfl
theorem mxB (n:Nat) {ws r:List Str} {s:PSt} {o:Rd} (k:gF n 29 [Rr ws r]=res ws o):mMethX qo_read_both (gF n) 0 dNil (.ino (RO ws (pl ws r)) :: s)=resM ws s o:=by
 have e:mMethX qo_read_both (gF n) 0 dNil (.ino (RO ws (pl ws r)) :: s)=(gF n 29 [Rr ws r]).bind (resO (.ino (RO ws (pl ws r)) :: s) 0):=rfl
 rw [e,k]
 cases o <;> rfl
theorem mxE (n:Nat) {ws r:List Str} {s:PSt} {o:Rd} (k:gF n 28 [Rr ws r]=res ws o):mMethX qo_read_either (gF n) 0 dNil (.ino (RO ws (pl ws r)) :: s)=resM ws s o:=by
 have e:mMethX qo_read_either (gF n) 0 dNil (.ino (RO ws (pl ws r)) :: s)=(gF n 28 [Rr ws r]).bind (resO (.ino (RO ws (pl ws r)) :: s) 0):=rfl
 rw [e,k]
 cases o <;> rfl
theorem paY (n:Nat) {ws r:List Str} {w:Str} {s:PSt} {d:DA} (hd:d (.ino (RO ws (pl ws (w :: r))) :: s)= .ok [.str w]) (h:(w :: r) <:+ ws):mMethO qo_passes (gF (n + 2)) 0 d (.ino (RO ws (pl ws (w :: r))) :: s)= .ok (.bl true,.ino (RO ws (pl ws r)) :: s):=by
 rw [moY n hd (by rw [pl_at h]; rfl),pl_up h]
theorem paN (n:Nat) {ws rest:List Str} {w:Str} {s:PSt} {d:DA} (hd:d (.ino (RO ws (pl ws rest)) :: s)= .ok [.str w]) (h:rest <:+ ws) (hn:rest.head? ≠ some w):mMethO qo_passes (gF (n + 2)) 0 d (.ino (RO ws (pl ws rest)) :: s)= .ok (.bl false,.ino (RO ws (pl ws rest)) :: s) :=
 moN n hd (pl_le _ _) (by rw [pl_at h]; exact hn)
theorem single_eq (n:Nat) (ws:List Str) (p:Nat):gF (n + 1) 30 [R ws p]=finO (d_zu (gF n) [.ino (RO ws p),.no]):=rfl
theorem no_letter (n:Nat) {ws:List Str} {p:Nat} (hp:p<=ws.length) (h: ∀ c,Letter c->ws[p]? ≠ some c):forD (gSet 1) (b_zu_1 (gF (n + 2))) c_LETTERS [.ino (RO ws p),.no]= .nx [.ino (RO ws p),.v (.str "d")]:=by
 rw [one_turn n hp (h _ (.inl rfl)),one_turn n hp (h _ (.inr (.inl rfl))),one_turn n hp (h _ (.inr (.inr (.inl rfl)))),one_turn n hp (h _ (.inr (.inr (.inr rfl))))]
 rfl
theorem single_letter (n:Nat) {ws:List Str} {p:Nat} {c:Str} (hc:Letter c) (h:ws[p]? =some c):gF (n + 3) 30 [R ws p]= .ok (.tup [.obj 3 [.str c],R ws (p + 1)]):=by
 have hp:p<=ws.length:=Nat.le_of_lt (List.getElem?_eq_some_iff.mp h).1
 have ne: ∀ {w:Str},c ≠ w->ws[p]? ≠ some w:=fun hw z=>hw (by rw [h] at z; exact Option.some.inj z)
 rw [single_eq]
 unfold d_zu
 have key:forD (gSet 1) (b_zu_1 (gF (n + 2))) c_LETTERS [.ino (RO ws p),.no]= .reti (.obj 3 [.str c]) (RO ws (p + 1)):=by
  rcases hc with rfl | rfl | rfl | rfl
  ·exact one_hit n h _ _
  ·rw [one_turn n hp (ne (by decide +kernel))]; exact one_hit n h _ _
  ·rw [one_turn n hp (ne (by decide +kernel)),one_turn n hp (ne (by decide +kernel))]; exact one_hit n h _ _
  ·rw [one_turn n hp (ne (by decide +kernel)),one_turn n hp (ne (by decide +kernel)),one_turn n hp (ne (by decide +kernel))]; exact one_hit n h _ _
 rw [e_seq,e_sCut,e_for,e_itemsT,e_C]
 simp only [ok_bind,ok_st]
 rw [key]
 rfl
theorem single_on (n:Nat) {ws rest:List Str} (hs:rest <:+ ws) (hl: ∀ c,Letter c->rest.head? ≠ some c):gF (n + 3) 30 [Rr ws rest]=finO (((sSeq (sCut (sIfM (mTr (mMethO qo_passes (gF (n + 2)) 0 (dCons (dC (.str "yes")) dNil))) (sRetI (dC (.obj 1 []))) sNext)) (sSeq (sCut (sIfM (mTr (mMethO qo_passes (gF (n + 2)) 0 (dCons (dC (.str "no")) dNil))) (sRetI (dC (.obj 2 []))) sNext)) (sSeq (sIfMX (mTr (mMethO qo_passes (gF (n + 2)) 0 (dCons (dC (.str "not")) dNil))) (sRetIM (mNew 4 1 (mCons (mMethX qo_read_single (gF (n + 2)) 0 dNil) mNil))) sNext) (sSeq (sIfMX (mTr (mMethO qo_passes (gF (n + 2)) 0 (dCons (dC (.str "(")) dNil))) (sRetIM (mMethX qo_read_bracket (gF (n + 2)) 0 dNil)) sNext) (sRaise 1))))) [.ino (RO ws (pl ws rest)),.v (.str "d")])):=by
 have nl:=no_letter n (pl_le ws rest) fun c hc=>by rw [pl_at hs]; exact hl c hc
 rw [single_eq]
 unfold d_zu
 rw [e_seq,e_sCut,e_for,e_itemsT,e_C]
 simp only [ok_bind,ok_st]
 rw [nl]
 rfl
theorem hd_of {w:Str} {rest:List Str} (h:rest.head? =some w): ∃ r,rest=w :: r:=by
 cases rest with
 | nil=>cases h
 | cons a r=>exact ⟨r,by rw [Option.some.inj h]⟩
theorem single_st (n m:Nat) (ws:List Str) (IS: ∀ rest,rest <:+ ws->rest.length<=m->gF (n + 2) 30 [Rr ws rest]=res ws (pS m rest))
  (IK: ∀ rest,rest <:+ ws->rest.length<=m->gF (n + 2) 31 [Rr ws rest]=res ws (clz (pEt (pS m) m rest))): ∀ rest,rest <:+ ws->rest.length<=m + 1->gF (n + 3) 30 [Rr ws rest]=res ws (pS (m + 1) rest):=by
 intro rest hs hm
 have go:(∀ c,Letter c->rest.head? ≠ some c)->gF (n + 3) 30 [Rr ws rest]=res ws (pS (m + 1) rest):=by
  intro hl
  rw [single_on n hs hl,e_seq,e_sCut,e_ifM,e_mTr]
  by_cases h1:rest.head? =some ("yes":Str)
  ·obtain ⟨r,rfl⟩:=hd_of h1
   rw [paY n (w:="yes") rfl hs]
   have: ¬ Letter "yes":=fun z=>hl _ z rfl
   simp only [pS,if_neg this,if_pos]
   rfl
  rw [paN n (w:="yes") rfl hs h1]
  simp only [ok_bind,ok_st,Bool.false_eq_true,if_false,e_next,cutX_nx,next_nx]
  rw [e_seq,e_sCut,e_ifM,e_mTr]
  by_cases h2:rest.head? =some ("no":Str)
  ·obtain ⟨r,rfl⟩:=hd_of h2
   rw [paY n (w:="no") rfl hs]
   have: ¬ Letter "no":=fun z=>hl _ z rfl
   have y: ¬ ("no":Str)="yes":=by decide +kernel
   simp only [pS,if_neg this,if_neg y,if_pos]
   rfl
  rw [paN n (w:="no") rfl hs h2]
  simp only [ok_bind,ok_st,Bool.false_eq_true,if_false,e_next,cutX_nx,next_nx]
  rw [e_seq,e_ifMX,e_mTr]
  by_cases h3:rest.head? =some ("not":Str)
  ·obtain ⟨r,rfl⟩:=hd_of h3
   rw [paY n (w:="not") rfl hs]
   have: ¬ Letter "not":=fun z=>hl _ z rfl
   have y: ¬ ("not":Str)="yes":=by decide +kernel
   have z: ¬ ("not":Str)="no":=by decide +kernel
   have k:=mxS (n + 2) (s:=[.v (.str "d")]) (IS r (suf_tl hs) (by simp only [List.length_cons] at hm; omega))
   simp only [pS,if_neg this,if_neg y,if_neg z,if_pos,ok_bind,cutR_ok,ok_st]
   unfold sRetIM
   rw [e_mNew,e_mcons,k]
   cases pS m r with
   | none=>rfl
   | some x=>rfl
  rw [paN n (w:="not") rfl hs h3]
  simp only [ok_bind,cutR_ok,ok_st,Bool.false_eq_true,if_false,e_next,next_nx]
  rw [e_seq,e_ifMX,e_mTr]
  by_cases h4:rest.head? =some ("(":Str)
  ·obtain ⟨r,rfl⟩:=hd_of h4
   rw [paY n (w:="(") rfl hs]
   have: ¬ Letter "(":=fun z=>hl _ z rfl
   have y: ¬ ("(":Str)="yes":=by decide +kernel
   have z: ¬ ("(":Str)="no":=by decide +kernel
   have z2: ¬ ("(":Str)="not":=by decide +kernel
   have k:=mxK (n + 2) (s:=[.v (.str "d")]) (IK r (suf_tl hs) (by simp only [List.length_cons] at hm; omega))
   simp only [pS,if_neg this,if_neg y,if_neg z,if_neg z2,if_pos,ok_bind,cutR_ok,ok_st]
   unfold sRetIM
   rw [k]
   cases clz (pEt (pS m) m r) with
   | none=>rfl
   | some x=>rfl
  rw [paN n (w:="(") rfl hs h4]
  cases rest with
  | nil=>rfl
  | cons x r =>
   have n0: ¬ Letter x:=fun z=>hl _ z rfl
   have n1: ¬ x="yes":=fun z=>h1 (by rw [z]; rfl)
   have n2: ¬ x="no":=fun z=>h2 (by rw [z]; rfl)
   have n3: ¬ x="not":=fun z=>h3 (by rw [z]; rfl)
   have n4: ¬ x="(":=fun z=>h4 (by rw [z]; rfl)
   simp only [pS,if_neg n0,if_neg n1,if_neg n2,if_neg n3,if_neg n4]
   rfl
 cases rest with
 | nil=>exact go fun c _ z=>by cases z
 | cons x r =>
  by_cases hx:Letter x
  ·have e:ws[pl ws (x :: r)]? =some x:=by rw [pl_at hs]; rfl
   rw [single_letter n hx e,pl_up hs]
   simp only [pS,if_pos hx]
   rfl
  ·exact go fun c hc z=>hx (by rw [Option.some.inj z]; exact hc)
def resL (ws:List Str):Rd->Rs
 | none=> .exc 1
 | some (t,r)=> .nx [.ino (RO ws (pl ws r)),.v t.pv]
theorem lpB (n m:Nat) (ws:List Str) (f:List Str->Rd) (hf: ∀ a t r,f a=some (t,r)->r <:+ a) (IS: ∀ rest,rest <:+ ws->rest.length<=m->gF (n + 2) 30 [Rr ws rest]=res ws (f rest)): ∀ (k j:Nat) (t:Tr) (rest:List Str),rest <:+ ws->rest.length<=m->rest.length<=k->k < j ->
  iterM (fun ps=>cutR ((mTr (mMethO qo_passes (gF (n + 2)) 0 (dCons (dC (.str "and")) dNil))) ps)) (sSetM 1 (mNew 5 2 (mCons (mCutM (dLift (dVar 1))) (mCons (mMethX qo_read_single (gF (n + 2)) 0 dNil) mNil)))) j [.ino (RO ws (pl ws rest)),.v t.pv]=some (resL ws (lp "and" .both f k t rest))
 | k,0,t,rest,hs,hm,hk,hj=>absurd hj (Nat.not_lt_zero _)
 | k,j + 1,t,rest,hs,hm,hk,hj=>by
  rw [iterM,e_mTr]
  by_cases h:rest.head? =some ("and":Str)
  ·obtain ⟨r,rfl⟩:=hd_of h
   simp only [List.length_cons] at hm hk
   obtain ⟨k,rfl⟩: ∃ q,k=q + 1:=⟨k - 1,by omega⟩
   rw [paY n (w:="and") rfl hs]
   simp only [ok_bind,cutR_ok]
   have ks:=mxS (n + 2) (s:=[.v t.pv]) (IS r (suf_tl hs) (by omega))
   have l:mCutM (dLift (dVar 1)) [.ino (RO ws (pl ws r)),.v t.pv]= .ok (t.pv,[.ino (RO ws (pl ws r)),.v t.pv]):=rfl
   rw [e_setM,e_mNew,e_mcons,l]
   simp only [ok_bind]
   rw [e_mcons,ks]
   simp only [lp,if_pos]
   cases hr:f r with
   | none=>rfl
   | some x =>
    obtain ⟨u,r'⟩:=x
    have h2:=hf _ _ _ hr
    have h3:=h2.length_le
    exact lpB n m ws f hf IS k j (.both t u) r' (h2.trans (suf_tl hs)) (by omega) (by omega) (by omega)
  ·rw [paN n (w:="and") rfl hs h]
   cases k with
   | zero=>rfl
   | succ k =>
    cases rest with
    | nil=>rfl
    | cons x r =>
     have: ¬ x="and":=fun z=>h (by rw [z]; rfl)
     simp only [lp,if_neg this]
     rfl
theorem lpE (n m:Nat) (ws:List Str) (f:List Str->Rd) (hf: ∀ a t r,f a=some (t,r)->r <:+ a) (IS: ∀ rest,rest <:+ ws->rest.length<=m->gF (n + 2) 29 [Rr ws rest]=res ws (f rest)): ∀ (k j:Nat) (t:Tr) (rest:List Str),rest <:+ ws->rest.length<=m->rest.length<=k->k < j ->
  iterM (fun ps=>cutR ((mTr (mMethO qo_passes (gF (n + 2)) 0 (dCons (dC (.str "or")) dNil))) ps)) (sSetM 1 (mNew 6 2 (mCons (mCutM (dLift (dVar 1))) (mCons (mMethX qo_read_both (gF (n + 2)) 0 dNil) mNil)))) j [.ino (RO ws (pl ws rest)),.v t.pv]=some (resL ws (lp "or" .either f k t rest))
 | k,0,t,rest,hs,hm,hk,hj=>absurd hj (Nat.not_lt_zero _)
 | k,j + 1,t,rest,hs,hm,hk,hj=>by
  rw [iterM,e_mTr]
  by_cases h:rest.head? =some ("or":Str)
  ·obtain ⟨r,rfl⟩:=hd_of h
   simp only [List.length_cons] at hm hk
   obtain ⟨k,rfl⟩: ∃ q,k=q + 1:=⟨k - 1,by omega⟩
   rw [paY n (w:="or") rfl hs]
   simp only [ok_bind,cutR_ok]
   have ks:=mxB (n + 2) (s:=[.v t.pv]) (IS r (suf_tl hs) (by omega))
   have l:mCutM (dLift (dVar 1)) [.ino (RO ws (pl ws r)),.v t.pv]= .ok (t.pv,[.ino (RO ws (pl ws r)),.v t.pv]):=rfl
   rw [e_setM,e_mNew,e_mcons,l]
   simp only [ok_bind]
   rw [e_mcons,ks]
   simp only [lp,if_pos]
   cases hr:f r with
   | none=>rfl
   | some x =>
    obtain ⟨u,r'⟩:=x
    have h2:=hf _ _ _ hr
    have h3:=h2.length_le
    exact lpE n m ws f hf IS k j (.either t u) r' (h2.trans (suf_tl hs)) (by omega) (by omega) (by omega)
  ·rw [paN n (w:="or") rfl hs h]
   cases k with
   | zero=>rfl
   | succ k =>
    cases rest with
    | nil=>rfl
    | cons x r =>
     have: ¬ x="or":=fun z=>h (by rw [z]; rfl)
     simp only [lp,if_neg this]
     rfl
theorem lp_suf {w:Str} {c:Tr->Tr->Tr} {f:List Str->Rd} (hf: ∀ a t r,f a=some (t,r)->r <:+ a): ∀ (k:Nat) (t:Tr) (a:List Str) (t':Tr) (r:List Str),lp w c f k t a=some (t',r)->r <:+ a
 | 0,t,a,t',r,h=>by cases h; exact List.suffix_refl _
 | k + 1,t,[],t',r,h=>by cases h; exact List.suffix_refl _
 | k + 1,t,x :: a,t',r,h=>by
  unfold lp at h
  split at h
  ·split at h
   ·cases h
   ·rename_i u r' hr
    exact (lp_suf hf k _ _ _ _ h).trans ((hf _ _ _ hr).trans (List.suffix_cons _ _))
  ·cases h; exact List.suffix_refl _
theorem sq_suf {w:Str} {c:Tr->Tr->Tr} {f:List Str->Rd} (hf: ∀ a t r,f a=some (t,r)->r <:+ a) (k:Nat) (a:List Str) (t:Tr) (r:List Str) (h:sq w c f k a=some (t,r)):r <:+ a:=by
 unfold sq at h
 split at h
 ·cases h
 ·rename_i u r' hr
  exact (lp_suf hf k _ _ _ _ h).trans (hf _ _ _ hr)
theorem pS_suf: ∀ (m:Nat) (a:List Str) (t:Tr) (r:List Str),pS m a=some (t,r)->r <:+ a
 | 0,a,t,r,h=>by cases h
 | m + 1,[],t,r,h=>by cases h
 | m + 1,w :: a,t,r,h=>by
  unfold pS at h
  split at h
  ·cases h; exact List.suffix_cons _ _
  split at h
  ·cases h; exact List.suffix_cons _ _
  split at h
  ·cases h; exact List.suffix_cons _ _
  split at h
  ·split at h
   ·cases h
   ·rename_i u r' hr
    cases h
    exact (pS_suf m _ _ _ hr).trans (List.suffix_cons _ _)
  split at h
  ·unfold clz at h
   split at h
   ·rename_i u x r' hr
    split at h
    ·cases h
     have:=sq_suf (sq_suf (pS_suf m) m) m _ _ _ hr
     exact (List.suffix_cons _ _).trans (this.trans (List.suffix_cons _ _))
    ·cases h
   ·cases h
  ·cases h
theorem both_st (n m:Nat) (ws:List Str) (hm:m < 100000) (IS: ∀ rest,rest <:+ ws->rest.length<=m->gF (n + 2) 30 [Rr ws rest]=res ws (pS m rest)): ∀ rest,rest <:+ ws->rest.length<=m->gF (n + 3) 29 [Rr ws rest]=res ws (pBt (pS m) m rest):=by
 intro rest hs hl
 have e:gF (n + 3) 29 [Rr ws rest]=finO (d_zt (gF (n + 2)) [.ino (RO ws (pl ws rest)),.no]):=rfl
 rw [e]
 unfold d_zt
 rw [e_seq,e_setM,mxS (n + 2) (IS rest hs hl)]
 unfold pBt sq
 cases hr:pS m rest with
 | none=>rfl
 | some x =>
  obtain ⟨t,r⟩:=x
  have h2:=pS_suf m _ _ _ hr
  have h3:=h2.length_le
  have l:=lpB n m ws (pS m) (pS_suf m) IS m 100000 t r (h2.trans hs) (by omega) (by omega) hm
  simp only [resM,ok_st,List.set_cons_succ,List.set_cons_zero,next_nx]
  rw [e_seq,e_whileM,l]
  show finO ((resL ws (lp "and" .both (pS m) m t r)).next _)=res ws (lp "and" .both (pS m) m t r)
  cases lp "and" .both (pS m) m t r <;> rfl
theorem either_st (n m:Nat) (ws:List Str) (hm:m < 100000) (IB: ∀ rest,rest <:+ ws->rest.length<=m->gF (n + 2) 29 [Rr ws rest]=res ws (pBt (pS m) m rest)): ∀ rest,rest <:+ ws->rest.length<=m->gF (n + 3) 28 [Rr ws rest]=res ws (pEt (pS m) m rest):=by
 intro rest hs hl
 have e:gF (n + 3) 28 [Rr ws rest]=finO (d_zs (gF (n + 2)) [.ino (RO ws (pl ws rest)),.no]):=rfl
 rw [e]
 unfold d_zs
 rw [e_seq,e_setM,mxB (n + 2) (IB rest hs hl)]
 unfold pEt
 rw [sq]
 cases hr:pBt (pS m) m rest with
 | none=>rfl
 | some x =>
  obtain ⟨t,r⟩:=x
  have h2:=sq_suf (pS_suf m) m _ _ _ hr
  have h3:=h2.length_le
  have l:=lpE n m ws (pBt (pS m) m) (sq_suf (pS_suf m) m) IB m 100000 t r (h2.trans hs) (by omega) (by omega) hm
  simp only [resM,ok_st,List.set_cons_succ,List.set_cons_zero,next_nx]
  rw [e_seq,e_whileM,l]
  show finO ((resL ws (lp "or" .either (pBt (pS m) m) m t r)).next _)=res ws (lp "or" .either (pBt (pS m) m) m t r)
  cases lp "or" .either (pBt (pS m) m) m t r <;> rfl
theorem bracket_st (n m:Nat) (ws:List Str) (IE: ∀ rest,rest <:+ ws->rest.length<=m->gF (n + 2) 28 [Rr ws rest]=res ws (pEt (pS m) m rest)): ∀ rest,rest <:+ ws->rest.length<=m->gF (n + 3) 31 [Rr ws rest]=res ws (clz (pEt (pS m) m rest)):=by
 intro rest hs hl
 have e:gF (n + 3) 31 [Rr ws rest]=finO (d_zv (gF (n + 2)) [.ino (RO ws (pl ws rest)),.no]):=rfl
 rw [e]
 unfold d_zv
 rw [e_seq,e_setM,mxE (n + 2) (IE rest hs hl)]
 cases hr:pEt (pS m) m rest with
 | none=>rfl
 | some x =>
  obtain ⟨t,r⟩:=x
  have h2:=(sq_suf (sq_suf (pS_suf m) m) m _ _ _ hr).trans hs
  simp only [resM,ok_st,List.set_cons_succ,List.set_cons_zero,next_nx]
  rw [e_seq,e_ifMX,e_mNot,e_mTr]
  by_cases h:r.head? =some (")":Str)
  ·obtain ⟨r,rfl⟩:=hd_of h
   rw [paY n (w:=")") rfl h2]
   simp only [clz,if_pos]
   rfl
  ·rw [paN n (w:=")") rfl h2 h]
   cases r with
   | nil=>rfl
   | cons x r =>
    have: ¬ x=")":=fun z=>h (by rw [z]; rfl)
    simp only [clz,if_neg this]
    rfl
theorem single_nil (n:Nat) (ws:List Str): ∀ rest,rest <:+ ws->rest.length<=0->gF (n + 3) 30 [Rr ws rest]=res ws (pS 0 rest):=by
 intro rest hs hl
 obtain rfl:rest=[]:=List.length_eq_zero_iff.mp (by omega)
 rw [single_on n hs (fun c _ z=>by cases z),e_seq,e_sCut,e_ifM,e_mTr,paN n (w:="yes") rfl hs (fun z=>by cases z)]
 simp only [ok_bind,ok_st,Bool.false_eq_true,if_false,e_next,cutX_nx,next_nx]
 rw [e_seq,e_sCut,e_ifM,e_mTr,paN n (w:="no") rfl hs (fun z=>by cases z)]
 simp only [ok_bind,ok_st,Bool.false_eq_true,if_false,e_next,cutX_nx,next_nx]
 rw [e_seq,e_ifMX,e_mTr,paN n (w:="not") rfl hs (fun z=>by cases z)]
 simp only [ok_bind,cutR_ok,ok_st,Bool.false_eq_true,if_false,e_next,next_nx]
 rw [e_seq,e_ifMX,e_mTr,paN n (w:="(") rfl hs (fun z=>by cases z)]
 rfl
theorem single_all (ws:List Str): ∀ (m n:Nat),m < 1000->4 * m + 3<=n-> ∀ rest,rest <:+ ws->rest.length<=m->gF n 30 [Rr ws rest]=res ws (pS m rest)
 | 0,n,_,hn=>by
  obtain ⟨j,rfl⟩: ∃ j,n=j + 3:=⟨n - 3,by omega⟩
  exact single_nil j ws
 | m + 1,n,hm,hn=>by
  obtain ⟨j,rfl⟩: ∃ j,n=j + 7:=⟨n - 7,by omega⟩
  have ih:=single_all ws m
  exact single_st (j + 4) m ws (ih (j + 6) (by omega) (by omega)) (bracket_st (j + 3) m ws (either_st (j + 2) m ws (by omega) (both_st (j + 1) m ws (by omega) (ih (j + 3) (by omega) (by omega)))))
theorem either_all (ws:List Str) (n:Nat) (hw:ws.length<=40) (hn:165<=n):gF n 28 [R ws 0]=res ws (pEt (pS 40) 40 ws):=by
 obtain ⟨j,rfl⟩: ∃ j,n=j + 4:=⟨n - 4,by omega⟩
 have:=either_st (j + 1) 40 ws (by omega) (both_st j 40 ws (by omega) (single_all ws 40 (j + 2) (by omega) (by omega))) ws (List.suffix_refl _) hw
 unfold Rr pl at this
 rw [Nat.sub_self] at this
 exact this
abbrev Sta:=Option (Nat × Bool)
def Leaf (w:Str):Prop:=Letter w\/w="yes"\/w="no"
instance (w:Str):Decidable (Leaf w):=by unfold Leaf; exact inferInstance
def stp:Sta->Str->Sta
 | none,_=>none
 | some (d,false),w=>if Leaf w then some (d,true) else if w="not" then some (d,false) else if w="(" then some (d + 1,false) else none
 | some (d,true),w=>if w="and"\/w="or" then some (d,false) else if w=")" then (match d with | 0=>none | e + 1=>some (e,true)) else none
def run (s:Sta) (ws:List Str):Sta:=ws.foldl stp s
def Acc (ws:List Str):Prop:=run (some (0,false)) ws=some (0,true)
theorem run_cons (s:Sta) (w:Str) (ws:List Str):run s (w :: ws)=run (stp s w) ws:=rfl
theorem run_none (ws:List Str):run none ws=none:=by
 induction ws with
 | nil=>rfl
 | cons w ws ih=>exact ih
theorem stp_f (d:Nat) (w:Str):stp (some (d,false)) w=if Leaf w then some (d,true) else if w="not" then some (d,false) else if w="(" then some (d + 1,false) else none:=rfl
theorem stp_leaf {w:Str} (d:Nat) (h:Leaf w):stp (some (d,false)) w=some (d,true):=by
 rw [stp_f,if_pos h]
theorem stp_not (d:Nat):stp (some (d,false)) "not"=some (d,false):=by
 rw [stp_f,if_neg (by decide +kernel),if_pos rfl]
theorem stp_op (d:Nat):stp (some (d,false)) "("=some (d + 1,false):=by
 rw [stp_f,if_neg (by decide +kernel),if_neg (by decide +kernel),if_pos rfl]
theorem stp_and (d:Nat):stp (some (d,true)) "and"=some (d,false):=rfl
theorem stp_or (d:Nat):stp (some (d,true)) "or"=some (d,false):=rfl
theorem stp_h {w:Str} {d:Nat} (h1:w ≠ "and") (h2:w ≠ "or") (h3:w ≠ ")"):stp (some (d,true)) w=none:=by
 show (if w="and"\/w="or" then _ else _)=_
 rw [if_neg (fun z=>z.elim h1 h2),if_neg h3]
theorem stp_h0 {w:Str} (h1:w ≠ "and") (h2:w ≠ "or"):stp (some (0,true)) w=none:=by
 show (if w="and"\/w="or" then _ else _)=_
 rw [if_neg (fun z=>z.elim h1 h2)]
 split <;> rfl
theorem stp_w {w:Str} {d:Nat} (h1: ¬ Leaf w) (h2:w ≠ "not") (h3:w ≠ "("):stp (some (d,false)) w=none:=by
 rw [stp_f,if_neg h1,if_neg h2,if_neg h3]
theorem fm_run {i:Nat} {t:Tr} {w:List Str} (f:Fm i t w): ∀ (d:Nat) (r:List Str),run (some (d,false)) (w ++ r)=run (some (d,true)) r:=by
 induction f with
 | yes=>intro d r; show run (stp _ _) r=_; rw [stp_leaf d (.inr (.inl rfl))]
 | no=>intro d r; show run (stp _ _) r=_; rw [stp_leaf d (.inr (.inr rfl))]
 | named h=>intro d r; show run (stp _ _) r=_; rw [stp_leaf d (.inl h)]
 | neg h ih=>intro d r; rw [List.cons_append,run_cons,stp_not]; exact ih d r
 | br h ih=>intro d r; rw [List.cons_append,run_cons,stp_op,List.append_assoc,ih (d + 1)]; rfl
 | both h1 h2 i1 i2=>intro d r; rw [List.append_assoc,i1 d,List.cons_append,run_cons,stp_and]; exact i2 d r
 | either h1 h2 i1 i2=>intro d r; rw [List.append_assoc,i1 d,List.cons_append,run_cons,stp_or]; exact i2 d r
 | up1 h ih=>exact ih
 | up2 h ih=>exact ih
theorem fm_acc {t:Tr} {w:List Str} {i:Nat} (f:Fm i t w):Acc w:=by
 have:=fm_run f 0 []
 rw [List.append_nil] at this
 exact this
theorem fm_ok {i:Nat} {t:Tr} {w:List Str} (f:Fm i t w):t.ok:=by
 induction f with
 | yes=>trivial
 | no=>trivial
 | named h=>exact h
 | neg h ih=>exact ih
 | br h ih=>exact ih
 | both h1 h2 i1 i2=>exact ⟨i1,i2⟩
 | either h1 h2 i1 i2=>exact ⟨i1,i2⟩
 | up1 h ih=>exact ih
 | up2 h ih=>exact ih
theorem fm_size {i:Nat} {t:Tr} {w:List Str} (f:Fm i t w):t.size<=w.length:=by
 induction f with
 | yes=>exact Nat.le_refl _
 | no=>exact Nat.le_refl _
 | named h=>exact Nat.le_refl _
 | neg h ih=>exact Nat.succ_le_succ ih
 | br h ih=>simp only [List.length_cons,List.length_append]; omega
 | both h1 h2 i1 i2=>simp only [List.length_cons,List.length_append,Tr.size]; omega
 | either h1 h2 i1 i2=>simp only [List.length_cons,List.length_append,Tr.size]; omega
 | up1 h ih=>exact ih
 | up2 h ih=>exact ih
theorem depth_size: ∀ t:Tr,t.depth < t.size
 | .yes=>Nat.lt_succ_self 0
 | .no=>Nat.lt_succ_self 0
 | .named _=>Nat.lt_succ_self 0
 | .neg t=>Nat.succ_lt_succ (depth_size t)
 | .both l r=>by have:=depth_size l; have:=depth_size r; simp only [Tr.depth,Tr.size]; omega
 | .either l r=>by have:=depth_size l; have:=depth_size r; simp only [Tr.depth,Tr.size]; omega
structure Gd (f:List Str->Rd) (m i:Nat) (hd:Str->Prop):Prop where
 yes: ∀ a t r,a.length<=m->f a=some (t,r)-> ∃ w,a=w ++ r/\Fm i t w
 av: ∀ a t r w,a.length<=m->f a=some (t,r)->hd w->r.head? ≠ some w
 no: ∀ a d,a.length<=m->f a=none->run (some (d,false)) a ≠ some (0,true)
theorem lp_gd {f:List Str->Rd} {m i j:Nat} {hd:Str->Prop} {w:Str} {c:Tr->Tr->Tr} (F:Gd f m i hd) (hc: ∀ l r a b,Fm j l a->Fm i r b->Fm j (c l r) (a ++ w :: b)) (hw: ∀ d,stp (some (d,true)) w=some (d,false)): ∀ (k:Nat) (t:Tr) (a w0:List Str),a.length<=m->a.length<=k->Fm j t w0->(∀ v,hd v->a.head? ≠ some v) ->
  (∀ t' r,lp w c f k t a=some (t',r)->(∃ b,w0 ++ a=b ++ r/\Fm j t' b)/\(∀ v,hd v\/v=w->r.head? ≠ some v))/\(lp w c f k t a=none-> ∀ d,run (some (d,true)) a ≠ some (0,true))
 | 0,t,a,w0,hm,hk,ht,hh=>by
  obtain rfl:a=[]:=List.length_eq_zero_iff.mp (by omega)
  refine ⟨fun t' r h=> ?_,fun h=>by cases h⟩
  cases h
  exact ⟨⟨w0,rfl,ht⟩,fun v _ z=>by cases z⟩
 | k + 1,t,[],w0,hm,hk,ht,hh=>by
  refine ⟨fun t' r h=> ?_,fun h=>by cases h⟩
  cases h
  exact ⟨⟨w0,rfl,ht⟩,fun v _ z=>by cases z⟩
 | k + 1,t,x :: a,w0,hm,hk,ht,hh=>by
  simp only [List.length_cons] at hm hk
  by_cases hx:x=w
  ·subst hx
   have e:lp x c f (k + 1) t (x :: a)=(match f a with | none=>none | some (u,r')=>lp x c f k (c t u) r'):=by
    simp only [lp,if_pos]
    try rfl
   rw [e]
   cases hf:f a with
   | none =>
    refine ⟨fun t' r h=>(by cases h),fun _ d=> ?_⟩
    rw [run_cons,hw]
    exact F.no a d (by omega) hf
   | some y =>
    obtain ⟨u,r'⟩:=y
    obtain ⟨b,eb,fb⟩:=F.yes a u r' (by omega) hf
    have hl:r'.length<=a.length:=by rw [eb,List.length_append]; omega
    have ih:=lp_gd F hc hw k (c t u) r' (w0 ++ x :: b) (by omega) (by omega) (hc _ _ _ _ ht fb) (fun v hv=>F.av a u r' v (by omega) hf hv)
    refine ⟨fun t' r h=> ?_,fun h d=> ?_⟩
    ·obtain ⟨⟨b',e1,e2⟩,e3⟩:=ih.1 t' r h
     refine ⟨⟨b',?_,e2⟩,e3⟩
     rw [<- e1,eb]
     simp
    ·rw [run_cons,hw,eb,fm_run fb d]
     exact ih.2 h d
  ·have e:lp w c f (k + 1) t (x :: a)=some (t,x :: a):=by
    show (if x=w then _ else _)=_
    rw [if_neg hx]
   rw [e]
   refine ⟨fun t' r h=> ?_,fun h=>by cases h⟩
   cases h
   exact ⟨⟨w0,rfl,ht⟩,fun v hv z=>hv.elim (fun q=>hh v q z) fun q=>hx ((Option.some.inj z).trans q)⟩
theorem sq_gd {f:List Str->Rd} {m i j:Nat} {hd:Str->Prop} {w:Str} {c:Tr->Tr->Tr} (F:Gd f m i hd) (up: ∀ t a,Fm i t a->Fm j t a) (hc: ∀ l r a b,Fm j l a->Fm i r b->Fm j (c l r) (a ++ w :: b)) (hw: ∀ d,stp (some (d,true)) w=some (d,false)):Gd (sq w c f m) m j (fun v=>hd v\/v=w):=by
 have key: ∀ a t r,a.length<=m->f a=some (t,r)-> ∃ w0,a=w0 ++ r/\Fm i t w0/\r.length<=m:=fun a t r hm hf=>by
  obtain ⟨w0,e,h⟩:=F.yes a t r hm hf
  exact ⟨w0,e,h,by rw [e,List.length_append] at hm; omega⟩
 refine ⟨fun a t r hm h=> ?_,fun a t r v hm h hv=> ?_,fun a d hm h=> ?_⟩
 ·unfold sq at h
  split at h
  ·cases h
  ·rename_i u r' hf
   obtain ⟨w0,e,hw0,hl⟩:=key a u r' hm hf
   obtain ⟨⟨b,e1,e2⟩,_⟩:=(lp_gd F hc hw m u r' w0 hl hl (up _ _ hw0) (fun v hv=>F.av a u r' v hm hf hv)).1 t r h
   exact ⟨b,e.trans e1,e2⟩
 ·unfold sq at h
  split at h
  ·cases h
  ·rename_i u r' hf
   obtain ⟨w0,e,hw0,hl⟩:=key a u r' hm hf
   exact ((lp_gd F hc hw m u r' w0 hl hl (up _ _ hw0) (fun v hv=>F.av a u r' v hm hf hv)).1 t r h).2 v hv
 ·unfold sq at h
  split at h
  ·rename_i hf
   exact F.no a d hm hf
  ·rename_i u r' hf
   obtain ⟨w0,e,hw0,hl⟩:=key a u r' hm hf
   rw [e,fm_run hw0 d]
   exact (lp_gd F hc hw m u r' w0 hl hl (up _ _ hw0) (fun v hv=>F.av a u r' v hm hf hv)).2 h d
theorem both_gd {m:Nat} (F:Gd (pS m) m 0 (fun _=>False)):Gd (pBt (pS m) m) m 1 (fun v=>False\/v="and"):=sq_gd F (fun _ _ h=>h.up1) (fun _ _ _ _ h1 h2=> .both h1 h2) stp_and
theorem either_gd {m:Nat} (F:Gd (pS m) m 0 (fun _=>False)):Gd (pEt (pS m) m) m 2 (fun v=>(False\/v="and")\/v="or"):=sq_gd (both_gd F) (fun _ _ h=>h.up2) (fun _ _ _ _ h1 h2=> .either h1 h2) stp_or
theorem single_gd: ∀ m,Gd (pS m) m 0 (fun _=>False)
 | 0=>⟨fun a t r _ h=>(by cases h),fun _ _ _ _ _ _ h=>h.elim,fun a d hm h=>by
   obtain rfl:a=[]:=List.length_eq_zero_iff.mp (by omega)
   intro z; cases z⟩
 | m + 1=>by
  have F:=single_gd m
  have E:=either_gd F
  refine ⟨fun a t r hm h=> ?_,fun _ _ _ _ _ _ h=>h.elim,fun a d hm h=> ?_⟩
  ·cases a with
   | nil=>cases h
   | cons w a =>
    simp only [List.length_cons] at hm
    unfold pS at h
    split at h
    ·rename_i hl; cases h; exact ⟨[w],rfl,.named hl⟩
    split at h
    ·rename_i hl; cases h; subst hl; exact ⟨_,rfl,.yes⟩
    split at h
    ·rename_i hl; cases h; subst hl; exact ⟨_,rfl,.no⟩
    split at h
    ·rename_i hl
     subst hl
     split at h
     ·cases h
     ·rename_i u r' hr
      cases h
      obtain ⟨b,e,hb⟩:=F.yes a u _ (by omega) hr
      exact ⟨"not" :: b,by rw [e]; rfl,.neg hb⟩
    split at h
    ·rename_i hl
     subst hl
     unfold clz at h
     split at h
     ·rename_i u x r' hr
      split at h
      ·rename_i hx
       cases h
       subst hx
       obtain ⟨b,e,hb⟩:=E.yes a _ _ (by omega) hr
       exact ⟨"(" :: (b ++ [(")":Str)]),by rw [e]; simp,.br hb⟩
      ·cases h
     ·cases h
    ·cases h
  ·cases a with
   | nil=>intro z; cases z
   | cons w a =>
    simp only [List.length_cons] at hm
    rw [run_cons]
    unfold pS at h
    split at h
    ·cases h
    rename_i n0
    split at h
    ·cases h
    rename_i n1
    split at h
    ·cases h
    rename_i n2
    split at h
    ·rename_i hl
     subst hl
     rw [stp_not]
     split at h
     ·rename_i hr
      exact F.no a d (by omega) hr
     ·cases h
    rename_i n3
    split at h
    ·rename_i hl
     subst hl
     rw [stp_op]
     cases hr:pEt (pS m) m a with
     | none=>exact E.no a _ (by omega) hr
     | some y =>
      obtain ⟨u,r⟩:=y
      obtain ⟨b,e,hb⟩:=E.yes a u r (by omega) hr
      have hv:=fun v hv=>E.av a u r v (by omega) hr hv
      rw [e,fm_run hb]
      rw [hr] at h
      cases r with
      | nil=>intro z; cases z
      | cons x r =>
       have hx:x ≠ ")":=fun z=>by
        subst z
        cases h
       rw [run_cons,stp_h (fun z=>hv "and" (.inl (.inr rfl)) (by rw [z]; rfl)) (fun z=>hv "or" (.inr rfl) (by rw [z]; rfl)) hx,run_none]
       intro z; cases z
    ·rename_i n4
     rw [stp_w (fun z=>z.elim n0 fun z=>z.elim n1 n2) n3 n4,run_none]
     intro z; cases z
def rdw (ws:List Str):Option Tr:=match pEt (pS 40) 40 ws with | some (t,[])=>some t | _=>none
theorem rdw_acc {ws:List Str} (hl:ws.length<=40):(∃ t,rdw ws=some t/\Fm 2 t ws)\/(rdw ws=none/\ ¬ Acc ws):=by
 have E:=either_gd (single_gd 40)
 unfold rdw
 cases h:pEt (pS 40) 40 ws with
 | none=>exact .inr ⟨rfl,E.no ws 0 hl h⟩
 | some y =>
  obtain ⟨t,r⟩:=y
  obtain ⟨b,e,hb⟩:=E.yes ws t r hl h
  cases r with
  | nil =>
   rw [List.append_nil] at e
   subst e
   exact .inl ⟨t,rfl,hb⟩
  | cons x r =>
   refine .inr ⟨rfl,fun z=> ?_⟩
   unfold Acc at z
   have hv:=fun v hv=>E.av ws t _ v hl h hv
   rw [e,fm_run hb,run_cons,stp_h0 (fun z=>hv "and" (.inl (.inr rfl)) (by rw [z]; rfl)) (fun z=>hv "or" (.inr rfl) (by rw [z]; rfl)),run_none] at z
   cases z
def Pf (m:Nat):Nat->Tr->List Str->Prop
 | 0,t,w=> ∀ (rest:List Str),pS m (w ++ rest)=some (t,rest)
 | 1,t,w=> ∀ (rest:List Str), ∃ t0 r0 k,k<=w.length/\pS m (w ++ rest)=some (t0,r0)/\ ∀ q,lp "and" .both (pS m) (q + k) t0 r0=lp "and" .both (pS m) q t rest
 | _,t,w=> ∀ (rest:List Str),rest.head? ≠ some ("and":Str)-> ∃ t0 r0 k,k<=w.length/\pBt (pS m) m (w ++ rest)=some (t0,r0)/\ ∀ q,lp "or" .either (pBt (pS m) m) (q + k) t0 r0=lp "or" .either (pBt (pS m) m) q t rest
theorem lp_stop {w:Str} {c:Tr->Tr->Tr} {f:List Str->Rd} (k:Nat) (t:Tr) (r:List Str) (h:r.head? ≠ some w):lp w c f k t r=some (t,r):=by
 cases k with
 | zero=>rfl
 | succ k =>
  cases r with
  | nil=>rfl
  | cons x r =>
   have: ¬ x=w:=fun z=>h (by rw [z]; rfl)
   show (if x=w then _ else _)=_
   rw [if_neg this]
theorem lp_go {w:Str} {c:Tr->Tr->Tr} {f:List Str->Rd} {k:Nat} {t u:Tr} {r r':List Str} (h:f r=some (u,r')):lp w c f (k + 1) t (w :: r)=lp w c f k (c t u) r':=by
 show (if w=w then (match f r with | none=>none | some (u,r')=>lp w c f k (c t u) r') else _)=_
 rw [if_pos rfl,h]
theorem pf_both {m:Nat} {t:Tr} {w:List Str} (h:Pf m 1 t w) (hw:w.length<=m) (rest:List Str) (hr:rest.head? ≠ some ("and":Str)):pBt (pS m) m (w ++ rest)=some (t,rest):=by
 obtain ⟨t0,r0,k,hk,e1,e2⟩:=h rest
 unfold pBt sq
 rw [e1]
 have:=e2 (m - k)
 rw [show m - k + k=m by omega] at this
 exact this.trans (lp_stop _ _ _ hr)
theorem pf_either {m:Nat} {t:Tr} {w:List Str} (h:Pf m 2 t w) (hw:w.length<=m) (rest:List Str) (hr:rest.head? ≠ some ("and":Str)) (hr2:rest.head? ≠ some ("or":Str)):pEt (pS m) m (w ++ rest)=some (t,rest):=by
 obtain ⟨t0,r0,k,hk,e1,e2⟩:=h rest hr
 unfold pEt
 rw [sq,e1]
 have:=e2 (m - k)
 rw [show m - k + k=m by omega] at this
 exact this.trans (lp_stop _ _ _ hr2)
theorem fm_pf {i:Nat} {t:Tr} {w:List Str} (f:Fm i t w): ∀ m,w.length<=m->Pf m i t w:=by
 induction f with
 | yes =>
  intro m hm rest
  obtain ⟨m,rfl⟩: ∃ q,m=q + 1:=⟨m - 1,by simp at hm; omega⟩
  show pS (m + 1) ("yes" :: rest)=_
  rw [pS,if_neg (by decide +kernel),if_pos rfl]
 | no =>
  intro m hm rest
  obtain ⟨m,rfl⟩: ∃ q,m=q + 1:=⟨m - 1,by simp at hm; omega⟩
  show pS (m + 1) ("no" :: rest)=_
  rw [pS,if_neg (by decide +kernel),if_neg (by decide +kernel),if_pos rfl]
 | @named c h =>
  intro m hm rest
  obtain ⟨m,rfl⟩: ∃ q,m=q + 1:=⟨m - 1,by simp at hm; omega⟩
  show pS (m + 1) (c :: rest)=_
  rw [pS,if_pos h]
 | @neg t w h ih =>
  intro m hm rest
  simp only [List.length_cons] at hm
  obtain ⟨m,rfl⟩: ∃ q,m=q + 1:=⟨m - 1,by omega⟩
  show pS (m + 1) ("not" :: (w ++ rest))=_
  rw [pS,if_neg (by decide +kernel),if_neg (by decide +kernel),if_neg (by decide +kernel),if_pos rfl,ih m (by omega) rest]
 | @br t w h ih =>
  intro m hm rest
  simp only [List.length_cons,List.length_append,List.length_nil] at hm
  obtain ⟨m,rfl⟩: ∃ q,m=q + 1:=⟨m - 1,by omega⟩
  show pS (m + 1) ("(" :: ((w ++ [(")":Str)]) ++ rest))=_
  rw [pS,if_neg (by decide +kernel),if_neg (by decide +kernel),if_neg (by decide +kernel),if_neg (by decide +kernel),if_pos rfl,List.append_assoc,pf_either (ih m (by omega)) (by omega) _ (by simp; decide +kernel) (by simp; decide +kernel)]
  rfl
 | @both l r w v h1 h2 i1 i2 =>
  intro m hm rest
  simp only [List.length_cons,List.length_append] at hm
  obtain ⟨t0,r0,k,hk,e1,e2⟩:=i1 m (by omega) ("and" :: (v ++ rest))
  refine ⟨t0,r0,k + 1,by simp; omega,by rw [<- e1]; simp,fun q=> ?_⟩
  rw [show q + (k + 1)=(q + 1) + k by omega,e2,lp_go (i2 m (by omega) rest)]
 | @either l r w v h1 h2 i1 i2 =>
  intro m hm rest hr
  simp only [List.length_cons,List.length_append] at hm
  obtain ⟨t0,r0,k,hk,e1,e2⟩:=i1 m (by omega) ("or" :: (v ++ rest)) (by simp; decide +kernel)
  refine ⟨t0,r0,k + 1,by simp; omega,by rw [<- e1]; simp,fun q=> ?_⟩
  rw [show q + (k + 1)=(q + 1) + k by omega,e2,lp_go (pf_both (i2 m (by omega)) (by omega) rest hr)]
 | @up1 t w h ih =>
  intro m hm rest
  exact ⟨t,rest,0,Nat.zero_le _,ih m hm rest,fun q=>rfl⟩
 | @up2 t w h ih =>
  intro m hm rest hr
  exact ⟨t,rest,0,Nat.zero_le _,pf_both (ih m hm) hm rest hr,fun q=>rfl⟩
theorem rdw_fm {t:Tr} {w:List Str} (f:Fm 2 t w) (hl:w.length<=40):rdw w=some t:=by
 have:=pf_either (fm_pf f 40 hl) hl [] (by simp) (by simp)
 rw [List.append_nil] at this
 unfold rdw
 rw [this]
theorem d_split {a b:DP} {ps:PSt} {x y:Str} (ha:a ps= .ok (.str x)) (hb:b ps= .ok (.str y)) (hy:goodSep y=true) (hx:x.cps.toList.length<=1000000):dSplit a b ps= .ok ((spl x y).map .str):=by
 unfold dSplit
 rw [ha,hb]
 exact if_pos ⟨hy,hx⟩
theorem slen_l (x:Str):x.cps.toList.length=x.length:=by simp [Str.length]
theorem init_ok (n:Nat) (ws:List Str):gF (n + 1) 32 [.lst (ws.map .str)]= .ok (R ws 0):=rfl
def rdt (x:Str):Option Tr:=if 40 < (spl x " ").length then none else rdw (spl x " ")
theorem read_test_all (x:Str) (hx:x.length<=1000000) (n:Nat) (hn:165<=n):gF (n + 1) 1 [.str x]=match rdt x with | some t=> .ok t.pv | none=> .exc 1:=by
 have e:gF (n + 1) 1 [.str x]=fin (d_z1 (gF n) [.v (.str x),.no,.no,.no]):=rfl
 rw [e]
 unfold d_z1 rdt
 generalize hw:spl x " "=ws
 have s1:sCut (sSet 1 (dOfN (dSplit (dVar 0) (dC (.str " "))))) [.v (.str x),.no,.no,.no]= .nx [.v (.str x),.v (.lst (ws.map .str)),.no,.no]:=by
  rw [e_sCut,e_set,e_ofN,d_split (x:=x) (y:=" ") rfl rfl good1 (by rw [slen_l]; exact hx),hw]
  rfl
 have s2:(dTr (d2 fGt (dCall bLen (dCons (dSee 1) dNil)) (dC (.int (40))))) [.v (.str x),.v (.lst (ws.map .str)),.no,.no]= .ok (decide (40 < ws.length)):=by
  have:(dTr (d2 fGt (dCall bLen (dCons (dSee 1) dNil)) (dC (.int (40))))) [.v (.str x),.v (.lst (ws.map .str)),.no,.no]= .ok (decide ((40:Int) < (((ws.map PV.str).length:Nat):Int))):=rfl
  rw [this,List.length_map]
  congr 1
  by_cases h:40 < ws.length
  ·rw [decide_eq_true h,decide_eq_true (by omega)]
  ·rw [decide_eq_false h,decide_eq_false (by omega)]
 rw [e_seq,s1,next_nx,e_seq]
 by_cases h:40 < ws.length
 ·rw [if_pos h]
  have s3:sIfX (dTr (d2 fGt (dCall bLen (dCons (dSee 1) dNil)) (dC (.int (40))))) (sRaise 1) sNext [.v (.str x),.v (.lst (ws.map .str)),.no,.no]= .exc 1:=by
   unfold sIfX
   rw [s2,decide_eq_true h]
   rfl
  rw [s3]
  rfl
 ·rw [if_neg h]
  have s3:sIfX (dTr (d2 fGt (dCall bLen (dCons (dSee 1) dNil)) (dC (.int (40))))) (sRaise 1) sNext [.v (.str x),.v (.lst (ws.map .str)),.no,.no]= .nx [.v (.str x),.v (.lst (ws.map .str)),.no,.no]:=by
   unfold sIfX
   rw [s2,decide_eq_false h]
   rfl
  obtain ⟨k,rfl⟩: ∃ k,n=k + 1:=⟨n - 1,by omega⟩
  have s4:sCut (sOwnI 2 (gF (k + 1) 32) (dCons (dVar 1) dNil)) [.v (.str x),.v (.lst (ws.map .str)),.no,.no]= .nx [.v (.str x),.v (.lst (ws.map .str)),.own (RO ws 0),.no]:=by
   have:sOwnI 2 (gF (k + 1) 32) (dCons (dVar 1) dNil) [.v (.str x),.v (.lst (ws.map .str)),.no,.no]=(gF (k + 1) 32 [.lst (ws.map .str)]).st fun w=>match w with | .obj k fs=> .nx [.v (.str x),.v (.lst (ws.map .str)),.own (.obj k fs),.no] | _=> .bad:=rfl
   rw [e_sCut,this,init_ok k ws]
   rfl
  have s5:mMethX qo_read_either (gF (k + 1)) 2 dNil [.v (.str x),.v (.lst (ws.map .str)),.own (RO ws 0),.no]=(gF (k + 1) 28 [R ws 0]).bind (resO [.v (.str x),.v (.lst (ws.map .str)),.own (RO ws 0),.no] 2):=rfl
  rw [s3,next_nx,e_seq,s4,next_nx,e_seq,e_setM,s5,either_all ws (k + 1) (by omega) (by omega)]
  unfold rdw
  cases hr:pEt (pS 40) 40 ws with
  | none=>rfl
  | some y =>
   obtain ⟨t,r⟩:=y
   have suf:=sq_suf (sq_suf (pS_suf 40) 40) 40 _ _ _ hr
   have s6: ∀ p,mMethO qo_at_end (gF (k + 1)) 2 dNil [.v (.str x),.v (.lst (ws.map .str)),.own (RO ws p),.v t.pv]= .ok (.bl (decide (p=ws.length)),[.v (.str x),.v (.lst (ws.map .str)),.own (RO ws p),.v t.pv]):=fun p=>by
    have:mMethO qo_at_end (gF (k + 1)) 2 dNil [.v (.str x),.v (.lst (ws.map .str)),.own (RO ws p),.v t.pv]=(gF (k + 1) 26 [R ws p]).bind (resO [.v (.str x),.v (.lst (ws.map .str)),.own (RO ws p),.v t.pv] 2):=rfl
    rw [this,at_endo]
    rfl
   have s7:((res ws (some (t,r))).bind (resO [.v (.str x),.v (.lst (ws.map .str)),.own (RO ws 0),.no] 2)).st (fun w=>Rs.nx (w.2.set 3 (.v w.1)))= .nx [.v (.str x),.v (.lst (ws.map .str)),.own (RO ws (pl ws r)),.v t.pv]:=rfl
   rw [s7,next_nx,e_seq,e_ifMX,e_mNot,e_mTr,s6]
   cases r with
   | nil =>
    have:pl ws []=ws.length:=by unfold pl; simp
    rw [this,decide_eq_true rfl]
    rfl
   | cons y r =>
    have: ¬ pl ws (y :: r)=ws.length:=by
     have:=suf.length_le
     unfold pl
     simp only [List.length_cons] at this ⊢
     omega
    rw [decide_eq_false this]
    rfl
theorem read_piece_all (x:Str) (hx:x.length<=1000000) (n:Nat) (hn:166<=n):gF (n + 1) 3 [.str x]=match rdt x with | some t=> .ok t.pv | none=> .exc 4:=by
 obtain ⟨n,rfl⟩: ∃ k,n=k + 1:=⟨n - 1,by omega⟩
 have rt:=read_test_all x hx n (by omega)
 have e:gF (n + 1 + 1) 3 [.str x]=fin (match gF (n + 1) 1 [.str x] with | .ok w=> .ret w | .exc c=>if c=1 then .exc 4 else .bad | .bad=> .bad):=rfl
 rw [e,rt]
 cases rdt x <;> rfl
inductive Sg where
 | nowhere (t:Tr) | behind (b:Tr) (d:Str) (a:Tr) | through (t:Tr) (d:Str)
def Sg.pv:Sg->PV
 | .nowhere t=> .obj 8 [t.pv]
 | .behind b d a=> .obj 9 [b.pv,.str d,a.pv]
 | .through t d=> .obj 10 [t.pv,.str d]
def Deed (d:Str):Prop:=d="P"\/d="Q"\/d="R"\/d="S"\/d="T"
instance (d:Str):Decidable (Deed d):=by unfold Deed; exact inferInstance
def rsy (h:Str) (ps:List Str):Option Sg :=
 match ps with
 | [x]=>if h="nowhere" then (rdt x).map .nowhere else none
 | [d,x]=>if h="through"/\Deed d then (rdt x).map (Sg.through · d) else none
 | [d,x,y]=>if h="behind"/\Deed d then (match rdt x,rdt y with | some b,some a=>some (.behind b d a) | _,_=>none) else none
 | _=>none
def rsay (x:Str):Option Sg:=rsy (part x " ").1 (spl (part x " ").2.2 " : ")
theorem spg_mem (y:List Nat): ∀ (l:List Nat) (s:Nat) (cur p:List Nat),p ∈ spg y s cur l->p.length<=cur.length + l.length
 | [],s,cur,p,h=>by
  cases s <;> (simp only [spg,List.mem_singleton] at h; subst h; simp)
 | c :: l,s + 1,cur,p,h=>by
  rw [spg] at h
  have:=spg_mem y l s cur p h
  simp only [List.length_cons]; omega
 | c :: l,0,cur,p,h=>by
  rw [spg] at h
  split at h
  ·rcases List.mem_cons.mp h with rfl | h
   ·simp
   ·have:=spg_mem y l _ [] p h
    simp only [List.length_cons,List.length_nil] at this ⊢; omega
  ·have:=spg_mem y l 0 (c :: cur) p h
   simp only [List.length_cons] at this ⊢; omega
theorem mkS_len (l:List Nat):(mkS l).length=l.length:=by simp [mkS,Str.length]
theorem spl_mem {x y p:Str} (h:p ∈ spl x y):p.length<=x.length:=by
 unfold spl at h
 obtain ⟨q,hq,rfl⟩:=List.mem_map.mp h
 have:=spg_mem _ _ _ _ _ hq
 rw [mkS_len]
 rw [slen_l] at this
 simpa using this
theorem fst1_len (y:List Nat): ∀ (l cur p r:List Nat),fst1 y cur l=some (p,r)->r.length<=l.length
 | [],cur,p,r,h=>by cases h
 | c :: l,cur,p,r,h=>by
  unfold fst1 at h
  split at h
  ·cases h; rw [List.length_drop]; omega
  ·have:=fst1_len y l _ p r h
   simp only [List.length_cons]; omega
theorem part_len (x y:Str):(part x y).2.2.length<=x.length:=by
 unfold part
 split
 ·rename_i p r h
  have:=fst1_len _ _ _ _ _ h
  show (mkS r).length<=_
  rw [mkS_len]
  rw [slen_l] at this
  exact this
 ·exact Nat.zero_le _
theorem inl_deed (w:Str):fInL false (.str w) (.tup c_DEEDS)= .ok (.bl (decide (Deed w))):=by
 have e:fInL false (.str w) (.tup c_DEEDS)= .ok (.bl ((("P":Str) == w) || ((("Q":Str) == w) || ((("R":Str) == w) || ((("S":Str) == w) || ((("T":Str) == w) || false)))))):=rfl
 rw [e]
 congr 2
 rw [Bool.eq_iff_iff]
 simp only [Bool.or_eq_true,beq_iff_eq,Bool.false_eq_true,or_false,decide_eq_true_eq]
 unfold Deed
 constructor
 ·rintro (h | h | h | h | h) <;> simp [<- h]
 ·rintro (h | h | h | h | h) <;> simp [h]
theorem good3:goodSep " : "=true:=by decide +kernel
def so:Option Sg->Rx PV
 | some s=> .ok s.pv
 | none=> .exc 4
theorem e_ifX (t:DT) (a b:DS) (ps:PSt):sIfX t a b ps=(cutR (t ps)).st fun x=>if x=true then a ps else b ps:=rfl
theorem len2 {α :Type} {l:List α} (h:l.length=2): ∃ a b,l=[a,b]:=by
 rcases l with _ | ⟨a,_ | ⟨b,_ | ⟨c,r⟩⟩⟩ <;> simp at h
 exact ⟨a,b,rfl⟩
theorem len3 {α :Type} {l:List α} (h:l.length=3): ∃ a b c,l=[a,b,c]:=by
 rcases l with _ | ⟨a,_ | ⟨b,_ | ⟨c,_ | ⟨d,r⟩⟩⟩⟩ <;> simp at h
 exact ⟨a,b,c,rfl⟩
theorem rp_so (x:Str) (hx:x.length<=1000000) (n:Nat) (hn:166<=n):gF (n + 1) 3 [.str x]=(match rdt x with | some t=> .ok t.pv | none=> .exc 4:Rx PV):=read_piece_all x hx n hn
theorem read_saying_all (x:Str) (hx:x.length<=1000000) (n:Nat) (hn:168<=n):gF (n + 1) 2 [.str x]=so (rsay x):=by
 have e:gF (n + 1) 2 [.str x]=fin (d_z2 (gF n) [.v (.str x),.no,.no,.no]):=rfl
 rw [e]
 unfold d_z2 rsay
 obtain ⟨n,rfl⟩: ∃ k,n=k + 1:=⟨n - 1,by omega⟩
 have hl:=part_len x " "
 have s1:sCut (sSet 1 (dPart (dVar 0) (dC (.str " ")))) [.v (.str x),.no,.no,.no]= .nx [.v (.str x),.v (.tup [.str (part x " ").1,.str (part x " ").2.1,.str (part x " ").2.2]),.no,.no]:=by
  have:dPart (dVar 0) (dC (.str " ")) [.v (.str x),.no,.no,.no]= .ok (.tup [.str (part x " ").1,.str (part x " ").2.1,.str (part x " ").2.2]):=if_pos ⟨good1,by rw [slen_l]; exact hx⟩
  rw [e_sCut,e_set,this]
  rfl
 rw [e_seq,s1,next_nx]
 generalize (part x " ").1=h
 generalize (part x " ").2.1=sp
 generalize (part x " ").2.2=r at hl
 have s2:sCut (sSet 2 (dOfN (dSplit (d2 fIx (dSee 1) (dC (.int 2))) (dC (.str " : "))))) [.v (.str x),.v (.tup [.str h,.str sp,.str r]),.no,.no]= .nx [.v (.str x),.v (.tup [.str h,.str sp,.str r]),.v (.lst ((spl r " : ").map .str)),.no]:=by
  rw [e_sCut,e_set,e_ofN,d_split (x:=r) (y:=" : ") rfl rfl good3 (by rw [slen_l]; omega)]
  rfl
 rw [e_seq,s2,next_nx]
 have hp: ∀ p ∈ spl r " : ",p.length<=1000000:=fun p q=>Nat.le_trans (spl_mem q) (Nat.le_trans hl hx)
 generalize spl r " : "=ps at hp
 have i0:fIx (.tup [.str h,.str sp,.str r]) (.int 0)= .ok (.str h):=rfl
 have L1:bLen [.lst (ps.map .str)]= .ok (.int ps.length):=by rw [e_lenL,List.length_map]
 have b1:(("nowhere":Str) == "behind")=false:=by decide +kernel
 have b2:(("nowhere":Str) == "through")=false:=by decide +kernel
 have b3:(("behind":Str) == "nowhere")=false:=by decide +kernel
 have b4:(("behind":Str) == "through")=false:=by decide +kernel
 have b5:(("through":Str) == "nowhere")=false:=by decide +kernel
 have b6:(("through":Str) == "behind")=false:=by decide +kernel
 have lt: ∀ k:Nat,((ps.length:Int) == (k:Int))=decide (ps.length=k):=fun k=>by
  by_cases q:ps.length=k
  ·rw [decide_eq_true q,q]; simp
  ·rw [decide_eq_false q]
   have: ¬ ((ps.length:Int)=(k:Int)):=by omega
   simpa using this
 have t1:((ps.length:Int) == 1)=decide (ps.length=1):=lt 1
 have t2:((ps.length:Int) == 2)=decide (ps.length=2):=lt 2
 have t3:((ps.length:Int) == 3)=decide (ps.length=3):=lt 3
 by_cases h1:h="nowhere"
 ·subst h1
  by_cases hl:ps.length=1
  ·obtain ⟨a,rfl⟩:=List.length_eq_one_iff.mp hl
   have ra:=rp_so a (hp a (by simp)) n (by omega)
   have i1:fIx (.lst [.str a]) (.int 0)= .ok (.str a):=rfl
   simp [e_ifX,i0,i1,rsy, -e_ixT, -e_ixL,dNewX,dConsX,dCallX,ra]
   cases rdt a <;> rfl
  ·have hr:rsy "nowhere" ps=none:=by
    unfold rsy
    split <;> first | (exact absurd rfl hl) | (rw [if_neg (by rintro ⟨z,_⟩; revert z; decide +kernel)]) | rfl
   rw [hr]
   simp [e_ifX,i0,L1, -e_ixT, -e_lenL,t1,hl,b1,b2,so,sRaise]
 ·have h1':(h == "nowhere")=false:=by simpa using h1
  by_cases h2:h="behind"
  ·subst h2
   by_cases hl:ps.length=3
   ·obtain ⟨a,b,c,rfl⟩:=len3 hl
    have rb:=rp_so b (hp b (by simp)) n (by omega)
    have rc:=rp_so c (hp c (by simp)) n (by omega)
    have i1:fIx (.lst [.str a,.str b,.str c]) (.int 0)= .ok (.str a):=rfl
    have i2:fIx (.lst [.str a,.str b,.str c]) (.int 1)= .ok (.str b):=rfl
    have i3:fIx (.lst [.str a,.str b,.str c]) (.int 2)= .ok (.str c):=rfl
    by_cases hd:Deed a
    ·have xb: ∀ k:Nat,(Rx.exc k:Rx PV).bind=fun _=>(Rx.exc k:Rx (List PV)):=fun k=>rfl
     cases eb:rdt b with
     | none =>
      rw [eb] at rb
      simp [e_ifX,i0,i1,i2,i3,rsy, -e_ixT, -e_ixL,dCallX,b3,inl_deed,hd,rb,eb]
      rfl
     | some tb =>
      rw [eb] at rb
      cases ec:rdt c with
      | none =>
       rw [ec] at rc
       simp [e_ifX,i0,i1,i2,i3,rsy, -e_ixT, -e_ixL,dNewX,dConsX,dCallX,dCutP,b3,inl_deed,hd,rb,rc,eb,ec]
       rfl
      | some tc =>
       rw [ec] at rc
       simp [e_ifX,i0,i1,i2,i3,rsy, -e_ixT, -e_ixL,dNewX,dConsX,dCallX,dCutP,b3,inl_deed,hd,rb,rc,eb,ec]
       rfl
    ·simp [e_ifX,i0,i1,i2,i3,rsy, -e_ixT, -e_ixL,b3,b4,inl_deed,hd,so,sRaise]
   ·have hr:rsy "behind" ps=none:=by
     unfold rsy
     split <;> first | (exact absurd rfl hl) | (rw [if_neg (by intro z; revert z; decide +kernel)]) | (rw [if_neg (by rintro ⟨z,_⟩; revert z; decide +kernel)]) | rfl
    rw [hr]
    simp [e_ifX,i0,L1, -e_ixT, -e_lenL,t3,hl,b3,b4,so,sRaise]
  ·have h2':(h == "behind")=false:=by simpa using h2
   by_cases h3:h="through"
   ·subst h3
    by_cases hl:ps.length=2
    ·obtain ⟨a,b,rfl⟩:=len2 hl
     have rb:=rp_so b (hp b (by simp)) n (by omega)
     have i1:fIx (.lst [.str a,.str b]) (.int 0)= .ok (.str a):=rfl
     have i2:fIx (.lst [.str a,.str b]) (.int 1)= .ok (.str b):=rfl
     by_cases hd:Deed a
     ·simp [e_ifX,i0,i1,i2,rsy, -e_ixT, -e_ixL,dNewX,dConsX,dCallX,dCutP,b5,b6,inl_deed,hd,rb]
      cases rdt b <;> rfl
     ·simp [e_ifX,i0,i1,i2,rsy, -e_ixT, -e_ixL,b5,b6,inl_deed,hd,so,sRaise]
    ·have hr:rsy "through" ps=none:=by
      unfold rsy
      split <;> first | (exact absurd rfl hl) | (rw [if_neg (by intro z; revert z; decide +kernel)]) | (rw [if_neg (by rintro ⟨z,_⟩; revert z; decide +kernel)]) | rfl
     rw [hr]
     simp [e_ifX,i0,L1, -e_ixT, -e_lenL,t2,hl,b5,b6,so,sRaise]
   ·have h3':(h == "through")=false:=by simpa using h3
    have hr:rsy h ps=none:=by
     unfold rsy
     split <;> simp [h1,h2,h3]
    rw [hr]
    simp [e_ifX,i0, -e_ixT,h1',h2',h3',so,sRaise]
theorem refused46 (x:Str) (hx:x.length<=1000000) (n:Nat) (hn:169<=n) (h:rsay x=none):gF (n + 1) 7 [.str x]= .ok (.bl true):=by
 obtain ⟨n,rfl⟩: ∃ k,n=k + 1:=⟨n - 1,by omega⟩
 have rt:=read_saying_all x hx n (by omega)
 rw [h] at rt
 have rt:gF (n + 1) 2 [.str x]= .exc 4:=rt
 have e:gF (n + 1 + 1) 7 [.str x]=fin (d_z7 (gF (n + 1)) [.v (.str x),.no,.no]):=rfl
 rw [e]
 unfold d_z7
 have s: ∀ dh:DS,sTryE (gF (n + 1) 2) (dCons (dVar 0) dNil) 2 ks_MeaningError dh [.v (.str x),.v .non,.no]=(match gF (n + 1) 2 [.str x] with | .ok _=> .nx [.v (.str x),.v .non,.no] | .exc k=>if ks_MeaningError.contains k then offR 2 (dh [.v (.str x),.v .non,.v (.exn k)]) else .bad | .bad=> .bad):=fun dh=>rfl
 have s0:sSet 1 (dC .non) [.v (.str x),.no,.no]= .nx [.v (.str x),.v .non,.no]:=rfl
 rw [e_seq,s0,next_nx,e_seq,s,rt]
 rfl
theorem colon3:(" : ":Str).cps.toList=[32,58,32]:=by decide +kernel
theorem no_pre {c:Nat} {l r:List Nat} (hc:c ≠ 58) (hl:58 ∉ l):[32,58,32].isPrefixOf (c :: (l ++ 32 :: r))=false:=by
 cases l with
 | nil=>simp [List.isPrefixOf]
 | cons d l =>
  have:d ≠ 58:=fun z=>hl (by rw [z]; exact List.mem_cons_self)
  have:(58 == d)=false:=by simpa using fun z:58=d=>this z.symm
  simp [List.isPrefixOf,this]
theorem no_pre0 {c:Nat} {l:List Nat} (hl:58 ∉ l):[32,58,32].isPrefixOf (c :: l)=false:=by
 cases l with
 | nil=>simp [List.isPrefixOf]
 | cons d l =>
  have:d ≠ 58:=fun z=>hl (by rw [z]; exact List.mem_cons_self)
  have:(58 == d)=false:=by simpa using fun z:58=d=>this z.symm
  simp [List.isPrefixOf,this]
theorem spg3_free: ∀ (l cur:List Nat),58 ∉ l->spg [32,58,32] 0 cur l=[cur.reverse ++ l]
 | [],cur,_=>by simp [spg]
 | c :: l,cur,h=>by
  have hl:58 ∉ l:=fun z=>h (List.mem_cons_of_mem _ z)
  rw [spg,if_neg (by rw [no_pre0 hl]; exact Bool.false_ne_true),spg3_free l _ hl]
  simp
theorem spg3_sep: ∀ (l cur r:List Nat),58 ∉ l->spg [32,58,32] 0 cur (l ++ 32 :: 58 :: 32 :: r)=(cur.reverse ++ l) :: spg [32,58,32] 0 [] r
 | [],cur,r,_=>by simp [spg,List.isPrefixOf]
 | c :: l,cur,r,h=>by
  have hl:58 ∉ l:=fun z=>h (List.mem_cons_of_mem _ z)
  have hc:c ≠ 58:=fun z=>h (by rw [z]; exact List.mem_cons_self)
  rw [List.cons_append,spg,if_neg (by rw [no_pre hc hl]; exact Bool.false_ne_true),spg3_sep l _ r hl]
  simp
theorem spl3_free {x:Str} (h:58 ∉ x.cps.toList):spl x " : "=[x]:=by
 unfold spl
 rw [colon3,spg3_free _ _ h]
 simp [mkS_toList]
theorem spl3_sep {x r:Str} (h:58 ∉ x.cps.toList):spl (x ++ " : " ++ r) " : "=x :: spl r " : ":=by
 unfold spl
 rw [colon3,cat_toList,cat_toList,colon3,List.append_assoc]
 show List.map mkS (spg [32,58,32] 0 [] (x.cps.toList ++ 32 :: 58 :: 32 :: r.cps.toList))=_
 rw [spg3_sep _ _ _ h,List.map_cons]
 simp [mkS_toList]
theorem fst1_sep: ∀ (l cur r:List Nat),32 ∉ l->fst1 [32] cur (l ++ 32 :: r)=some (cur.reverse ++ l,r)
 | [],cur,r,_=>by simp [fst1,List.isPrefixOf]
 | c :: l,cur,r,h=>by
  have hl:32 ∉ l:=fun z=>h (List.mem_cons_of_mem _ z)
  have hp:[32].isPrefixOf (c :: (l ++ 32 :: r))=false:=by
   have:c ≠ 32:=fun z=>h (by rw [z]; exact List.mem_cons_self)
   have:(32 == c)=false:=by simpa using fun z:32=c=>this z.symm
   simp only [List.isPrefixOf,this,Bool.false_and]
  rw [List.cons_append,fst1,if_neg (by rw [hp]; exact Bool.false_ne_true),fst1_sep l _ r hl]
  simp
theorem part_sep {h r:Str} (hh:32 ∉ h.cps.toList):part (h ++ " " ++ r) " "=(h,(" ":Str),r):=by
 unfold part
 rw [blank,cat_toList,cat_toList,blank,List.append_assoc]
 show (match fst1 [32] [] (h.cps.toList ++ 32 :: r.cps.toList) with | some (p,r)=>(mkS p,(" ":Str),mkS r) | none=>_)=_
 rw [fst1_sep _ _ _ hh]
 simp [mkS_toList]
theorem rsay_sep {h r:Str} (hh:32 ∉ h.cps.toList):rsay (h ++ " " ++ r)=rsy h (spl r " : "):=by
 unfold rsay
 rw [part_sep hh]
theorem stp_empty (s:Sta):stp s ""=none:=by
 rcases s with _ | ⟨d,_ | _⟩
 ·rfl
 ·exact stp_w (by decide +kernel) (by decide +kernel) (by decide +kernel)
 ·exact stp_h (by decide +kernel) (by decide +kernel) (by decide +kernel)
theorem run_empty: ∀ {ws:List Str} (s:Sta),("":Str) ∈ ws->run s ws=none
 | w :: ws,s,h=>by
  rw [run_cons]
  rcases List.mem_cons.mp h with z | h
  ·rw [<- z,stp_empty]; exact run_none ws
  ·exact run_empty _ h
theorem rdt_empty {x:Str} (h:("":Str) ∈ spl x " "):rdt x=none:=by
 unfold rdt
 split
 ·rfl
 ·rename_i hl
  rcases rdw_acc (ws:=spl x " ") (by omega) with ⟨t,_,f⟩ | ⟨e,_⟩
  ·have:=fm_acc f
   unfold Acc at this
   rw [run_empty _ h] at this
   cases this
  ·exact e
def w1 (i:Nat):Str:=match gF 1 6 [.int i] with | .ok (.tup (.str x :: _))=>x | _=>""
def chk46 (x:Str):Bool:= !x.cps.toList.contains 58 && decide (x.length<=100) && (rdt x).isSome && (rdt (x ++ " and")).isNone && (rdt (x ++ " ")).isNone && (rdt (x ++ " :")).isNone && (rdt (x ++ " " ++ x)).isNone
theorem chk46_all:(List.range 112).all (fun i=>chk46 (w1 i))=true:=by decide +kernel
theorem w1_ok {i:Nat} (h:i < 112):chk46 (w1 i)=true:=List.all_eq_true.mp chk46_all i (by simpa using h)
def lt:Nat->Str
 | 0=>"a" | 1=>"b" | 2=>"c" | _=>"d"
def msk:Nat->Int
 | 0=>43690 | 1=>52428 | 2=>61680 | _=>65280
theorem four {j:Int} (h0:0<=j) (h1:j < 4): ∃ a:Nat,a < 4/\j=a/\fIx (.str "abcd") (.int j)= .ok (.str (lt a))/\atI [PV.int 43690,.int 52428,.int 61680,.int 65280] j=some (.int (msk a)):=by
 have:j=0\/j=1\/j=2\/j=3:=by omega
 rcases this with rfl | rfl | rfl | rfl
 ·exact ⟨0,by decide,rfl,rfl,rfl⟩
 ·exact ⟨1,by decide,rfl,rfl,rfl⟩
 ·exact ⟨2,by decide,rfl,rfl,rfl⟩
 ·exact ⟨3,by decide,rfl,rfl,rfl⟩
def hdS:Rx PV->Option Str
 | .ok (.tup (.str x :: _))=>some x
 | _=>none
theorem tw_same (z:Int): ∃ i:Nat,i < 112/\gF 1 6 [.int z]=gF 1 6 [.int (i:Int)]:=by
 obtain ⟨a,ha,ea,fa,ma⟩:=four (j:=z % 4) (by omega) (by omega)
 obtain ⟨b,hb,eb,fb,mb⟩:=four (j:=z / 4 % 4) (by omega) (by omega)
 obtain ⟨w,hw,ew⟩: ∃ w:Nat,w < 7/\z / 16 % 7=w:=⟨(z / 16 % 7).toNat,by omega,by omega⟩
 refine ⟨a + 4 * b + 16 * w,by omega,?_⟩
 have e1:((a + 4 * b + 16 * w:Nat):Int) % 4=z % 4:=by omega
 have e2:((a + 4 * b + 16 * w:Nat):Int) / 4 % 4=z / 4 % 4:=by omega
 have e3:((a + 4 * b + 16 * w:Nat):Int) / 16 % 7=z / 16 % 7:=by omega
 generalize ((a + 4 * b + 16 * w:Nat):Int)=m at e1 e2 e3
 have h7:w=0\/w=1\/w=2\/w=3\/w=4\/w=5\/w=6:=by omega
 rw [g_z6,g_z6,runD_of rfl,runD_of rfl]
 show fin (d_z6 (gF 0) [.v (.int z),.no,.no,.no,.no,.no,.no,.no])=fin (d_z6 (gF 0) [.v (.int m),.no,.no,.no,.no,.no,.no,.no])
 unfold d_z6
 have ha':a=0\/a=1\/a=2\/a=3:=by omega
 have hb':b=0\/b=1\/b=2\/b=3:=by omega
 rcases h7 with rfl | rfl | rfl | rfl | rfl | rfl | rfl <;> simp [e1,e2,e3,ew,fa,fb,ma,mb] <;> (rcases ha' with rfl | rfl | rfl | rfl <;> rcases hb' with rfl | rfl | rfl | rfl <;> rfl)
theorem tw46 (n:Nat) (z:Int): ∃ (i:Nat) (l:List PV),i < 112/\gF (n + 1) 6 [.int z]= .ok (.tup (.str (w1 i) :: l)):=by
 obtain ⟨i,hi,e⟩:=tw_same z
 have e0:gF (n + 1) 6 [.int z]=gF 1 6 [.int z]:=rfl
 have h3:(List.range 112).all (fun i=>hdS (gF 1 6 [.int ((i:Nat):Int)]) == some (w1 i))=true:=by decide +kernel
 have h4:=List.all_eq_true.mp h3 i (List.mem_range.mpr hi)
 have h4:hdS (gF 1 6 [.int (i:Int)])=some (w1 i):=by simpa using h4
 rw [e0,e]
 unfold hdS at h4
 split at h4
 ·rename_i x l q
  cases h4
  exact ⟨i,l,hi,q⟩
 ·cases h4
structure Gw (x:Str):Prop where
 n58:58 ∉ x.cps.toList
 len:x.length<=100
 rd: ∃ t,rdt x=some t
 an:rdt (x ++ " and")=none
 nd: ¬ Deed x
 self:rsay x=none
 fl: ∀ cur r,58 ∉ r->spg [32,58,32] 0 cur (x.cps.toList ++ 58 :: 32 :: r)=[cur.reverse ++ (x.cps.toList ++ 58 :: 32 :: r)]
theorem spg3_skip {c:Nat} (hc:c ≠ 32) (cur l:List Nat):spg [32,58,32] 0 cur (c :: l)=spg [32,58,32] 0 (c :: cur) l:=by
 have:[32,58,32].isPrefixOf (c :: l)=false:=by
  have:(32 == c)=false:=by simpa using fun z:32=c=>hc z.symm
  simp [List.isPrefixOf,this]
 rw [spg,if_neg (by rw [this]; exact Bool.false_ne_true)]
theorem fl_of: ∀ {l:List Nat},58 ∉ l->l.getLast? ≠ some 32-> ∀ (cur r:List Nat),58 ∉ r->spg [32,58,32] 0 cur (l ++ 58 :: 32 :: r)=[cur.reverse ++ (l ++ 58 :: 32 :: r)]
 | [],_,_,cur,r,hr=>by
  rw [List.nil_append,spg3_skip (by decide),spg3_free _ _ (by simp; exact hr)]
  simp
 | [c],h,hl,cur,r,hr=>by
  have hc:c ≠ 32:=fun z=>hl (by rw [z]; rfl)
  show spg _ 0 cur (c :: 58 :: 32 :: r)=_
  rw [spg3_skip hc,spg3_skip (by decide),spg3_free _ _ (by simp; exact hr)]
  simp
 | c :: d :: l,h,hl,cur,r,hr=>by
  have h2:58 ∉ d :: l:=fun z=>h (List.mem_cons_of_mem _ z)
  have hd:d ≠ 58:=fun z=>h2 (by rw [z]; exact List.mem_cons_self)
  have hp:[32,58,32].isPrefixOf (c :: ((d :: l) ++ 58 :: 32 :: r))=false:=by
   have:(58 == d)=false:=by simpa using fun z:58=d=>hd z.symm
   simp [List.isPrefixOf,this]
  have hl2:(d :: l).getLast? ≠ some 32:=by
   rw [List.getLast?_cons_cons] at hl; exact hl
  rw [List.cons_append,spg,if_neg (by rw [hp]; exact Bool.false_ne_true),fl_of h2 hl2 _ r hr]
  simp
def chg46 (x:Str):Bool:= !decide (Deed x) && (rsay x).isNone && !(x.cps.toList.getLast? == some 32)
theorem chg46_all:(List.range 112).all (fun i=>chg46 (w1 i))=true:=by decide +kernel
theorem gw {i:Nat} (h:i < 112):Gw (w1 i):=by
 have h1:=w1_ok h
 have h2:chg46 (w1 i)=true:=List.all_eq_true.mp chg46_all i (by simpa using h)
 generalize w1 i=x at h1 h2
 unfold chk46 at h1
 unfold chg46 at h2
 simp only [Bool.and_eq_true,Bool.not_eq_true',decide_eq_true_iff,decide_eq_false_iff_not] at h1 h2
 obtain ⟨⟨⟨⟨⟨⟨a,b⟩,c⟩,d⟩,_⟩,_⟩,_⟩:=h1
 obtain ⟨⟨e,f⟩,g⟩:=h2
 have n58:58 ∉ x.cps.toList:=by simpa using a
 refine ⟨n58,b,Option.isSome_iff_exists.mp c,by simpa using d,e,by simpa using f,fun cur r hr=>fl_of n58 (by simpa using g) cur r hr⟩
theorem rsB (r:Str):rsay ("behind " ++ r)=rsy "behind" (spl r " : "):=by
 have e:("behind ":Str)="behind" ++ " ":=by decide +kernel
 rw [e]
 exact rsay_sep (by decide +kernel)
theorem rsN (r:Str):rsay ("nowhere " ++ r)=rsy "nowhere" (spl r " : "):=by
 have e:("nowhere ":Str)="nowhere" ++ " ":=by decide +kernel
 rw [e]
 exact rsay_sep (by decide +kernel)
theorem rsT (r:Str):rsay ("through " ++ r)=rsy "through" (spl r " : "):=by
 have e:("through ":Str)="through" ++ " ":=by decide +kernel
 rw [e]
 exact rsay_sep (by decide +kernel)
theorem sp3 {x r:Str} (h:58 ∉ x.cps.toList):spl (x ++ (" : " ++ r)) " : "=x :: spl r " : ":=by
 rw [<- cat_as]
 exact spl3_sep h
theorem sp3e {x:Str} (h:58 ∉ x.cps.toList):spl (x ++ " : ") " : "=[x,""]:=by
 have e:x ++ (" : ":Str)=x ++ (" : " ++ ""):=by rw [show (" : ":Str) ++ ""=" : " from by decide +kernel]
 rw [e,sp3 h]
 rfl
theorem rdt_nil:rdt ""=none:=by decide +kernel
theorem rdt_e:rdt "e"=none:=by decide +kernel
theorem rdt_not:rdt "not"=none:=by decide +kernel
theorem rdt_ab:rdt "a b"=none:=by decide +kernel
theorem rsy_e2 (h a b:Str):rsy h [a,b]=if h="through"/\Deed a then (rdt b).map (Sg.through · a) else none:=rfl
theorem rsy_e1 (h a:Str):rsy h [a]=if h="nowhere" then (rdt a).map Sg.nowhere else none:=rfl
theorem rsy_B2 {a b:Str}:rsy "behind" [a,b]=none:=by
 rw [rsy_e2,if_neg (by rintro ⟨z,_⟩; revert z; decide +kernel)]
theorem rsy_B3 {a b c:Str} (h: ¬ Deed a\/rdt b=none\/rdt c=none):rsy "behind" [a,b,c]=none:=by
 show (if ("behind":Str)="behind"/\Deed a then (match rdt b,rdt c with | some b,some e=>some (Sg.behind b a e) | _,_=>none) else none)=none
 split
 ·rename_i q
  rcases h with h | h | h
  ·exact absurd q.2 h
  ·rw [h]
  ·rw [h]; cases rdt b <;> rfl
 ·rfl
theorem rsy_T2 {a b:Str} (h: ¬ Deed a\/rdt b=none):rsy "through" [a,b]=none:=by
 show (if ("through":Str)="through"/\Deed a then (rdt b).map (Sg.through · a) else none)=none
 split
 ·rename_i q
  rcases h with h | h
  ·exact absurd q.2 h
  ·rw [h]; rfl
 ·rfl
theorem rsy_N1 {a:Str} (h:rdt a=none):rsy "nowhere" [a]=none:=by
 rw [rsy_e1,h]
 split <;> rfl
theorem rsy_N2 {a b:Str}:rsy "nowhere" [a,b]=none:=by
 rw [rsy_e2,if_neg (by rintro ⟨z,_⟩; revert z; decide +kernel)]
theorem rsy_1 {h a:Str} (q:h ≠ "nowhere"):rsy h [a]=none:=by
 rw [rsy_e1,if_neg q]
theorem rsy_h {h:Str} (l:List Str) (h1:h ≠ "nowhere") (h2:h ≠ "behind") (h3:h ≠ "through"):rsy h l=none:=by
 unfold rsy
 split <;> simp [h1,h2,h3]
structure Lw (d:Str):Prop where
 dd:Deed d
 n58:58 ∉ d.cps.toList
 n32:32 ∉ d.cps.toList
 len:d.length<=1
 rd:rdt d=none
 bl: ¬ Deed (" " ++ d)
theorem lw {d:Str} (h:Deed d):Lw d:=by
 rcases h with rfl | rfl | rfl | rfl | rfl
 ·exact ⟨.inl rfl,by decide +kernel,by decide +kernel,by decide +kernel,by decide +kernel,by decide +kernel⟩
 ·exact ⟨.inr (.inl rfl),by decide +kernel,by decide +kernel,by decide +kernel,by decide +kernel,by decide +kernel⟩
 ·exact ⟨.inr (.inr (.inl rfl)),by decide +kernel,by decide +kernel,by decide +kernel,by decide +kernel,by decide +kernel⟩
 ·exact ⟨.inr (.inr (.inr (.inl rfl))),by decide +kernel,by decide +kernel,by decide +kernel,by decide +kernel,by decide +kernel⟩
 ·exact ⟨.inr (.inr (.inr (.inr rfl))),by decide +kernel,by decide +kernel,by decide +kernel,by decide +kernel,by decide +kernel⟩
section
variable {o t d:Str} (O:Gw o) (T:Gw t) (D:Lw d)
theorem f00:rsay ""=none:=by decide +kernel
theorem f01:rsay "nowhere"=none:=by decide +kernel
theorem f02:rsay "nowhere "=none:=by decide +kernel
theorem f03:rsay "behind"=none:=by decide +kernel
include O in
theorem f28:rsay o=none:=O.self
include D in
theorem f04:rsay ("through " ++ d)=none:=by rw [rsT,spl3_free D.n58]; exact rsy_1 (by decide +kernel)
include D in
theorem f05:rsay ("through " ++ (d ++ " : "))=none:=by rw [rsT,sp3e D.n58]; exact rsy_T2 (.inr rdt_nil)
include O D in
theorem f06:rsay ("behind " ++ (d ++ (" : " ++ o)))=none:=by rw [rsB,sp3 D.n58,spl3_free O.n58]; exact rsy_B2
include O D in
theorem f07:rsay ("behind " ++ (d ++ (" : " ++ (o ++ " : "))))=none:=by rw [rsB,sp3 D.n58,sp3e O.n58]; exact rsy_B3 (.inr (.inr rdt_nil))
include T D in
theorem f08:rsay ("behind " ++ (d ++ (" : " ++ (" : " ++ t))))=none:=by
 have e:(" : ":Str) ++ t="" ++ (" : " ++ t):=by rw [<- cat_as,show ("":Str) ++ " : "=" : " from by decide +kernel]
 rw [rsB,sp3 D.n58,e,sp3 (by decide +kernel),spl3_free T.n58]
 exact rsy_B3 (.inr (.inl rdt_nil))
include O T D in
theorem f09:rsay ("behind " ++ (d ++ (" : " ++ (o ++ (" : " ++ (t ++ (" : " ++ o)))))))=none:=by rw [rsB,sp3 D.n58,sp3 O.n58,sp3 T.n58,spl3_free O.n58]; rfl
include O T D in
theorem f10:rsay ("behind " ++ (o ++ (" : " ++ (d ++ (" : " ++ t)))))=none:=by rw [rsB,sp3 O.n58,sp3 D.n58,spl3_free T.n58]; exact rsy_B3 (.inl O.nd)
include O T in
theorem f12 {u:Str} (hu:58 ∉ u.cps.toList) (hd: ¬ Deed u):rsay ("behind " ++ (u ++ (" : " ++ (o ++ (" : " ++ t)))))=none:=by rw [rsB,sp3 hu,sp3 O.n58,spl3_free T.n58]; exact rsy_B3 (.inl hd)
include O in
theorem f15 {u:Str} (hu:58 ∉ u.cps.toList) (hd: ¬ Deed u):rsay ("through " ++ (u ++ (" : " ++ o)))=none:=by rw [rsT,sp3 hu,spl3_free O.n58]; exact rsy_T2 (.inl hd)
include O D in
theorem f16:rsay ("through " ++ (o ++ (" : " ++ d)))=none:=by rw [rsT,sp3 O.n58,spl3_free D.n58]; exact rsy_T2 (.inl O.nd)
include O T in
theorem f18:rsay ("nowhere " ++ (o ++ (" : " ++ t)))=none:=by rw [rsN,sp3 O.n58,spl3_free T.n58]; exact rsy_N2
theorem f20:rsay "nowhere e"=none:=by decide +kernel
include T D in
theorem f22 {u:Str} (hu:58 ∉ u.cps.toList) (hr:rdt u=none):rsay ("behind " ++ (d ++ (" : " ++ (u ++ (" : " ++ t)))))=none:=by rw [rsB,sp3 D.n58,sp3 hu,spl3_free T.n58]; exact rsy_B3 (.inr (.inl hr))
include O D in
theorem f23 {u:Str} (hu:58 ∉ u.cps.toList) (hr:rdt u=none):rsay ("behind " ++ (d ++ (" : " ++ (o ++ (" : " ++ u)))))=none:=by rw [rsB,sp3 D.n58,sp3 O.n58,spl3_free hu]; exact rsy_B3 (.inr (.inr hr))
include D in
theorem f25:rsay ("through " ++ (d ++ " : a b"))=none:=by
 have e:(" : a b":Str)=" : " ++ "a b":=by decide +kernel
 rw [rsT,e,sp3 D.n58,spl3_free (by decide +kernel)]
 exact rsy_T2 (.inr rdt_ab)
include D in
theorem f30:rsay ("nowhere " ++ d)=none:=by rw [rsN,spl3_free D.n58]; exact rsy_N1 D.rd
include O T D in
theorem f11:rsay ("behind  " ++ (d ++ (" : " ++ (o ++ (" : " ++ t)))))=none:=by
 have e:("behind  ":Str)="behind " ++ " ":=by decide +kernel
 have q:58 ∉ ((" ":Str) ++ d).cps.toList:=by
  rw [cat_toList,blank]
  intro z
  rcases List.mem_append.mp z with z | z
  ·revert z; decide
  ·exact D.n58 z
 rw [e,cat_as, <- cat_as " " d]
 exact f12 O T q D.bl
include O T D in
theorem f14:rsay ("behind " ++ (d ++ (" : " ++ (o ++ (": " ++ t)))))=none:=by
 have e:spl (o ++ (": " ++ t)) " : "=[o ++ (": " ++ t)]:=by
  have c2:(": ":Str).cps.toList=[58,32]:=by decide +kernel
  unfold spl
  rw [colon3,cat_toList,cat_toList,c2]
  show List.map mkS (spg [32,58,32] 0 [] (o.cps.toList ++ 58 :: 32 :: t.cps.toList))=_
  rw [O.fl [] _ T.n58]
  show [mkS ([] ++ (o.cps.toList ++ 58 :: 32 :: t.cps.toList))]=_
  rw [List.nil_append]
  congr 1
  rw [<- mkS_toList (o ++ (": " ++ t)),cat_toList,cat_toList,c2]
  rfl
 rw [rsB,sp3 D.n58,e]
 exact rsy_B2
include O D in
theorem f17:rsay ("through " ++ (d ++ (" " ++ o)))=none:=by
 have q:58 ∉ (d ++ ((" ":Str) ++ o)).cps.toList:=by
  rw [cat_toList,cat_toList,blank]
  intro z
  rcases List.mem_append.mp z with z | z
  ·exact D.n58 z
  ·rcases List.mem_append.mp z with z | z
   ·revert z; decide
   ·exact O.n58 z
 rw [rsT,spl3_free q]
 exact rsy_1 (by decide +kernel)
theorem f19:rsay ("Nowhere " ++ o)=none:=by
 have e:("Nowhere ":Str)="Nowhere" ++ " ":=by decide +kernel
 rw [e,rsay_sep (by decide +kernel)]
 exact rsy_h _ (by decide +kernel) (by decide +kernel) (by decide +kernel)
theorem f27:rsay ("where " ++ o)=none:=by
 have e:("where ":Str)="where" ++ " ":=by decide +kernel
 rw [e,rsay_sep (by decide +kernel)]
 exact rsy_h _ (by decide +kernel) (by decide +kernel) (by decide +kernel)
theorem f29:rsay (" nowhere " ++ o)=none:=by
 have e:(" nowhere ":Str)="" ++ " " ++ "nowhere ":=by decide +kernel
 rw [e,cat_as,rsay_sep (by decide +kernel)]
 exact rsy_h _ (by decide +kernel) (by decide +kernel) (by decide +kernel)
include O in
theorem f21:rsay ("nowhere " ++ (o ++ " and"))=none:=by
 have q:58 ∉ (o ++ (" and":Str)).cps.toList:=by
  rw [cat_toList]
  intro z
  rcases List.mem_append.mp z with z | z
  ·exact O.n58 z
  ·revert z; decide +kernel
 rw [rsN,spl3_free q]
 exact rsy_N1 O.an
include O in
theorem f26:rsay ("through : " ++ o)=none:=by
 have e:("through : ":Str)="through" ++ " " ++ ": ":=by decide +kernel
 have c2:(": ":Str).cps.toList=[58,32]:=by decide +kernel
 have q:spl (": " ++ o) " : "=[": " ++ o]:=by
  unfold spl
  rw [colon3,cat_toList,c2]
  show List.map mkS (spg [32,58,32] 0 [] (58 :: 32 :: o.cps.toList))=_
  rw [spg3_skip (by decide),spg3_free _ _ (fun z=>(List.mem_cons.mp z).elim (by decide) O.n58)]
  show [mkS ([58].reverse ++ 32 :: o.cps.toList)]=_
  congr 1
  rw [<- mkS_toList (": " ++ o),cat_toList,c2]
  rfl
 rw [e,cat_as,rsay_sep (by decide +kernel),q]
 exact rsy_1 (by decide +kernel)
end
def db:List Nat->Bool
 | a :: b :: l=>(a == 32 && b == 32) || db (b :: l)
 | _=>false
theorem db_skip {c:Nat} (hc:c ≠ 32) (l:List Nat):db (c :: l)=db l:=by
 have:(c == 32)=false:=by simpa using hc
 cases l with
 | nil=>rfl
 | cons d l=>simp [db,this]
theorem db_in {c:Nat} (hc:c ≠ 32) (a:Nat) (l:List Nat):db (a :: c :: l)=db (c :: l):=by
 have:(c == 32)=false:=by simpa using hc
 simp [db,this]
theorem db_two (r:List Nat): ∀ l,db (l ++ 32 :: 32 :: r)=true
 | []=>by simp [db]
 | a :: l=>by
  have:=db_two r l
  cases l with
  | nil=>simp [db]
  | cons b l=>simp only [List.cons_append] at this ⊢; simp [db,this]
theorem db_app (r:List Nat): ∀ l,db l=true->db (l ++ r)=true
 | [],h=>by cases h
 | [a],h=>by cases h
 | a :: b :: l,h=>by
  have ih:=db_app r (b :: l)
  simp only [List.cons_append] at ih ⊢
  simp only [db,Bool.or_eq_true] at h ⊢
  exact h.imp_right ih
theorem db_part {c:Nat} (hc:c ≠ 32) (r:List Nat): ∀ l,db (l ++ c :: r)=true->db l=true\/db r=true
 | [],h=>by rw [List.nil_append,db_skip hc] at h; exact .inr h
 | [a],h=>by
  have h:db (a :: c :: r)=true:=h
  rw [db_in hc,db_skip hc] at h; exact .inr h
 | a :: b :: l,h=>by
  have ih:=db_part hc r (b :: l)
  simp only [List.cons_append] at ih h
  simp only [db,Bool.or_eq_true] at h ⊢
  rcases h with h | h
  ·exact .inl (.inl h)
  ·exact (ih h).imp_left .inr
theorem db_free (r:List Nat): ∀ {l:List Nat},32 ∉ l->db (l ++ r)=db r
 | [],_=>rfl
 | a :: l,h=>by
  rw [List.cons_append,db_skip (fun z=>h (by rw [z]; exact List.mem_cons_self))]
  exact db_free r (fun z=>h (List.mem_cons_of_mem _ z))
theorem db_one {l r:List Nat} (hl:32 ∉ l) (h:db (32 :: (l ++ r))=true):l=[]\/db r=true:=by
 cases l with
 | nil=>exact .inl rfl
 | cons a l =>
  have ha:a ≠ 32:=fun z=>hl (by rw [z]; exact List.mem_cons_self)
  rw [List.cons_append,db_in ha, <- List.cons_append,db_free r hl] at h
  exact .inr h
theorem spg3_db: ∀ (l cur:List Nat),db (32 :: (cur.reverse ++ l))=true-> ∃ p ∈ spg [32,58,32] 0 cur l,db (32 :: (p ++ [32]))=true
 | [],cur,h=>⟨cur.reverse,by simp [spg],by
   rw [List.append_nil] at h
   exact db_app [32] (32 :: cur.reverse) h⟩
 | c :: l,cur,h=>by
  by_cases hp:[32,58,32].isPrefixOf (c :: l)=true
  ·obtain ⟨r,rfl,rfl⟩: ∃ r,c=32/\l=58 :: 32 :: r:=by
    rcases l with _ | ⟨d,_ | ⟨e,r⟩⟩ <;> simp [List.isPrefixOf] at hp
    obtain ⟨a,b,c⟩:=hp
    exact ⟨r,a.symm,by rw [<- b, <- c]⟩
   have e:spg [32,58,32] 0 cur (32 :: 58 :: 32 :: r)=cur.reverse :: spg [32,58,32] 0 [] r:=by simp [spg,List.isPrefixOf]
   rw [e]
   have h2:db ((32 :: cur.reverse ++ [32]) ++ 58 :: (32 :: r))=true:=by simpa using h
   rcases db_part (by decide) _ _ h2 with h3 | h3
   ·exact ⟨_,List.mem_cons_self,by simpa using h3⟩
   ·obtain ⟨p,hp,hq⟩:=spg3_db r [] (by simpa using h3)
    exact ⟨p,List.mem_cons_of_mem _ hp,hq⟩
  ·rw [spg,if_neg hp]
   exact spg3_db l (c :: cur) (by simpa using h)
termination_by l=>l.length
theorem spg1_db: ∀ (l cur:List Nat),32 ∉ cur->db (32 :: (cur.reverse ++ (l ++ [32])))=true->[] ∈ spg [32] 0 cur l
 | [],cur,hc,h=>by
  rcases db_one (by simpa using hc) h with h | h
  ·simp [spg,h]
  ·cases h
 | c :: l,cur,hc,h=>by
  by_cases hp:c=32
  ·subst hp
   have e:spg [32] 0 cur (32 :: l)=cur.reverse :: spg [32] 0 [] l:=by simp [spg,List.isPrefixOf]
   rw [e]
   rcases db_one (by simpa using hc) h with h | h
   ·rw [h]; exact List.mem_cons_self
   ·exact List.mem_cons_of_mem _ (spg1_db l [] (by simp) h)
  ·have hq: ¬ ([32].isPrefixOf (c :: l)=true):=by
    have:(32 == c)=false:=by simpa using fun z:32=c=>hp z.symm
    simp [List.isPrefixOf,this]
   rw [spg,if_neg hq]
   refine spg1_db l (c :: cur) ?_ (by simpa using h)
   intro z
   rcases List.mem_cons.mp z with z | z
   ·exact hp z.symm
   ·exact hc z
theorem rdt_db {p:Str} (h:db (32 :: (p.cps.toList ++ [32]))=true):rdt p=none:=by
 apply rdt_empty
 unfold spl
 rw [blank]
 exact List.mem_map.mpr ⟨[],spg1_db _ [] (by simp) h,by decide +kernel⟩
theorem deed_db {d:Str} (h:Deed d):db (32 :: (d.cps.toList ++ [32]))=false:=by
 rcases h with rfl | rfl | rfl | rfl | rfl <;> decide +kernel
theorem rsy_db {h:Str} {ps:List Str} {p:Str} (hp:p ∈ ps) (hd:db (32 :: (p.cps.toList ++ [32]))=true):rsy h ps=none:=by
 have hr:=rdt_db hd
 have hn: ¬ Deed p:=fun z=>by rw [deed_db z] at hd; cases hd
 unfold rsy
 split
 ·rw [List.mem_singleton] at hp
  subst hp
  rw [hr]; split <;> rfl
 ·simp only [List.mem_cons,List.not_mem_nil,or_false] at hp
  rcases hp with rfl | rfl
  ·rw [if_neg (fun z=>hn z.2)]
  ·rw [hr]; split <;> rfl
 ·simp only [List.mem_cons,List.not_mem_nil,or_false] at hp
  rcases hp with rfl | rfl | rfl
  ·rw [if_neg (fun z=>hn z.2)]
  ·rw [hr]; split <;> rfl
  ·rw [hr]
   split
   ·split
    ·rename_i q; cases q
    ·rfl
   ·rfl
 ·rfl
theorem rsay_db {x:Str} (h:db x.cps.toList=true):rsay x=none:=by
 by_cases hm:32 ∈ x.cps.toList
 ·obtain ⟨a,r,e,ha⟩:=List.eq_append_cons_of_mem hm
  unfold rsay part
  rw [blank,e,fst1_sep _ _ _ ha]
  rw [e,db_free _ ha] at h
  obtain ⟨p,hp,hq⟩:=spg3_db r [] h
  have er:(mkS r).cps.toList=r:=by simp [mkS]
  refine rsy_db (p:=mkS p) (show mkS p ∈ spl (mkS r) " : " from ?_) (by rw [show (mkS p).cps.toList=p from by simp [mkS]]; exact hq)
  unfold spl
  rw [colon3,er]
  exact List.mem_map.mpr ⟨p,hp,rfl⟩
 ·have:=db_free [] hm
  rw [List.append_nil,h] at this
  cases this
def sml (o d t:Str):List Str :=
  let h:Str:="behind " ++ d ++ " : "
  ["","nowhere","nowhere ","behind","through " ++ d,"through " ++ d ++ " : ",
   h ++ o,h ++ o ++ " : ",h ++ " : " ++ t,h ++ o ++ " : " ++ t ++ " : " ++ o,
   "behind " ++ o ++ " : " ++ d ++ " : " ++ t,"behind  " ++ d ++ " : " ++ o ++ " : " ++ t,"behind U : " ++ o ++ " : " ++ t,
   "behind p : " ++ o ++ " : " ++ t,h ++ o ++ ": " ++ t,"through PQ : " ++ o,
   "through " ++ o ++ " : " ++ d,"through " ++ d ++ " " ++ o,
   "nowhere " ++ o ++ " : " ++ t,"Nowhere " ++ o,"nowhere e",
   "nowhere " ++ o ++ " and",h ++ "not : " ++ t,h ++ o ++ " : not",
   h ++ o ++ " : e","through " ++ d ++ " : a b",
   "through : " ++ o,"where " ++ o,o," nowhere " ++ o,"nowhere " ++ d]
structure Dt (e:DP) (ps:PSt) (x:Str) (k:Nat):Prop where
 eq:e ps= .ok (.str x)
 len:x.length<=k
theorem dt_cat {a b:DP} {ps:PSt} {x y:Str} {j k:Nat} (A:Dt a ps x j) (B:Dt b ps y k) (h:j + k<=100000):Dt (d2 fCatS a b) ps (x ++ y) (j + k):=by
 have l1:=A.len
 have l2:=B.len
 refine ⟨?_,by rw [slen]; omega⟩
 have:d2 fCatS a b ps=(a ps).bind fun p=>(b ps).bind fun q=>fCatS p q:=rfl
 rw [this,A.eq,B.eq]
 exact catS (by rw [sz]; omega)
def slit (x:Str):Bool:=decide (x.length<=20)
theorem dt_c {ps:PSt} (x:Str) (h:slit x=true):Dt (dC (.str x)) ps x 20:=⟨rfl,of_decide_eq_true h⟩
inductive Dts:DA->PSt->List Str->Prop where
 | nil {ps:PSt}:Dts dNil ps []
 | cons {e:DP} {r:DA} {ps:PSt} {x:Str} {k:Nat} {l:List Str}:Dt e ps x k->Dts r ps l->Dts (dCons e r) ps (x :: l)
theorem dts_eq {r:DA} {ps:PSt} {l:List Str} (h:Dts r ps l):r ps= .ok (l.map .str):=by
 induction h with
 | nil=>rfl
 | cons h _ ih=>rw [e_cons,h.eq,ih]; rfl
theorem set_lst {k:Nat} {r:DA} {ps:PSt} {l:List Str} (h:Dts r ps l):sSet k (dOfN r) ps= .nx (ps.set k (.v (.lst (l.map .str)))):=by
 rw [e_set,e_ofN,dts_eq h]; rfl
theorem set_cat {k:Nat} {r:DA} {ps:PSt} {l m:List Str} (hs:dSee k ps= .ok (.lst (m.map .str))) (h:Dts r ps l) (hl:m.length + l.length<=1000):sSet k (dOfN (dCatL (dSee k) (dOfN r))) ps= .nx (ps.set k (.v (.lst ((m ++ l).map .str)))):=by
 rw [e_set,e_ofN,e_catL,hs,e_ofN,dts_eq h]
 show ((if (m.map PV.str).length + (l.map PV.str).length<=sizeLine then Rx.ok (m.map PV.str ++ l.map PV.str) else Rx.bad).bind _).st _=_
 rw [if_pos (by rw [List.length_map,List.length_map,sz]; omega),List.map_append]
 rfl
theorem atI_mem {l:List Str} {i:Int} (h0:0<=i) (h1:i < (l.length:Int)): ∃ x ∈ l,fIx (.lst (l.map .str)) (.int i)= .ok (.str x):=by
 obtain ⟨k,rfl⟩: ∃ k:Nat,i=k:=⟨i.toNat,by omega⟩
 have hk:k < l.length:=by omega
 refine ⟨l[k],List.getElem_mem hk,?_⟩
 rw [e_ixL,atI_nat (v:=PV.str l[k]) (by rw [List.getElem?_map,List.getElem?_eq_getElem hk]; rfl)]
def Ps (o d t y:Str) (z:Int) (m:List Str):PSt:=[.v (.str o),.v (.str d),.v (.str t),.v (.int z),.v (.str y),.v (.lst (m.map .str))]
theorem cat_step {o d t y:Str} {z:Int} {r:DA} {K:DS} {m:List Str} (l:List Str) (h:Dts r (Ps o d t y z m) l) (hl:m.length + l.length<=1000):sSeq (sSet 5 (dOfN (dCatL (dSee 5) (dOfN r)))) K (Ps o d t y z m)=K (Ps o d t y z (m ++ l)):=by
 rw [e_seq,set_cat (m:=m) rfl h hl,next_nx]
 rfl
theorem some_ok (n:Nat) {o d t:Str} (O:Gw o) (D:Lw d) (T:Gw t) (z:Int): ∃ x ∈ sml o d t,gF (n + 1) 8 [.str o,.str d,.str t,.int z]= .ok (.str x):=by
 have e:gF (n + 1) 8 [.str o,.str d,.str t,.int z]=fin (d_z8 (gF n) [.v (.str o),.v (.str d),.v (.str t),.v (.int z),.no,.no]):=rfl
 have Dd0:Dt (dSee 1) [.v (.str o),.v (.str d),.v (.str t),.v (.int z),.no,.no] d 1:=⟨rfl,D.len⟩
 have s1:=dt_cat (dt_cat (dt_c (ps:=[.v (.str o),.v (.str d),.v (.str t),.v (.int z),.no,.no]) "behind " (by decide +kernel)) Dd0 (by decide)) (dt_c " : " (by decide +kernel)) (by decide)
 have s1': ∀ (E:DP) (y:Str),E [.v (.str o),.v (.str d),.v (.str t),.v (.int z),.no,.no]= .ok (.str y)->sSet 4 E [.v (.str o),.v (.str d),.v (.str t),.v (.int z),.no,.no]= .nx [.v (.str o),.v (.str d),.v (.str t),.v (.int z),.v (.str y),.no]:=fun E y q=>by rw [e_set,q]; rfl
 have hl:=s1.len
 have run:d_z8 (gF n) [.v (.str o),.v (.str d),.v (.str t),.v (.int z),.no,.no]=sRet (d2 fIx (dSee 5) (d2 fMod (dSee 3) (dCall bLen (dCons (dSee 5) dNil)))) (Ps o d t ("behind " ++ d ++ " : ") z (sml o d t)):=by
  unfold d_z8 sml
  rw [e_seq,s1' _ _ s1.eq,next_nx]
  generalize hy:("behind ":Str) ++ d ++ " : "=y at hl
  have Dz: ∀ x:Str,slit x=true-> ∀ ps,Dt (dC (.str x)) ps x 20:=fun x h ps=>dt_c x h
  have Dd1:Dt (dSee 1) [.v (.str o),.v (.str d),.v (.str t),.v (.int z),.v (.str y),.no] d 1:=⟨rfl,D.len⟩
  have Do: ∀ m,Dt (dSee 0) (Ps o d t y z m) o 100:=fun _=>⟨rfl,O.len⟩
  have Dv: ∀ m,Dt (dVar 0) (Ps o d t y z m) o 100:=fun _=>⟨rfl,O.len⟩
  have Dd: ∀ m,Dt (dSee 1) (Ps o d t y z m) d 1:=fun _=>⟨rfl,D.len⟩
  have Dr: ∀ m,Dt (dSee 2) (Ps o d t y z m) t 100:=fun _=>⟨rfl,T.len⟩
  have Dh: ∀ m,Dt (dSee 4) (Ps o d t y z m) y 50:=fun _=>⟨rfl,by omega⟩
  have q0: ∀ (r:DA) (K:DS),Dts r [.v (.str o),.v (.str d),.v (.str t),.v (.int z),.v (.str y),.no] ["","nowhere","nowhere ","behind","through " ++ d,"through " ++ d ++ " : "]->sSeq (sSet 5 (dOfN r)) K [.v (.str o),.v (.str d),.v (.str t),.v (.int z),.v (.str y),.no]=K (Ps o d t y z ["","nowhere","nowhere ","behind","through " ++ d,"through " ++ d ++ " : "]):=fun r K h=>by
   rw [e_seq,set_lst h,next_nx]
   rfl
  refine (q0 _ _ ?_).trans ?_
  ·repeat' first | exact Dts.nil | apply Dts.cons | exact Dd1 | exact Do _ | exact Dd _ | exact Dr _ | exact Dh _ | exact Dv _ | apply dt_cat | exact dt_c _ (by decide +kernel) | decide
  refine (cat_step [y ++ o,y ++ o ++ " : ",y ++ " : " ++ t] ?_ (Nat.le_of_ble_eq_true rfl)).trans ?_
  ·repeat' first | exact Dts.nil | apply Dts.cons | exact Dd1 | exact Do _ | exact Dd _ | exact Dr _ | exact Dh _ | exact Dv _ | apply dt_cat | exact dt_c _ (by decide +kernel) | decide
  refine (cat_step [y ++ o ++ " : " ++ t ++ " : " ++ o] ?_ (Nat.le_of_ble_eq_true rfl)).trans ?_
  ·repeat' first | exact Dts.nil | apply Dts.cons | exact Dd1 | exact Do _ | exact Dd _ | exact Dr _ | exact Dh _ | exact Dv _ | apply dt_cat | exact dt_c _ (by decide +kernel) | decide
  refine (cat_step ["behind " ++ o ++ " : " ++ d ++ " : " ++ t] ?_ (Nat.le_of_ble_eq_true rfl)).trans ?_
  ·repeat' first | exact Dts.nil | apply Dts.cons | exact Dd1 | exact Do _ | exact Dd _ | exact Dr _ | exact Dh _ | exact Dv _ | apply dt_cat | exact dt_c _ (by decide +kernel) | decide
  refine (cat_step ["behind  " ++ d ++ " : " ++ o ++ " : " ++ t,"behind U : " ++ o ++ " : " ++ t] ?_ (Nat.le_of_ble_eq_true rfl)).trans ?_
  ·repeat' first | exact Dts.nil | apply Dts.cons | exact Dd1 | exact Do _ | exact Dd _ | exact Dr _ | exact Dh _ | exact Dv _ | apply dt_cat | exact dt_c _ (by decide +kernel) | decide
  refine (cat_step ["behind p : " ++ o ++ " : " ++ t,y ++ o ++ ": " ++ t,"through PQ : " ++ o] ?_ (Nat.le_of_ble_eq_true rfl)).trans ?_
  ·repeat' first | exact Dts.nil | apply Dts.cons | exact Dd1 | exact Do _ | exact Dd _ | exact Dr _ | exact Dh _ | exact Dv _ | apply dt_cat | exact dt_c _ (by decide +kernel) | decide
  refine (cat_step ["through " ++ o ++ " : " ++ d,"through " ++ d ++ " " ++ o] ?_ (Nat.le_of_ble_eq_true rfl)).trans ?_
  ·repeat' first | exact Dts.nil | apply Dts.cons | exact Dd1 | exact Do _ | exact Dd _ | exact Dr _ | exact Dh _ | exact Dv _ | apply dt_cat | exact dt_c _ (by decide +kernel) | decide
  refine (cat_step ["nowhere " ++ o ++ " : " ++ t,"Nowhere " ++ o,"nowhere e"] ?_ (Nat.le_of_ble_eq_true rfl)).trans ?_
  ·repeat' first | exact Dts.nil | apply Dts.cons | exact Dd1 | exact Do _ | exact Dd _ | exact Dr _ | exact Dh _ | exact Dv _ | apply dt_cat | exact dt_c _ (by decide +kernel) | decide
  refine (cat_step ["nowhere " ++ o ++ " and",y ++ "not : " ++ t,y ++ o ++ " : not"] ?_ (Nat.le_of_ble_eq_true rfl)).trans ?_
  ·repeat' first | exact Dts.nil | apply Dts.cons | exact Dd1 | exact Do _ | exact Dd _ | exact Dr _ | exact Dh _ | exact Dv _ | apply dt_cat | exact dt_c _ (by decide +kernel) | decide
  refine (cat_step [y ++ o ++ " : e","through " ++ d ++ " : a b"] ?_ (Nat.le_of_ble_eq_true rfl)).trans ?_
  ·repeat' first | exact Dts.nil | apply Dts.cons | exact Dd1 | exact Do _ | exact Dd _ | exact Dr _ | exact Dh _ | exact Dv _ | apply dt_cat | exact dt_c _ (by decide +kernel) | decide
  refine (cat_step ["through : " ++ o,"where " ++ o,o," nowhere " ++ o,"nowhere " ++ d] ?_ (Nat.le_of_ble_eq_true rfl)).trans ?_
  ·repeat' first | exact Dts.nil | apply Dts.cons | exact Dd1 | exact Do _ | exact Dd _ | exact Dr _ | exact Dh _ | exact Dv _ | apply dt_cat | exact dt_c _ (by decide +kernel) | decide
  rfl
 obtain ⟨x,hx,ix⟩:=atI_mem (l:=sml o d t) (i:=z % 31) (by omega) (by show z % 31 < 31; omega)
 refine ⟨x,hx,?_⟩
 rw [e,run]
 have r:(d2 fIx (dSee 5) (d2 fMod (dSee 3) (dCall bLen (dCons (dSee 5) dNil)))) (Ps o d t ("behind " ++ d ++ " : ") z (sml o d t))=fIx (.lst ((sml o d t).map .str)) (.int (z % 31)):=rfl
 show fin (((d2 fIx (dSee 5) (d2 fMod (dSee 3) (dCall bLen (dCons (dSee 5) dNil)))) (Ps o d t ("behind " ++ d ++ " : ") z (sml o d t))).st fun w=> .ret w)=_
 rw [r,ix]
 rfl
theorem zl0:("":Str).length=0:=by decide +kernel
theorem zl1:("nowhere":Str).length=7:=by decide +kernel
theorem zl2:("nowhere ":Str).length=8:=by decide +kernel
theorem zl3:("behind":Str).length=6:=by decide +kernel
theorem zl4:("through ":Str).length=8:=by decide +kernel
theorem zl5:(" : ":Str).length=3:=by decide +kernel
theorem zl6:("behind ":Str).length=7:=by decide +kernel
theorem zl7:("behind  ":Str).length=8:=by decide +kernel
theorem zl8:("behind U : ":Str).length=11:=by decide +kernel
theorem zl9:("behind p : ":Str).length=11:=by decide +kernel
theorem zl10:(": ":Str).length=2:=by decide +kernel
theorem zl11:("through PQ : ":Str).length=13:=by decide +kernel
theorem zl12:(" ":Str).length=1:=by decide +kernel
theorem zl13:("Nowhere ":Str).length=8:=by decide +kernel
theorem zl14:("nowhere e":Str).length=9:=by decide +kernel
theorem zl15:(" and":Str).length=4:=by decide +kernel
theorem zl16:("not : ":Str).length=6:=by decide +kernel
theorem zl17:(" : not":Str).length=6:=by decide +kernel
theorem zl18:(" : e":Str).length=4:=by decide +kernel
theorem zl19:(" : a b":Str).length=6:=by decide +kernel
theorem zl20:("through : ":Str).length=10:=by decide +kernel
theorem zl21:("where ":Str).length=6:=by decide +kernel
theorem zl22:(" nowhere ":Str).length=9:=by decide +kernel
theorem sml_bad {o d t:Str} (O:Gw o) (D:Lw d) (T:Gw t): ∀ x ∈ sml o d t,rsay x=none:=by
 intro x hx
 unfold sml at hx
 simp only [List.mem_cons,List.not_mem_nil,or_false,cat_as] at hx
 rcases hx with rfl | rfl | rfl | rfl | rfl | rfl | rfl | rfl | rfl | rfl | rfl | rfl | rfl | rfl | rfl | rfl | rfl | rfl | rfl | rfl | rfl | rfl | rfl | rfl | rfl | rfl | rfl | rfl | rfl | rfl | rfl
 ·exact f00
 ·exact f01
 ·exact f02
 ·exact f03
 ·exact f04 D
 ·exact f05 D
 ·exact f06 O D
 ·exact f07 O D
 ·exact f08 T D
 ·exact f09 O T D
 ·exact f10 O T D
 ·exact f11 O T D
 ·rw [show ("behind U : ":Str)="behind " ++ ("U" ++ " : ") from by decide +kernel]; simp only [cat_as]; exact f12 O T (by decide +kernel) (by decide +kernel)
 ·rw [show ("behind p : ":Str)="behind " ++ ("p" ++ " : ") from by decide +kernel]; simp only [cat_as]; exact f12 O T (by decide +kernel) (by decide +kernel)
 ·exact f14 O T D
 ·rw [show ("through PQ : ":Str)="through " ++ ("PQ" ++ " : ") from by decide +kernel]; simp only [cat_as]; exact f15 O (by decide +kernel) (by decide +kernel)
 ·exact f16 O D
 ·exact f17 O D
 ·exact f18 O T
 ·exact f19
 ·exact f20
 ·exact f21 O
 ·rw [show ("not : ":Str)="not" ++ " : " from by decide +kernel]; simp only [cat_as]; exact f22 T D (by decide +kernel) rdt_not
 ·rw [show (" : not":Str)=" : " ++ "not" from by decide +kernel]; exact f23 O D (by decide +kernel) rdt_not
 ·rw [show (" : e":Str)=" : " ++ "e" from by decide +kernel]; exact f23 O D (by decide +kernel) rdt_e
 ·exact f25 D
 ·exact f26 O
 ·exact f27
 ·exact f28 O
 ·exact f29
 ·exact f30 D
theorem sml_len {o d t:Str} (O:Gw o) (D:Lw d) (T:Gw t): ∀ x ∈ sml o d t,x.length<=1000:=by
 have l1:=O.len
 have l2:=D.len
 have l3:=T.len
 intro x hx
 unfold sml at hx
 simp only [List.mem_cons,List.not_mem_nil,or_false] at hx
 rcases hx with h | h | h | h | h | h | h | h | h | h | h | h | h | h | h | h | h | h | h | h | h | h | h | h | h | h | h | h | h | h | h <;> rw [h] <;> (try simp only [slen,zl0,zl1,zl2,zl3,zl4,zl5,zl6,zl7,zl8,zl9,zl10,zl11,zl12,zl13,zl14,zl15,zl16,zl17,zl18,zl19,zl20,zl21,zl22]) <;> omega
def Sg.txt:Sg->Str
 | .nowhere t=>"nowhere " ++ t.txt
 | .behind b d a=>"behind " ++ d ++ " : " ++ b.txt ++ " : " ++ a.txt
 | .through t d=>"through " ++ d ++ " : " ++ t.txt
structure Tk (t:Tr):Prop where
 ok:t.ok
 sz:t.size<=40
theorem rdt_fm {x:Str} {t:Tr} (h:rdt x=some t):Fm 2 t (spl x " ")/\(spl x " ").length<=40:=by
 unfold rdt at h
 split at h
 ·cases h
 ·rename_i hl
  rcases rdw_acc (ws:=spl x " ") (by omega) with ⟨u,e,f⟩ | ⟨e,_⟩
  ·rw [e] at h; cases h; exact ⟨f,by omega⟩
  ·rw [e] at h; cases h
theorem rdt_tk {x:Str} {t:Tr} (h:rdt x=some t):Tk t:=by
 obtain ⟨f,hl⟩:=rdt_fm h
 exact ⟨fm_ok f,Nat.le_trans (fm_size f) hl⟩
def Sg.ok:Sg->Prop
 | .nowhere t=>Tk t
 | .behind b d a=>Tk b/\Lw d/\Tk a
 | .through t d=>Tk t/\Lw d
theorem rsy_ok {h:Str} {ps:List Str} {s:Sg} (e:rsy h ps=some s):s.ok:=by
 unfold rsy at e
 split at e
 ·split at e
  ·obtain ⟨t,ht,rfl⟩:=Option.map_eq_some_iff.mp e
   exact rdt_tk ht
  ·cases e
 ·split at e
  ·rename_i q
   obtain ⟨t,ht,rfl⟩:=Option.map_eq_some_iff.mp e
   exact ⟨rdt_tk ht,lw q.2⟩
  ·cases e
 ·split at e
  ·rename_i q
   split at e
   ·rename_i b a hb ha
    cases e
    exact ⟨rdt_tk hb,lw q.2,rdt_tk ha⟩
   ·cases e
  ·cases e
 ·cases e
theorem dt_tx {n:Nat} {t:Tr} (T:Tk t) (hn:45<=n) {e:DP} {ps:PSt} (h:e ps= .ok t.pv):Dt (dMeth q_text (gF n) e dNil) ps t.txt 520:=by
 have h1:=T.sz
 have h2:=depth_size t
 have h3:=txt_len t T.ok
 refine ⟨?_,by omega⟩
 have e1:dMeth q_text (gF n) e dNil ps=(e ps).bind fun x=>(dNil ps).bind fun ws=>callM q_text (gF n) x ws:=rfl
 rw [e1,h]
 exact ttext_ok t n T.ok (by omega) (by omega)
theorem ret_dt {e:DP} {ps:PSt} {x:Str} {k:Nat} (h:Dt e ps x k):fin (sRet e ps)= .ok (.str x):=by
 have:sRet e ps=(e ps).st fun w=> .ret w:=rfl
 rw [this,h.eq]; rfl
theorem sg_txt (s:Sg) (n:Nat) (h:s.ok) (hn:46<=n):callM q_text (gF n) s.pv []= .ok (.str s.txt):=by
 obtain ⟨n,rfl⟩: ∃ k,n=k + 1:=⟨n - 1,by omega⟩
 cases s with
 | nowhere t=>exact ret_dt (dt_cat (dt_c "nowhere " (by decide +kernel)) (dt_tx (e:=dFld a_test (dVar 0)) (ps:=[.v (.obj 8 [t.pv])]) h (by omega) rfl) (by decide))
 | behind b d a =>
  obtain ⟨hb,hd,ha⟩:=h
  exact ret_dt (dt_cat (dt_cat (dt_cat (dt_cat (dt_cat (dt_c "behind " (by decide +kernel)) (⟨rfl,hd.len⟩:Dt (dFld a_deed (dVar 0)) [.v (.obj 9 [b.pv,.str d,a.pv])] d 1) (by decide)) (dt_c " : " (by decide +kernel)) (by decide)) (dt_tx (e:=dFld a_before (dVar 0)) hb (by omega) rfl) (by decide)) (dt_c " : " (by decide +kernel)) (by decide)) (dt_tx (e:=dFld a_after (dVar 0)) ha (by omega) rfl) (by decide))
 | through t d =>
  obtain ⟨ht,hd⟩:=h
  exact ret_dt (dt_cat (dt_cat (dt_cat (dt_c "through " (by decide +kernel)) (⟨rfl,hd.len⟩:Dt (dFld a_deed (dVar 0)) [.v (.obj 10 [t.pv,.str d])] d 1) (by decide)) (dt_c " : " (by decide +kernel)) (by decide)) (dt_tx (e:=dFld a_test (dVar 0)) ht (by omega) rfl) (by decide))
theorem txt_ne (s:Sg):(s.txt == "")=false:=by
 have:s.txt ≠ "":=fun z=>by
  have l:=congrArg Str.length z
  have k:("":Str).length=0:=by decide +kernel
  rw [k] at l
  cases s <;> simp only [Sg.txt,slen,zl2,zl4,zl6] at l <;> omega
 simpa using this
theorem fold_rep (a:Array Nat): ∀ (k:Nat) (acc:Array Nat),((List.replicate k a).foldl (· ++ ·) acc).toList=acc.toList ++ (List.replicate k a.toList).flatten
 | 0,acc=>by simp
 | k + 1,acc=>by
  rw [List.replicate_succ,List.foldl_cons,fold_rep a k]
  simp [List.replicate_succ]
theorem mul_not {k:Nat} (hk:2<=k):(Txt.mul "not " (k:Int)).cps.toList=(List.replicate k ("not ":Str).cps.toList).flatten:=by
 unfold Txt.mul
 rw [if_neg (by omega)]
 have e:((k:Int) == 1 || ("not ":Str).length == 0)=false:=by
  have a1:((k:Int) == 1)=false:=by
   have: ¬ ((k:Int)=1):=by omega
   simpa using this
  rw [a1,Bool.false_or]
  decide +kernel
 rw [e,if_neg Bool.false_ne_true]
 show ((List.replicate ((k:Int)).toNat ("not ":Str).cps).foldl (· ++ ·) #[]).toList=_
 rw [fold_rep,Int.toNat_natCast]
 simp
def ntw (c:Str):Nat->List Str
 | 0=>[c]
 | k + 1=>"not" :: ntw c k
def ntt (c:Str):Nat->Tr
 | 0=> .named c
 | k + 1=> .neg (ntt c k)
theorem ntw_ne (c:Str) (k:Nat):ntw c k ≠ []:=by cases k <;> simp [ntw]
theorem ntw_len (c:Str): ∀ k,(ntw c k).length=k + 1
 | 0=>rfl
 | k + 1=>by rw [ntw,List.length_cons,ntw_len c k]
theorem ntw_list (c:Str): ∀ k,(jn (ntw c k)).cps.toList=(List.replicate k ("not ":Str).cps.toList).flatten ++ c.cps.toList
 | 0=>by simp [ntw,jn]
 | k + 1=>by rw [ntw,jn_not (ntw_ne c k),cat_toList,ntw_list c k,List.replicate_succ,List.flatten_cons,List.append_assoc]
theorem mul_jn {k:Nat} (hk:2<=k) (c:Str):Txt.mul "not " (k:Int) ++ c=jn (ntw c k):=by
 rw [<- mkS_toList (Txt.mul "not " (k:Int) ++ c), <- mkS_toList (jn (ntw c k)),cat_toList,mul_not hk,ntw_list]
theorem ntw_fm {c:Str} (h:Letter c): ∀ k,Fm 0 (ntt c k) (ntw c k)
 | 0=> .named h
 | k + 1=> .neg (ntw_fm h k)
theorem ntt_isB (c:Str) (k:Nat):(ntt c k).isB=false:=by cases k <;> rfl
theorem ntt_txt (c:Str): ∀ k,(ntt c k).txt=jn (ntw c k)
 | 0=>by simp [ntw,jn,ntt,Tr.txt]
 | k + 1=>by rw [ntw,jn_not (ntw_ne c k), <- ntt_txt c k,ntt]; simp [Tr.txt,ntt_isB]
structure Nw (x:Str) (k:Nat):Prop where
 n58:58 ∉ x.cps.toList
 len:x.length<=4 * k + 1
 none:40 < k + 1->rdt x=none
 some: ¬ 40 < k + 1-> ∃ t,rdt x=some t/\t.txt=x
theorem nt58 {c:Str} (h:Letter c): ∀ k,58 ∉ (jn (ntw c k)).cps.toList
 | 0=>by rcases h with rfl | rfl | rfl | rfl <;> decide +kernel
 | k + 1=>by
  rw [ntw,jn_not (ntw_ne c k),cat_toList]
  intro z
  rcases List.mem_append.mp z with z | z
  ·revert z; decide +kernel
  ·exact nt58 h k z
theorem ntlen {c:Str} (h:Letter c): ∀ k,(jn (ntw c k)).length<=4 * k + 1
 | 0=>by rcases h with rfl | rfl | rfl | rfl <;> decide +kernel
 | k + 1=>by
  have:=ntlen h k
  have e:("not ":Str).length=4:=by decide +kernel
  rw [ntw,jn_not (ntw_ne c k),slen,e]
  omega
theorem nw_ok {c:Str} (h:Letter c) {k:Nat} (hk:2<=k):Nw (Txt.mul "not " (k:Int) ++ c) k:=by
 rw [mul_jn hk]
 have f:Fm 2 (ntt c k) (ntw c k):=(ntw_fm h k).up (by omega) (by omega)
 have e:spl (jn (ntw c k)) " "=ntw c k:=spl_jn (ntw_ne c k) (fm_blank f)
 have l:=ntw_len c k
 refine ⟨nt58 h k,ntlen h k,fun q=> ?_,fun q=>⟨ntt c k,?_,ntt_txt c k⟩⟩
 ·unfold rdt
  rw [e,l,if_pos q]
 ·unfold rdt
  rw [e,l,if_neg q]
  exact rdw_fm f (by omega)
theorem lt_letter {b:Nat} (h:b < 4):Letter (lt b):=by
 have:b=0\/b=1\/b=2\/b=3:=by omega
 rcases this with rfl | rfl | rfl | rfl
 ·exact .inl rfl
 ·exact .inr (.inl rfl)
 ·exact .inr (.inr (.inl rfl))
 ·exact .inr (.inr (.inr rfl))
theorem set_dt {k:Nat} {e:DP} {ps:PSt} {x:Str} {j:Nat} (h:Dt e ps x j):sSet k e ps= .nx (ps.set k (.v (.str x))):=by
 rw [e_set,h.eq]; rfl
def lgl (d x:Str):List Str:=["nowhere " ++ x,"through " ++ d ++ " : " ++ x,"behind " ++ d ++ " : a : " ++ x,"behind " ++ d ++ " : " ++ x ++ " : b"]
theorem rdt_letter {c:Str} (h:Letter c):rdt c=some (.named c):=by
 have f:Fm 2 (.named c) [c]:=(Fm.named h).up (by omega) (by omega)
 have e:spl c " "=[c]:=spl_jn (ws:=[c]) (by simp) (fm_blank f)
 unfold rdt
 rw [e,if_neg (by simp)]
 exact rdw_fm f (by simp)
theorem rdt_a:rdt "a"=some (.named "a"):=rdt_letter (.inl rfl)
theorem rdt_b:rdt "b"=some (.named "b"):=rdt_letter (.inr (.inl rfl))
theorem ca:(" : a : ":Str)=" : " ++ ("a" ++ " : "):=by decide +kernel
theorem cb:(" : b":Str)=" : " ++ "b":=by decide +kernel
theorem n58a:58 ∉ ("a":Str).cps.toList:=by decide +kernel
theorem n58b:58 ∉ ("b":Str).cps.toList:=by decide +kernel
theorem lgl_none {d x:Str} {k:Nat} (D:Lw d) (N:Nw x k) (h:40 < k + 1): ∀ y ∈ lgl d x,rsay y=none:=by
 have r:=N.none h
 intro y hy
 unfold lgl at hy
 simp only [List.mem_cons,List.not_mem_nil,or_false,cat_as,ca,cb] at hy
 rcases hy with rfl | rfl | rfl | rfl
 ·rw [rsN,spl3_free N.n58]; exact rsy_N1 r
 ·rw [rsT,sp3 D.n58,spl3_free N.n58]; exact rsy_T2 (.inr r)
 ·rw [rsB,sp3 D.n58,sp3 n58a,spl3_free N.n58]; exact rsy_B3 (.inr (.inr r))
 ·rw [rsB,sp3 D.n58,sp3 N.n58,spl3_free n58b]; exact rsy_B3 (.inr (.inl r))
theorem rsy_sN {x:Str} {t:Tr} (h:rdt x=some t):rsy "nowhere" [x]=some (.nowhere t):=by
 rw [rsy_e1,if_pos rfl,h]; rfl
theorem rsy_sT {d x:Str} {t:Tr} (D:Lw d) (h:rdt x=some t):rsy "through" [d,x]=some (.through t d):=by
 rw [rsy_e2,if_pos ⟨rfl,D.dd⟩,h]; rfl
theorem rsy_sB {d x y:Str} {b a:Tr} (D:Lw d) (hb:rdt x=some b) (ha:rdt y=some a):rsy "behind" [d,x,y]=some (.behind b d a):=by
 show (if ("behind":Str)="behind"/\Deed d then (match rdt x,rdt y with | some b,some e=>some (Sg.behind b d e) | _,_=>none) else none)=_
 rw [if_pos ⟨rfl,D.dd⟩,hb,ha]
theorem lgl_some {d x:Str} {k:Nat} (D:Lw d) (N:Nw x k) (h: ¬ 40 < k + 1): ∀ y ∈ lgl d x, ∃ s,rsay y=some s/\s.txt=y:=by
 obtain ⟨t,r,tx⟩:=N.some h
 intro y hy
 unfold lgl at hy
 simp only [List.mem_cons,List.not_mem_nil,or_false,cat_as,ca,cb] at hy
 rcases hy with rfl | rfl | rfl | rfl
 ·exact ⟨.nowhere t,by rw [rsN,spl3_free N.n58]; exact rsy_sN r,by rw [Sg.txt,tx]⟩
 ·exact ⟨.through t d,by rw [rsT,sp3 D.n58,spl3_free N.n58]; exact rsy_sT D r,by rw [Sg.txt,tx]; simp only [cat_as]⟩
 ·exact ⟨.behind (.named "a") d t,by rw [rsB,sp3 D.n58,sp3 n58a,spl3_free N.n58]; exact rsy_sB D rdt_a r,by rw [Sg.txt,tx]; simp only [cat_as]; rfl⟩
 ·exact ⟨.behind t d (.named "b"),by rw [rsB,sp3 D.n58,sp3 N.n58,spl3_free n58b]; exact rsy_sB D r rdt_b,by rw [Sg.txt,tx]; simp only [cat_as]; rfl⟩
theorem read_some {x:Str} (hx:x.length<=1000000) {s:Sg} (h:rsay x=some s) (n:Nat) (hn:168<=n):gF (n + 1) 2 [.str x]= .ok s.pv:=by
 rw [read_saying_all x hx n hn,h]; rfl
theorem text_of {x:Str} (hx:x.length<=1000000) {s:Sg} (h:rsay x=some s) (n:Nat) (hn:168<=n) {e:DP} {ps:PSt} (he:e ps= .ok (.str x)):dMeth q_text (gF (n + 1)) (dCall (gF (n + 1) 2) (dCons e dNil)) dNil ps= .ok (.str s.txt):=by
 have e1:dMeth q_text (gF (n + 1)) (dCall (gF (n + 1) 2) (dCons e dNil)) dNil ps=((dCons e dNil ps).bind fun ws=>gF (n + 1) 2 ws).bind fun y=>(dNil ps).bind fun ws=>callM q_text (gF (n + 1)) y ws:=rfl
 rw [e1,e_cons,he]
 show (gF (n + 1) 2 [.str x]).bind _=_
 rw [read_some hx h n hn,ok_bind]
 exact sg_txt s (n + 1) (rsy_ok h) (by omega)
theorem long_ok (n:Nat) (hn:170<=n) {d:Str} (D:Lw d) (z:Int):gF (n + 1) 9 [.str d,.int z]= .ok (.bl true):=by
 obtain ⟨n,rfl⟩: ∃ k,n=k + 1:=⟨n - 1,by omega⟩
 have e:gF (n + 1 + 1) 9 [.str d,.int z]=fin (d_z9 (gF (n + 1)) [.v (.str d),.v (.int z),.no,.no,.no,.no]):=rfl
 obtain ⟨a,ha,ea⟩: ∃ a:Nat,a < 5/\z % 5=a:=⟨(z % 5).toNat,by omega,by omega⟩
 obtain ⟨b,hb,eb,fb,_⟩:=four (j:=z / 5 % 4) (by omega) (by omega)
 have N:=nw_ok (lt_letter hb) (k:=37 + a) (by omega)
 have ml:(Txt.mul "not " ((37 + a:Nat):Int)).length<=200:=by
  have:=PyProof.Rows.len_mul "not " ((37 + a:Nat):Int)
  have k:("not ":Str).length=4:=by decide +kernel
  rw [k] at this
  split at this <;> omega
 have hm:fMulS (.str "not ") (.int ((37 + a:Nat):Int))= .ok (.str (Txt.mul "not " ((37 + a:Nat):Int))):=by
  show (if ("not ":Str).length<=100/\(-100<=((37 + a:Nat):Int)/\((37 + a:Nat):Int)<=100) then Rx.ok (PV.str (Txt.mul "not " ((37 + a:Nat):Int))) else .bad)=_
  rw [if_pos ⟨by decide +kernel,by omega,by omega⟩]
 have ll:(lt b).length<=1:=by
  have:=letter_len (lt_letter hb)
  omega
 rw [e]
 unfold d_z9
 have s1:sSet 2 (d2 fAdd (dC (.int 38)) (d2 fMod (dSee 1) (dC (.int 5)))) [.v (.str d),.v (.int z),.no,.no,.no,.no]= .nx [.v (.str d),.v (.int z),.v (.int ((38 + a:Nat):Int)),.no,.no,.no]:=by
  simp [ea]
 rw [e_seq,s1,next_nx]
 have d3:Dt (d2 fCatS (d2 fMulS (dC (.str "not ")) (d2 fSub (dSee 2) (dC (.int 1)))) (d2 fIx (dC (.str "abcd")) (d2 fMod (d2 fDiv (dSee 1) (dC (.int 5))) (dC (.int 4))))) [.v (.str d),.v (.int z),.v (.int ((38 + a:Nat):Int)),.no,.no,.no] (Txt.mul "not " ((37 + a:Nat):Int) ++ lt b) (200 + 1):=by
  refine dt_cat ⟨?_,ml⟩ ⟨?_,ll⟩ (by decide)
  ·have:(((38 + a:Nat):Int) - 1)=((37 + a:Nat):Int):=by omega
   rw [<- hm, <- this]
   rfl
  ·rw [<- fb]
   rfl
 rw [e_seq,set_dt d3,next_nx]
 have xl:=d3.len
 generalize Txt.mul "not " ((37 + a:Nat):Int) ++ lt b=x at N xl
 have Dx: ∀ b,Dt (dSee 3) [.v (.str d),.v (.int z),.v (.int ((38 + a:Nat):Int)),.v (.str x),b,.no] x 201:=fun _=>⟨rfl,xl⟩
 have Dd: ∀ b,Dt (dSee 0) [.v (.str d),.v (.int z),.v (.int ((38 + a:Nat):Int)),.v (.str x),b,.no] d 1:=fun _=>⟨rfl,D.len⟩
 have s4: ∀ (r:DA) (K:DS),Dts r [.v (.str d),.v (.int z),.v (.int ((38 + a:Nat):Int)),.v (.str x),.no,.no] ["nowhere " ++ x,"through " ++ d ++ " : " ++ x]->sSeq (sSet 4 (dOfN r)) K [.v (.str d),.v (.int z),.v (.int ((38 + a:Nat):Int)),.v (.str x),.no,.no]=K [.v (.str d),.v (.int z),.v (.int ((38 + a:Nat):Int)),.v (.str x),.v (.lst (["nowhere " ++ x,"through " ++ d ++ " : " ++ x].map .str)),.no]:=fun r K h=>by
  rw [e_seq,set_lst h,next_nx]
  rfl
 have s5: ∀ (r:DA) (K:DS),Dts r [.v (.str d),.v (.int z),.v (.int ((38 + a:Nat):Int)),.v (.str x),.v (.lst (["nowhere " ++ x,"through " ++ d ++ " : " ++ x].map .str)),.no] ["behind " ++ d ++ " : a : " ++ x,"behind " ++ d ++ " : " ++ x ++ " : b"]->sSeq (sSet 4 (dOfN (dCatL (dSee 4) (dOfN r)))) K [.v (.str d),.v (.int z),.v (.int ((38 + a:Nat):Int)),.v (.str x),.v (.lst (["nowhere " ++ x,"through " ++ d ++ " : " ++ x].map .str)),.no]=K [.v (.str d),.v (.int z),.v (.int ((38 + a:Nat):Int)),.v (.str x),.v (.lst ((lgl d x).map .str)),.no]:=fun r K h=>by
  rw [e_seq,set_cat (m:=["nowhere " ++ x,"through " ++ d ++ " : " ++ x]) rfl h (Nat.le_of_ble_eq_true rfl),next_nx]
  rfl
 have g4:fin ((sSeq (sSet 5 (d2 fIx (dSee 4) (d2 fMod (d2 fDiv (dSee 1) (dC (.int 20))) (dC (.int 4)))))
 (sSeq (sIf (dTr (d2 fGt (dSee 2) (dC (.int 40))))
 (sRet (dCall (gF (n + 1) 7) (dCons (dVar 5) dNil)))
 sNext)
 (sRet (d2 fEq (dMeth q_text (gF (n + 1)) (dCall (gF (n + 1) 2) (dCons (dVar 5) dNil)) dNil) (dSee 5))))) [.v (.str d),.v (.int z),.v (.int ((38 + a:Nat):Int)),.v (.str x),.v (.lst ((lgl d x).map .str)),.no])= .ok (.bl true):=by
  obtain ⟨y,hy,iy⟩:=atI_mem (l:=lgl d x) (i:=z / 20 % 4) (by omega) (by show z / 20 % 4 < 4; omega)
  have s6:sSet 5 (d2 fIx (dSee 4) (d2 fMod (d2 fDiv (dSee 1) (dC (.int 20))) (dC (.int 4)))) [.v (.str d),.v (.int z),.v (.int ((38 + a:Nat):Int)),.v (.str x),.v (.lst ((lgl d x).map .str)),.no]= .nx [.v (.str d),.v (.int z),.v (.int ((38 + a:Nat):Int)),.v (.str x),.v (.lst ((lgl d x).map .str)),.v (.str y)]:=by
   have:d2 fIx (dSee 4) (d2 fMod (d2 fDiv (dSee 1) (dC (.int 20))) (dC (.int 4))) [.v (.str d),.v (.int z),.v (.int ((38 + a:Nat):Int)),.v (.str x),.v (.lst ((lgl d x).map .str)),.no]=fIx (.lst ((lgl d x).map .str)) (.int (z / 20 % 4)):=rfl
   rw [e_set,this,iy]
   rfl
  have yl:y.length<=1000000:=by
   have l2:=D.len
   have c1:(" : a : ":Str).length=7:=by decide +kernel
   have c2:(" : b":Str).length=4:=by decide +kernel
   unfold lgl at hy
   simp only [List.mem_cons,List.not_mem_nil,or_false] at hy
   rcases hy with h | h | h | h <;> rw [h] <;> simp only [slen,zl2,zl4,zl5,zl6,c1,c2] <;> omega
  rw [e_seq,s6,next_nx]
  by_cases h:40 < 37 + a + 1
  ·have h':(40:Int) < ((38 + a:Nat):Int):=by omega
   have r:=refused46 y yl n (by omega) (lgl_none D N h y hy)
   have e1:(dCall (gF (n + 1) 7) (dCons (dVar 5) dNil)) [.v (.str d),.v (.int z),.v (.int ((38 + a:Nat):Int)),.v (.str x),.v (.lst ((lgl d x).map .str)),.v (.str y)]=gF (n + 1) 7 [.str y]:=rfl
   have e2:(dTr (d2 fGt (dSee 2) (dC (.int 40)))) [.v (.str d),.v (.int z),.v (.int ((38 + a:Nat):Int)),.v (.str x),.v (.lst ((lgl d x).map .str)),.v (.str y)]= .ok true:=by
    show Rx.ok (decide ((40:Int) < ((38 + a:Nat):Int)))=_
    rw [decide_eq_true h']
   have e3:sRet (dCall (gF (n + 1) 7) (dCons (dVar 5) dNil)) [.v (.str d),.v (.int z),.v (.int ((38 + a:Nat):Int)),.v (.str x),.v (.lst ((lgl d x).map .str)),.v (.str y)]= .ret (.bl true):=by
    rw [e_ret,e1,r]; rfl
   rw [e_seq,e_if,e2]
   show fin ((sRet (dCall (gF (n + 1) 7) (dCons (dVar 5) dNil)) [.v (.str d),.v (.int z),.v (.int ((38 + a:Nat):Int)),.v (.str x),.v (.lst ((lgl d x).map .str)),.v (.str y)]).next _)=_
   rw [e3]
   rfl
  ·have h': ¬ (40:Int) < ((38 + a:Nat):Int):=by omega
   obtain ⟨s,hs,hx⟩:=lgl_some D N h y hy
   have t:=text_of yl hs n (by omega) (e:=dVar 5) (ps:=[.v (.str d),.v (.int z),.v (.int ((38 + a:Nat):Int)),.v (.str x),.v (.lst ((lgl d x).map .str)),.v (.str y)]) rfl
   have e2:(dTr (d2 fGt (dSee 2) (dC (.int 40)))) [.v (.str d),.v (.int z),.v (.int ((38 + a:Nat):Int)),.v (.str x),.v (.lst ((lgl d x).map .str)),.v (.str y)]= .ok false:=by
    show Rx.ok (decide ((40:Int) < ((38 + a:Nat):Int)))=_
    rw [decide_eq_false h']
   have e3:(d2 fEq (dMeth q_text (gF (n + 1)) (dCall (gF (n + 1) 2) (dCons (dVar 5) dNil)) dNil) (dSee 5)) [.v (.str d),.v (.int z),.v (.int ((38 + a:Nat):Int)),.v (.str x),.v (.lst ((lgl d x).map .str)),.v (.str y)]= .ok (.bl true):=by
    show ((dMeth q_text (gF (n + 1)) (dCall (gF (n + 1) 2) (dCons (dVar 5) dNil)) dNil [.v (.str d),.v (.int z),.v (.int ((38 + a:Nat):Int)),.v (.str x),.v (.lst ((lgl d x).map .str)),.v (.str y)])).bind (fun p=>(Rx.ok (.str y)).bind fun q=>fEq p q)=_
    rw [t,hx]
    show Rx.ok (PV.bl (y == y))=_
    rw [show (y == y)=true from by simp]
   have e4:(sIf (dTr (d2 fGt (dSee 2) (dC (.int 40)))) (sRet (dCall (gF (n + 1) 7) (dCons (dVar 5) dNil))) sNext) [.v (.str d),.v (.int z),.v (.int ((38 + a:Nat):Int)),.v (.str x),.v (.lst ((lgl d x).map .str)),.v (.str y)]= .nx [.v (.str d),.v (.int z),.v (.int ((38 + a:Nat):Int)),.v (.str x),.v (.lst ((lgl d x).map .str)),.v (.str y)]:=by
    rw [e_if,e2]
    rfl
   rw [e_seq,e4,next_nx,e_ret,e3]
   rfl
 refine (congrArg fin (s4 _ _ ?_)).trans ?_
 ·repeat' first | exact Dts.nil | apply Dts.cons | exact Dd _ | exact Dx _ | apply dt_cat | exact dt_c _ (by decide +kernel) | decide
 refine (congrArg fin (s5 _ _ ?_)).trans ?_
 ·repeat' first | exact Dts.nil | apply Dts.cons | exact Dd _ | exact Dx _ | apply dt_cat | exact dt_c _ (by decide +kernel) | decide
 exact g4
theorem stp_colon (s:Sta):stp s ":"=none:=by
 rcases s with _ | ⟨d,_ | _⟩
 ·rfl
 ·exact stp_w (by decide +kernel) (by decide +kernel) (by decide +kernel)
 ·exact stp_h (by decide +kernel) (by decide +kernel) (by decide +kernel)
theorem run_app (s:Sta) (a b:List Str):run s (a ++ b)=run (run s a) b:=by
 unfold run
 rw [List.foldl_append]
theorem spg1_app: ∀ (l cur r:List Nat),spg [32] 0 cur (l ++ 32 :: r)=spg [32] 0 cur l ++ spg [32] 0 [] r
 | [],cur,r=>by simp [spg,List.isPrefixOf]
 | c :: l,cur,r=>by
  rw [List.cons_append]
  by_cases hp:c=32
  ·subst hp
   have e: ∀ m,spg [32] 0 cur (32 :: m)=cur.reverse :: spg [32] 0 [] m:=fun m=>by simp [spg,List.isPrefixOf]
   rw [e,e,spg1_app l [] r,List.cons_append]
  ·have e: ∀ m,spg [32] 0 cur (c :: m)=spg [32] 0 (c :: cur) m:=fun m=>by
    have hq: ¬ ([32].isPrefixOf (c :: m)=true):=by
     have:(32 == c)=false:=by simpa using fun z:32=c=>hp z.symm
     simp [List.isPrefixOf,this]
    rw [spg,if_neg hq]
   rw [e,e,spg1_app l (c :: cur) r]
theorem spl1_app (x r:Str):spl (x ++ (" " ++ r)) " "=spl x " " ++ spl r " ":=by
 unfold spl
 rw [cat_toList,cat_toList,blank, <- List.map_append, <- spg1_app]
 rfl
theorem rdt_no {x:Str} (h: ¬ Acc (spl x " ")):rdt x=none:=by
 cases e:rdt x with
 | none=>rfl
 | some t=>exact absurd (fm_acc (rdt_fm e).1) h
theorem rdt_colon (x:Str):rdt (x ++ " :")=none:=by
 apply rdt_no
 rw [show (" :":Str)=" " ++ ":" from by decide +kernel,spl1_app,show spl ":" " "=[(":":Str)] from by decide +kernel]
 unfold Acc
 rw [run_app,run_cons,stp_colon,run_none]
 intro z; cases z
theorem rdt_end (x:Str):rdt (x ++ " ")=none:=by
 apply rdt_db
 rw [cat_toList,blank,List.append_assoc]
 exact db_two [] (32 :: x.cps.toList)
theorem two_none {w:Str} (h:stp (some (0,false)) w ≠ none):stp (some (0,true)) w=none:=by
 apply stp_h0
 ·rintro rfl
  exact h (stp_w (by decide +kernel) (by decide +kernel) (by decide +kernel))
 ·rintro rfl
  exact h (stp_w (by decide +kernel) (by decide +kernel) (by decide +kernel))
theorem rdt_two {x y:Str} {t u:Tr} (hx:rdt x=some t) (hy:rdt y=some u):rdt (x ++ (" " ++ y))=none:=by
 apply rdt_no
 rw [spl1_app]
 have fx:=(rdt_fm hx).1
 have fy:=(rdt_fm hy).1
 unfold Acc
 rw [fm_run fx]
 have ay:=fm_acc fy
 have ne:=fm_ne fy
 unfold Acc at ay
 cases hs:spl y " " with
 | nil=>exact absurd hs ne
 | cons w ws =>
  rw [hs,run_cons] at ay
  have:stp (some (0,false)) w ≠ none:=fun z=>by rw [z,run_none] at ay; cases ay
  rw [run_cons,two_none this,run_none]
  intro z; cases z
theorem spg3_tail: ∀ (l cur:List Nat),58 ∉ l->spg [32,58,32] 0 cur (l ++ [32,58])=[cur.reverse ++ (l ++ [32,58])]
 | [],cur,_=>by simp [spg,List.isPrefixOf]
 | c :: l,cur,h=>by
  have hl:58 ∉ l:=fun z=>h (List.mem_cons_of_mem _ z)
  have hp:[32,58,32].isPrefixOf (c :: (l ++ [32,58]))=false:=by
   cases l with
   | nil=>simp [List.isPrefixOf]
   | cons d l =>
    have:d ≠ 58:=fun z=>hl (by rw [z]; exact List.mem_cons_self)
    have:(58 == d)=false:=by simpa using fun z:58=d=>this z.symm
    simp [List.isPrefixOf,this]
  rw [List.cons_append,spg,if_neg (by rw [hp]; exact Bool.false_ne_true),spg3_tail l _ hl]
  simp
theorem spl3_tail {x:Str} (h:58 ∉ x.cps.toList):spl (x ++ " :") " : "=[x ++ " :"]:=by
 unfold spl
 rw [colon3,cat_toList,show (" :":Str).cps.toList=[32,58] from by decide +kernel,spg3_tail _ _ h]
 show [mkS ([] ++ (x.cps.toList ++ [32,58]))]=_
 rw [List.nil_append]
 congr 1
 rw [<- mkS_toList (x ++ " :"),cat_toList]
 rfl
structure Good (x:Str):Prop where
 len:x.length<=400
 rd: ∃ s,rsay x=some s
 last: ∃ pre y:Str,x=pre ++ y/\Gw y/\ ∀ r:Str,spl r " : "=[r]->rdt r=none->rsay (pre ++ r)=none
 bl:32 ∈ x.cps.toList
theorem blank_in {a b:Str} (h:a.cps.toList.contains 32=true):32 ∈ (a ++ b).cps.toList:=by
 rw [cat_toList]
 exact List.mem_append_left _ (by simpa using h)
theorem goodN {o:Str} (O:Gw o):Good ("nowhere " ++ o):=by
 have l1:=O.len
 obtain ⟨t,ht⟩:=O.rd
 exact ⟨by rw [slen,zl2]; omega,⟨_,by rw [rsN,spl3_free O.n58]; exact rsy_sN ht⟩,⟨"nowhere ",o,rfl,O,fun r h1 h2=>by rw [rsN,h1]; exact rsy_N1 h2⟩,blank_in (by decide +kernel)⟩
theorem goodT {o d:Str} (O:Gw o) (D:Lw d):Good ("through " ++ d ++ " : " ++ o):=by
 have l1:=O.len
 have l2:=D.len
 obtain ⟨t,ht⟩:=O.rd
 refine ⟨by simp only [slen,zl4,zl5]; omega,⟨_,by simp only [cat_as]; rw [rsT,sp3 D.n58,spl3_free O.n58]; exact rsy_sT D ht⟩,⟨"through " ++ d ++ " : ",o,rfl,O,fun r h1 h2=>by simp only [cat_as]; rw [rsT,sp3 D.n58,h1]; exact rsy_T2 (.inr h2)⟩,?_⟩
 rw [cat_as,cat_as]
 exact blank_in (by decide +kernel)
theorem goodB {o d t:Str} (O:Gw o) (D:Lw d) (T:Gw t):Good ("behind " ++ d ++ " : " ++ o ++ " : " ++ t):=by
 have l1:=O.len
 have l2:=D.len
 have l3:=T.len
 obtain ⟨a,ha⟩:=O.rd
 obtain ⟨b,hb⟩:=T.rd
 refine ⟨by simp only [slen,zl6,zl5]; omega,⟨_,by simp only [cat_as]; rw [rsB,sp3 D.n58,sp3 O.n58,spl3_free T.n58]; exact rsy_sB D ha hb⟩,⟨"behind " ++ d ++ " : " ++ o ++ " : ",t,rfl,T,fun r h1 h2=>by simp only [cat_as]; rw [rsB,sp3 D.n58,sp3 O.n58,h1]; exact rsy_B3 (.inr (.inr h2))⟩,?_⟩
 simp only [cat_as]
 exact blank_in (by decide +kernel)
def ftl (x o:Str):List Str:=[x ++ " ",x ++ " " ++ o," " ++ x,x ++ " :"]
theorem ftl_bad {x o:Str} (G:Good x) (O:Gw o): ∀ y ∈ ftl x o,rsay y=none:=by
 obtain ⟨pre,w,rfl,W,hp⟩:=G.last
 obtain ⟨u,hu⟩:=O.rd
 obtain ⟨v,hv⟩:=W.rd
 intro y hy
 unfold ftl at hy
 simp only [List.mem_cons,List.not_mem_nil,or_false] at hy
 rcases hy with rfl | rfl | rfl | rfl
 ·rw [cat_as]
  refine hp _ (spl3_free ?_) (rdt_end w)
  rw [cat_toList,blank]
  intro z
  rcases List.mem_append.mp z with z | z
  ·exact W.n58 z
  ·revert z; decide
 ·rw [cat_as,cat_as]
  refine hp _ (spl3_free ?_) (rdt_two hv hu)
  rw [cat_toList,cat_toList,blank]
  intro z
  rcases List.mem_append.mp z with z | z
  ·exact W.n58 z
  ·rcases List.mem_append.mp z with z | z
   ·revert z; decide
   ·exact O.n58 z
 ·have e:(" ":Str) ++ (pre ++ w)="" ++ " " ++ (pre ++ w):=by rw [show ("":Str) ++ " "=" " from by decide +kernel]
  rw [e,rsay_sep (by decide +kernel)]
  exact rsy_h _ (by decide +kernel) (by decide +kernel) (by decide +kernel)
 ·rw [cat_as]
  exact hp _ (spl3_tail W.n58) (rdt_colon w)
theorem ftl_len {x o:Str} (G:Good x) (O:Gw o): ∀ y ∈ ftl x o,y.length<=1000:=by
 have l1:=G.len
 have l2:=O.len
 have c1:(" :":Str).length=2:=by decide +kernel
 intro y hy
 unfold ftl at hy
 simp only [List.mem_cons,List.not_mem_nil,or_false] at hy
 rcases hy with h | h | h | h <;> rw [h] <;> simp only [slen,zl12,c1] <;> omega
theorem cut_lo (x:Str) (k:Nat) (h:k<=x.length):(PySem.StrLaws.sliceText x none (some (k:Int))).cps.toList=x.cps.toList.take k:=by
 rw [PySem.StrLaws.sliceText_to ⟨by omega,by rw [slen_l]; omega⟩]
 simp
theorem cut_hi (x:Str) (k:Nat) (h:k<=x.length):(PySem.StrLaws.sliceText x (some (k:Int)) none).cps.toList=x.cps.toList.drop k:=by
 rw [PySem.StrLaws.sliceText_from ⟨by omega,by rw [slen_l]; omega⟩]
 rw [<- slen_l] at h
 simp only [Int.toNat_natCast]
 rw [List.take_of_length_le (by rw [List.length_drop]; omega)]
theorem twice_bad {x:Str} {k:Nat} (h:x.cps.toList[k]? =some 32):rsay (PySem.StrLaws.sliceText x none (some (k:Int)) ++ " " ++ PySem.StrLaws.sliceText x (some (k:Int)) none)=none:=by
 obtain ⟨hk,e⟩:=List.getElem?_eq_some_iff.mp h
 have hl:k<=x.length:=by rw [<- slen_l]; omega
 apply rsay_db
 rw [cat_toList,cat_toList,cut_lo x k hl,cut_hi x k hl,blank,List.append_assoc]
 rw [List.drop_eq_getElem_cons hk,e]
 exact db_two _ _
theorem twice_len {x:Str} {k:Nat} (hl:k<=x.length):(PySem.StrLaws.sliceText x none (some (k:Int))).length<=x.length/\(PySem.StrLaws.sliceText x (some (k:Int)) none).length<=x.length:=by
 rw [<- slen_l (PySem.StrLaws.sliceText x none (some (k:Int))), <- slen_l (PySem.StrLaws.sliceText x (some (k:Int)) none),cut_lo x k hl,cut_hi x k hl,List.length_take,List.length_drop,slen_l]
 omega
theorem cell_eq (n:Nat) (ns:List Int) (k:Nat):gF (n + 1) 4 [.lst (ns.map PV.int),.int (k:Int)]= .ok (.int (ns.getD k 0)):=by
 rw [g_z4,runD_of rfl]
 show fin (d_z4 (gF n) [.v (.lst (ns.map PV.int)),.v (.int (k:Int))])= .ok (.int (ns.getD k 0))
 unfold d_z4
 by_cases h:k < ns.length
 ·have hi:atI (ns.map PV.int) (k:Int)=some (PV.int ns[k]):=by
   rw [atI_nat (by rw [List.getElem?_map,List.getElem?_eq_getElem h]; rfl)]
  have hg:ns.getD k 0=ns[k]:=by simp [List.getD,h]
  rw [hg]
  simp [h,hi]
 ·have hg:ns.getD k 0=0:=by simp [List.getD,h]
  rw [hg]
  simp [h]
theorem mixed_ok (n:Nat) (a b:Int): ∃ m:Int,gF (n + 1) 5 [.int a,.int b]= .ok (.int m):=by
 rw [g_z5,runD_of rfl]
 show ∃ m:Int,fin (d_z5 (gF n) [.v (.int a),.v (.int b),.no])= .ok (.int m)
 unfold d_z5
 have h:0<=(a % 2147483647 + 7919 * b + 1) * 48271 % 2147483647/\(a % 2147483647 + 7919 * b + 1) * 48271 % 2147483647 < 2147483647:=⟨Int.emod_nonneg _ (by decide),Int.emod_lt_of_pos _ (by decide)⟩
 have h2:(-18446744073709551616:Int) < (a % 2147483647 + 7919 * b + 1) * 48271 % 2147483647/\(a % 2147483647 + 7919 * b + 1) * 48271 % 2147483647 < 18446744073709551616:=by omega
 simp [h2]
theorem fst_tup (x:PV) (l:List PV):fIx (.tup (x :: l)) (.int 0)= .ok x:=by
 rw [e_ixT,show (0:Int)=((0:Nat):Int) from rfl,atI_nat (v:=x) rfl]
theorem word_ok (n:Nat) (ns:List Int) (k:Nat) (kz j:Int) (hk:kz=(k:Int)): ∃ i:Nat,i < 112/\ ∀ (r:PSt),d2 fIx (dCall (gF (n + 1) 6) (dCons (dCall (gF (n + 1) 5) (dCons (dCall (gF (n + 1) 4) (dCons (dVar 0) (dCons (dC (.int kz)) dNil))) (dCons (dC (.int j)) dNil))) dNil)) (dC (.int 0)) (.v (.lst (ns.map PV.int)) :: r)= .ok (.str (w1 i)):=by
 have c:=cell_eq n ns k
 rw [<- hk] at c
 generalize ns.getD k 0=q at c
 obtain ⟨m,hm⟩:=mixed_ok n q j
 obtain ⟨i,l,hi,e⟩:=tw46 n m
 refine ⟨i,hi,fun r=> ?_⟩
 have a0:(dVar 0) (.v (.lst (ns.map PV.int)) :: r)= .ok (.lst (ns.map PV.int)):=rfl
 have f:=fst_tup (.str (w1 i)) l
 simp [a0,c,hm,e,f, -e_ixT]
theorem letter5 (z:Int): ∃ d:Str,Deed d/\fIx (.str "PQRST") (.int (z % 5))= .ok (.str d):=by
 have:z % 5=0\/z % 5=1\/z % 5=2\/z % 5=3\/z % 5=4:=by omega
 rcases this with h | h | h | h | h <;> rw [h]
 ·exact ⟨"P",.inl rfl,rfl⟩
 ·exact ⟨"Q",.inr (.inl rfl),rfl⟩
 ·exact ⟨"R",.inr (.inr (.inl rfl)),rfl⟩
 ·exact ⟨"S",.inr (.inr (.inr (.inl rfl))),rfl⟩
 ·exact ⟨"T",.inr (.inr (.inr (.inr rfl))),rfl⟩
def pls (x:Str):List Nat:=(List.range x.length).filter fun k=>x.cps.toList[k]? == some 32
theorem pls_mem {x:Str} {k:Nat} (h:k ∈ pls x):x.cps.toList[k]? =some 32:=by
 have:=(List.mem_filter.mp h).2
 simpa using this
theorem pls_ne {x:Str} (h:32 ∈ x.cps.toList):0 < (pls x).length:=by
 obtain ⟨k,hk,e⟩:=List.mem_iff_getElem.mp h
 have:k ∈ pls x:=List.mem_filter.mpr ⟨List.mem_range.mpr (by rw [<- slen_l]; exact hk),by rw [List.getElem?_eq_getElem hk,e]; rfl⟩
 exact List.length_pos_of_mem this
theorem one_eq (c:Nat):((⟨#[c]⟩:Str) == " ")=decide (c=32):=by
 by_cases h:c=32
 ·subst h; decide +kernel
 ·rw [decide_eq_false h]
  have:(⟨#[c]⟩:Str) ≠ " ":=fun z=>h (by
   have:=congrArg (fun y:Str=>y.cps.toList) z
   simp only [blank] at this
   simpa using this)
  simpa using this
theorem pls_ok {x:Str} (hx:x.length<=400) {L:PV} {o t d:Str} {z:Int} {b:Str} {s7 s8:Sl}:dComp ["_law_k"] [("_law_good",5)] (dRng1 (dCons (dCall bLen (dCons (dSee 5) dNil)) dNil)) (gSet 0) (dTr (d2 fEq (d2 fIx (dSee 1) (dSee 0)) (dC (.str " ")))) (dVar 0) [.v L,.v (.str o),.v (.str t),.v (.str d),.v (.int z),.v (.str x),.v (.str b),s7,s8]= .ok ((pls x).map fun (k:Nat)=>PV.int (k:Int)):=by
 have hb:bLen [.str x]= .ok (.int (x.length:Int)):=if_pos (by rw [sz]; omega)
 have hr:dRng1 (dCons (dCall bLen (dCons (dSee 5) dNil)) dNil) [.v L,.v (.str o),.v (.str t),.v (.str d),.v (.int z),.v (.str x),.v (.str b),s7,s8]= .ok ((List.range x.length).map fun (i:Nat)=>PV.int ((0:Int) + (i:Int))):=by
  unfold dRng1
  have:(dCons (dCall bLen (dCons (dSee 5) dNil)) dNil) [.v L,.v (.str o),.v (.str t),.v (.str d),.v (.int z),.v (.str x),.v (.str b),s7,s8]= .ok [.int (x.length:Int)]:=by
   show consR (bLen [.str x]) (.ok [])=_
   rw [hb]
   rfl
  rw [this,ok_bind]
  dsimp only
  rw [if_pos ⟨by omega,by omega⟩]
  rfl
 unfold dComp
 rw [hr,ok_bind,if_pos (by simp; rw [sz]; omega)]
 unfold pls
 refine comp_emb (fun (i:Nat)=>PV.int ((0:Int) + (i:Int))) (fun k=>x.cps.toList[k]? == some 32) (fun k=>PV.int (k:Int)) (List.range x.length) _ fun i hi=>⟨?_,fun _=> ?_⟩
 ·have hk:i < x.cps.toList.length:=by rw [slen_l]; exact List.mem_range.mp hi
  have e:fIx (.str x) (.int ((0:Int) + (i:Int)))= .ok (.str ⟨#[x.cps.toList[i]]⟩):=by
   rw [Int.zero_add]
   show (if x.length<=sizeLine then (match atI x.cps.toList (i:Int) with | some c=>Rx.ok (PV.str ⟨#[c]⟩) | none=> .bad) else .bad)=_
   rw [if_pos (by rw [sz]; omega),atI_nat (v:=x.cps.toList[i]) (List.getElem?_eq_getElem hk)]
  rw [e_Tr,e_2]
  show (bind2 (fIx (.str x) (.int ((0:Int) + (i:Int)))) (.ok (.str " ")) fEq).bind _=_
  rw [e]
  show Rx.ok ((⟨#[x.cps.toList[i]]⟩:Str) == " ")=_
  rw [one_eq,List.getElem?_eq_getElem hk]
  congr 1
 ·show Rx.ok (PV.int ((0:Int) + (i:Int)))=_
  rw [Int.zero_add]
theorem law_end (n:Nat) (hn:170<=n) (ns:List Int) {o t d x b:Str} {z:Int} {s7 s8:Sl} (G:Good x) (hb:rsay b=none) (hl:b.length<=1000) :
  fin ((sSeq (sIf (dNotT (dTr (dCall (gF n 7) (dCons (dVar 6) dNil))))
 (sRet (dC (.bl false)))
 sNext)
 (sRet (d2 fNe (dMeth q_text (gF n) (dCall (gF n 2) (dCons (dVar 5) dNil)) dNil) (dC (.str ""))))) [.v (.lst (ns.map PV.int)),.v (.str o),.v (.str t),.v (.str d),.v (.int z),.v (.str x),.v (.str b),s7,s8])= .ok (.bl true):=by
 obtain ⟨n,rfl⟩: ∃ k,n=k + 1:=⟨n - 1,by omega⟩
 obtain ⟨s,hs⟩:=G.rd
 have xl:=G.len
 have r:=refused46 b (by omega) n (by omega) hb
 have tx:=text_of (by omega) hs n (by omega) (e:=dVar 5) (ps:=[.v (.lst (ns.map PV.int)),.v (.str o),.v (.str t),.v (.str d),.v (.int z),.v (.str x),.v (.str b),s7,s8]) rfl
 have a1:(dCall (gF (n + 1) 7) (dCons (dVar 6) dNil)) [.v (.lst (ns.map PV.int)),.v (.str o),.v (.str t),.v (.str d),.v (.int z),.v (.str x),.v (.str b),s7,s8]= .ok (.bl true):=r
 have a2:(sIf (dNotT (dTr (dCall (gF (n + 1) 7) (dCons (dVar 6) dNil)))) (sRet (dC (.bl false))) sNext) [.v (.lst (ns.map PV.int)),.v (.str o),.v (.str t),.v (.str d),.v (.int z),.v (.str x),.v (.str b),s7,s8]= .nx [.v (.lst (ns.map PV.int)),.v (.str o),.v (.str t),.v (.str d),.v (.int z),.v (.str x),.v (.str b),s7,s8]:=by
  rw [e_if,e_notT,e_Tr,a1]
  rfl
 rw [e_seq,a2,next_nx,e_ret,e_2,tx]
 show fin (Rx.st (.ok (PV.bl (!(s.txt == "")))) _)=_
 rw [txt_ne]
 rfl
theorem law_bad (n:Nat) (hn:171<=n) (ns:List Int) {o t d x:Str} (z:Int) (O:Gw o) (T:Gw t) (D:Lw d) (G:Good x) :
  fin ((sSeq (sExpr (dLift (dCall (gF n 2) (dCons (dVar 5) dNil))))
 (sSeq (sSet 6 (dCall (gF n 8) (dCons (dVar 1) (dCons (dVar 3) (dCons (dVar 2) (dCons (d2 fDiv (dSee 4) (dC (.int 3))) dNil))))))
 (sSeq (sIf (dTr (d2 fEq (d2 fMod (dSee 4) (dC (.int 3))) (dC (.int 1))))
 (sSeq (sSet 7 (dOfN (dComp ["_law_k"] [("_law_good",5)] (dRng1 (dCons (dCall bLen (dCons (dSee 5) dNil)) dNil)) (gSet 0) (dTr (d2 fEq (d2 fIx (dSee 1) (dSee 0)) (dC (.str " ")))) (dVar 0))))
 (sSeq (sSet 8 (d2 fIx (dSee 7) (d2 fMod (d2 fDiv (dSee 4) (dC (.int 72))) (dCall bLen (dCons (dSee 7) dNil)))))
 (sSet 6 (d2 fCatS (d2 fCatS (dCutS (dVar 5) dO0 (dO1 (dVar 8))) (dC (.str " "))) (dCutS (dVar 5) (dO1 (dVar 8)) dO0)))))
 sNext)
 (sSeq (sIf (dTr (d2 fEq (d2 fMod (dSee 4) (dC (.int 3))) (dC (.int 2))))
 (sSet 6 (d2 fIx (dOfN (dCons (d2 fCatS (dSee 5) (dC (.str " "))) (dCons (d2 fCatS (d2 fCatS (dSee 5) (dC (.str " "))) (dSee 1)) (dCons (d2 fCatS (dC (.str " ")) (dSee 5)) (dCons (d2 fCatS (dSee 5) (dC (.str " :"))) dNil))))) (d2 fMod (d2 fDiv (dSee 4) (dC (.int 3))) (dC (.int 4)))))
 sNext)
 (sSeq (sIf (dNotT (dTr (dCall (gF n 7) (dCons (dVar 6) dNil))))
 (sRet (dC (.bl false)))
 sNext)
 (sRet (d2 fNe (dMeth q_text (gF n) (dCall (gF n 2) (dCons (dVar 5) dNil)) dNil) (dC (.str ""))))))))) [.v (.lst (ns.map PV.int)),.v (.str o),.v (.str t),.v (.str d),.v (.int z),.v (.str x),.no,.no,.no])= .ok (.bl true):=by
 obtain ⟨n,rfl⟩: ∃ k,n=k + 1:=⟨n - 1,by omega⟩
 obtain ⟨s,hs⟩:=G.rd
 have xl:=G.len
 have rd:=read_some (by omega) hs n (by omega)
 have s1:sExpr (dLift (dCall (gF (n + 1) 2) (dCons (dVar 5) dNil))) [.v (.lst (ns.map PV.int)),.v (.str o),.v (.str t),.v (.str d),.v (.int z),.v (.str x),.no,.no,.no]= .nx [.v (.lst (ns.map PV.int)),.v (.str o),.v (.str t),.v (.str d),.v (.int z),.v (.str x),.no,.no,.no]:=by
  have:(dCall (gF (n + 1) 2) (dCons (dVar 5) dNil)) [.v (.lst (ns.map PV.int)),.v (.str o),.v (.str t),.v (.str d),.v (.int z),.v (.str x),.no,.no,.no]= .ok s.pv:=rd
  simp [this, -e_call]
 obtain ⟨b0,hb0,eb0⟩:=some_ok n O D T (z / 3)
 have s2:sSet 6 (dCall (gF (n + 1) 8) (dCons (dVar 1) (dCons (dVar 3) (dCons (dVar 2) (dCons (d2 fDiv (dSee 4) (dC (.int 3))) dNil))))) [.v (.lst (ns.map PV.int)),.v (.str o),.v (.str t),.v (.str d),.v (.int z),.v (.str x),.no,.no,.no]= .nx [.v (.lst (ns.map PV.int)),.v (.str o),.v (.str t),.v (.str d),.v (.int z),.v (.str x),.v (.str b0),.no,.no]:=by
  have:(dCall (gF (n + 1) 8) (dCons (dVar 1) (dCons (dVar 3) (dCons (dVar 2) (dCons (d2 fDiv (dSee 4) (dC (.int 3))) dNil))))) [.v (.lst (ns.map PV.int)),.v (.str o),.v (.str t),.v (.str d),.v (.int z),.v (.str x),.no,.no,.no]= .ok (.str b0):=eb0
  rw [e_set,this]
  rfl
 rw [e_seq,s1,next_nx,e_seq,s2,next_nx,e_seq]
 have t1: ∀ (b:Str) (u v:Sl) (j:Int),(dTr (d2 fEq (d2 fMod (dSee 4) (dC (.int 3))) (dC (.int j)))) [.v (.lst (ns.map PV.int)),.v (.str o),.v (.str t),.v (.str d),.v (.int z),.v (.str x),.v (.str b),u,v]= .ok (z % 3 == j):=fun _ _ _ _=>rfl
 have ifN: ∀ (b:Str) (u v:Sl) (j:Int) (A:DS), ¬ z % 3=j->(sIf (dTr (d2 fEq (d2 fMod (dSee 4) (dC (.int 3))) (dC (.int j)))) A sNext) [.v (.lst (ns.map PV.int)),.v (.str o),.v (.str t),.v (.str d),.v (.int z),.v (.str x),.v (.str b),u,v]= .nx [.v (.lst (ns.map PV.int)),.v (.str o),.v (.str t),.v (.str d),.v (.int z),.v (.str x),.v (.str b),u,v]:=fun b u v j A q=>by
  rw [e_if,t1,show (z % 3 == j)=false from by simpa using q]
  rfl
 have ifY: ∀ (b:Str) (u v:Sl) (j:Int) (A:DS),z % 3=j->(sIf (dTr (d2 fEq (d2 fMod (dSee 4) (dC (.int 3))) (dC (.int j)))) A sNext) [.v (.lst (ns.map PV.int)),.v (.str o),.v (.str t),.v (.str d),.v (.int z),.v (.str x),.v (.str b),u,v]=A [.v (.lst (ns.map PV.int)),.v (.str o),.v (.str t),.v (.str d),.v (.int z),.v (.str x),.v (.str b),u,v]:=fun b u v j A q=>by
  rw [e_if,t1,show (z % 3 == j)=true from by simpa using q]
  rfl
 by_cases h1:z % 3=1
 ·rw [ifY _ _ _ _ _ h1]
  have hp:=pls_ok xl (L:= .lst (ns.map PV.int)) (o:=o) (t:=t) (d:=d) (z:=z) (b:=b0) (s7:= .no) (s8:= .no)
  have hn0:=pls_ne G.bl
  have m1:0<=z / 72 % ((pls x).length:Int):=Int.emod_nonneg _ (by omega)
  have m2:z / 72 % ((pls x).length:Int) < ((pls x).length:Int):=Int.emod_lt_of_pos _ (by omega)
  obtain ⟨j,hj⟩: ∃ j:Nat,z / 72 % ((pls x).length:Int)=j:=⟨(z / 72 % ((pls x).length:Int)).toNat,by omega⟩
  have hjl:j < (pls x).length:=by omega
  have hk:=pls_mem (List.getElem_mem hjl)
  generalize hkk:(pls x)[j]=k at hk
  have hkl:k<=x.length:=by
   have:=(List.getElem?_eq_some_iff.mp hk).1
   rw [slen_l] at this
   omega
  have c1:sSet 7 (dOfN (dComp ["_law_k"] [("_law_good",5)] (dRng1 (dCons (dCall bLen (dCons (dSee 5) dNil)) dNil)) (gSet 0) (dTr (d2 fEq (d2 fIx (dSee 1) (dSee 0)) (dC (.str " ")))) (dVar 0))) [.v (.lst (ns.map PV.int)),.v (.str o),.v (.str t),.v (.str d),.v (.int z),.v (.str x),.v (.str b0),.no,.no]= .nx [.v (.lst (ns.map PV.int)),.v (.str o),.v (.str t),.v (.str d),.v (.int z),.v (.str x),.v (.str b0),.v (.lst ((pls x).map fun (k:Nat)=>PV.int (k:Int))),.no]:=by
   rw [e_set,e_ofN,hp]
   rfl
  have c2:sSet 8 (d2 fIx (dSee 7) (d2 fMod (d2 fDiv (dSee 4) (dC (.int 72))) (dCall bLen (dCons (dSee 7) dNil)))) [.v (.lst (ns.map PV.int)),.v (.str o),.v (.str t),.v (.str d),.v (.int z),.v (.str x),.v (.str b0),.v (.lst ((pls x).map fun (k:Nat)=>PV.int (k:Int))),.no]= .nx [.v (.lst (ns.map PV.int)),.v (.str o),.v (.str t),.v (.str d),.v (.int z),.v (.str x),.v (.str b0),.v (.lst ((pls x).map fun (k:Nat)=>PV.int (k:Int))),.v (.int (k:Int))]:=by
   have e1:fIx (.lst ((pls x).map fun (k:Nat)=>PV.int (k:Int))) (.int (j:Int))= .ok (.int (k:Int)):=by
    rw [e_ixL,atI_nat (v:=PV.int (k:Int)) (by rw [List.getElem?_map,List.getElem?_eq_getElem hjl,hkk]; rfl)]
   have nz:(0:Int) < ((pls x).length:Int):=by omega
   have e2:fMod (.int (z / 72)) (.int ((pls x).length:Int))= .ok (.int (j:Int)):=by
    rw [<- hj]
    show (if (0:Int) < ((pls x).length:Int) then Rx.ok (PV.int (z / 72 % ((pls x).length:Int))) else .bad)=_
    rw [if_pos nz]
   have e3:(d2 fIx (dSee 7) (d2 fMod (d2 fDiv (dSee 4) (dC (.int 72))) (dCall bLen (dCons (dSee 7) dNil)))) [.v (.lst (ns.map PV.int)),.v (.str o),.v (.str t),.v (.str d),.v (.int z),.v (.str x),.v (.str b0),.v (.lst ((pls x).map fun (k:Nat)=>PV.int (k:Int))),.no]=bind2 (.ok (.lst ((pls x).map fun (k:Nat)=>PV.int (k:Int)))) (fMod (.int (z / 72)) (.int (((pls x).map fun (k:Nat)=>PV.int (k:Int)).length:Int))) fIx:=rfl
   rw [e_set,e3,List.length_map,e2]
   show (fIx (.lst ((pls x).map fun (k:Nat)=>PV.int (k:Int))) (.int (j:Int))).st _=_
   rw [e1]
   rfl
  obtain ⟨l1,l2⟩:=twice_len hkl
  have d1: ∀ u:Sl,Dt (dCutS (dVar 5) dO0 (dO1 (dVar 8))) [.v (.lst (ns.map PV.int)),.v (.str o),.v (.str t),.v (.str d),.v (.int z),.v (.str x),.v (.str b0),u,.v (.int (k:Int))] (PySem.StrLaws.sliceText x none (some (k:Int))) 400:=fun u=>⟨if_pos (by rw [sz]; omega),by omega⟩
  have d2': ∀ u:Sl,Dt (dCutS (dVar 5) (dO1 (dVar 8)) dO0) [.v (.lst (ns.map PV.int)),.v (.str o),.v (.str t),.v (.str d),.v (.int z),.v (.str x),.v (.str b0),u,.v (.int (k:Int))] (PySem.StrLaws.sliceText x (some (k:Int)) none) 400:=fun u=>⟨if_pos (by rw [sz]; omega),by omega⟩
  have d3:=fun u=>dt_cat (dt_cat (d1 u) (dt_c " " (by decide +kernel)) (by decide)) (d2' u) (by decide)
  rw [e_seq,c1,next_nx,e_seq,c2,next_nx,set_dt (d3 _)]
  show fin (Rs.next (.nx [.v (.lst (ns.map PV.int)),.v (.str o),.v (.str t),.v (.str d),.v (.int z),.v (.str x),.v (.str (PySem.StrLaws.sliceText x none (some (k:Int)) ++ " " ++ PySem.StrLaws.sliceText x (some (k:Int)) none)),.v (.lst ((pls x).map fun (k:Nat)=>PV.int (k:Int))),.v (.int (k:Int))]) _)=_
  rw [next_nx,e_seq,ifN _ _ _ _ _ (by omega),next_nx]
  exact law_end (n + 1) (by omega) ns G (twice_bad hk) (by have:=(d3 .no).len; omega)
 ·rw [ifN _ _ _ _ _ h1,next_nx,e_seq]
  by_cases h2:z % 3=2
  ·rw [ifY _ _ _ _ _ h2]
   have ol:=O.len
   obtain ⟨y,hy,iy⟩:=atI_mem (l:=ftl x o) (i:=z / 3 % 4) (by omega) (by show z / 3 % 4 < 4; omega)
   have Dx:Dt (dSee 5) [.v (.lst (ns.map PV.int)),.v (.str o),.v (.str t),.v (.str d),.v (.int z),.v (.str x),.v (.str b0),.no,.no] x 400:=⟨rfl,xl⟩
   have Do:Dt (dSee 1) [.v (.lst (ns.map PV.int)),.v (.str o),.v (.str t),.v (.str d),.v (.int z),.v (.str x),.v (.str b0),.no,.no] o 100:=⟨rfl,ol⟩
   have ts:Dts (dCons (d2 fCatS (dSee 5) (dC (.str " "))) (dCons (d2 fCatS (d2 fCatS (dSee 5) (dC (.str " "))) (dSee 1)) (dCons (d2 fCatS (dC (.str " ")) (dSee 5)) (dCons (d2 fCatS (dSee 5) (dC (.str " :"))) dNil)))) [.v (.lst (ns.map PV.int)),.v (.str o),.v (.str t),.v (.str d),.v (.int z),.v (.str x),.v (.str b0),.no,.no] (ftl x o):=by
    unfold ftl
    repeat' first | exact Dts.nil | apply Dts.cons | exact Dx | exact Do | apply dt_cat | exact dt_c _ (by decide +kernel) | decide
   have c1:sSet 6 (d2 fIx (dOfN (dCons (d2 fCatS (dSee 5) (dC (.str " "))) (dCons (d2 fCatS (d2 fCatS (dSee 5) (dC (.str " "))) (dSee 1)) (dCons (d2 fCatS (dC (.str " ")) (dSee 5)) (dCons (d2 fCatS (dSee 5) (dC (.str " :"))) dNil))))) (d2 fMod (d2 fDiv (dSee 4) (dC (.int 3))) (dC (.int 4)))) [.v (.lst (ns.map PV.int)),.v (.str o),.v (.str t),.v (.str d),.v (.int z),.v (.str x),.v (.str b0),.no,.no]= .nx [.v (.lst (ns.map PV.int)),.v (.str o),.v (.str t),.v (.str d),.v (.int z),.v (.str x),.v (.str y),.no,.no]:=by
    rw [e_set,e_2,e_ofN,dts_eq ts]
    show (fIx (.lst ((ftl x o).map .str)) (.int (z / 3 % 4))).st _=_
    rw [iy]
    rfl
   rw [c1,next_nx]
   exact law_end (n + 1) (by omega) ns G (ftl_bad G O y hy) (ftl_len G O y hy)
  ·rw [ifN _ _ _ _ _ h2,next_nx]
   exact law_end (n + 1) (by omega) ns G (sml_bad O D T b0 hb0) (sml_len O D T b0 hb0)
theorem law_ok (n:Nat) (hn:172<=n) (ns:List Int):gF (n + 1) 10 [.lst (ns.map PV.int)]= .ok (.bl true):=by
 have e:gF (n + 1) 10 [.lst (ns.map PV.int)]=fin (d_za (gF n) [.v (.lst (ns.map PV.int)),.no,.no,.no,.no,.no,.no,.no,.no]):=rfl
 rw [e]
 obtain ⟨n,rfl⟩: ∃ k,n=k + 1:=⟨n - 1,by omega⟩
 unfold d_za
 obtain ⟨i1,hi1,e1⟩:=word_ok n ns 0 0 1 rfl
 obtain ⟨i2,hi2,e2⟩:=word_ok n ns 1 1 2 rfl
 have c2:=cell_eq n ns 2
 have c3:=cell_eq n ns 3
 generalize ns.getD 2 0=z2 at c2
 generalize ns.getD 3 0=z at c3
 obtain ⟨d,dd,ed⟩:=letter5 z2
 have O:=gw hi1
 have T:=gw hi2
 have D:=lw dd
 generalize w1 i1=o at e1 O
 generalize w1 i2=t at e2 T
 have s1: ∀ E:DP,E [.v (.lst (ns.map PV.int)),.no,.no,.no,.no,.no,.no,.no,.no]= .ok (.str o)->sSet 1 E [.v (.lst (ns.map PV.int)),.no,.no,.no,.no,.no,.no,.no,.no]= .nx [.v (.lst (ns.map PV.int)),.v (.str o),.no,.no,.no,.no,.no,.no,.no]:=fun E q=>by rw [e_set,q]; rfl
 have s2: ∀ E:DP,E [.v (.lst (ns.map PV.int)),.v (.str o),.no,.no,.no,.no,.no,.no,.no]= .ok (.str t)->sSet 2 E [.v (.lst (ns.map PV.int)),.v (.str o),.no,.no,.no,.no,.no,.no,.no]= .nx [.v (.lst (ns.map PV.int)),.v (.str o),.v (.str t),.no,.no,.no,.no,.no,.no]:=fun E q=>by rw [e_set,q]; rfl
 have s3:sSet 3 (d2 fIx (dC (.str "PQRST")) (d2 fMod (dCall (gF (n + 1) 4) (dCons (dVar 0) (dCons (dC (.int 2)) dNil))) (dC (.int 5)))) [.v (.lst (ns.map PV.int)),.v (.str o),.v (.str t),.no,.no,.no,.no,.no,.no]= .nx [.v (.lst (ns.map PV.int)),.v (.str o),.v (.str t),.v (.str d),.no,.no,.no,.no,.no]:=by
  have q:(d2 fIx (dC (.str "PQRST")) (d2 fMod (dCall (gF (n + 1) 4) (dCons (dVar 0) (dCons (dC (.int 2)) dNil))) (dC (.int 5)))) [.v (.lst (ns.map PV.int)),.v (.str o),.v (.str t),.no,.no,.no,.no,.no,.no]= .ok (.str d):=by
   have a:(dCall (gF (n + 1) 4) (dCons (dVar 0) (dCons (dC (.int 2)) dNil))) [.v (.lst (ns.map PV.int)),.v (.str o),.v (.str t),.no,.no,.no,.no,.no,.no]= .ok (.int z2):=c2
   rw [e_2,e_2,a]
   exact ed
  rw [e_set,q]
  rfl
 have s4:sSet 4 (dCall (gF (n + 1) 4) (dCons (dVar 0) (dCons (dC (.int 3)) dNil))) [.v (.lst (ns.map PV.int)),.v (.str o),.v (.str t),.v (.str d),.no,.no,.no,.no,.no]= .nx [.v (.lst (ns.map PV.int)),.v (.str o),.v (.str t),.v (.str d),.v (.int z),.no,.no,.no,.no]:=by
  have a:(dCall (gF (n + 1) 4) (dCons (dVar 0) (dCons (dC (.int 3)) dNil))) [.v (.lst (ns.map PV.int)),.v (.str o),.v (.str t),.v (.str d),.no,.no,.no,.no,.no]= .ok (.int z):=c3
  rw [e_set,a]
  rfl
 rw [e_seq,s1 _ (e1 _),next_nx,e_seq,s2 _ (e2 _),next_nx,e_seq,s3,next_nx,e_seq,s4,next_nx]
 have Do: ∀ b:Sl,Dt (dSee 1) [.v (.lst (ns.map PV.int)),.v (.str o),.v (.str t),.v (.str d),.v (.int z),b,.no,.no,.no] o 100:=fun _=>⟨rfl,O.len⟩
 have Dt': ∀ b:Sl,Dt (dSee 2) [.v (.lst (ns.map PV.int)),.v (.str o),.v (.str t),.v (.str d),.v (.int z),b,.no,.no,.no] t 100:=fun _=>⟨rfl,T.len⟩
 have Dd: ∀ b:Sl,Dt (dSee 3) [.v (.lst (ns.map PV.int)),.v (.str o),.v (.str t),.v (.str d),.v (.int z),b,.no,.no,.no] d 1:=fun _=>⟨rfl,D.len⟩
 have kC: ∀ (b:Sl) (x:Str),slit x=true->Dt (dC (.str x)) [.v (.lst (ns.map PV.int)),.v (.str o),.v (.str t),.v (.str d),.v (.int z),b,.no,.no,.no] x 20:=fun b x h=>dt_c x h
 have g1:=fun b=>dt_cat (dt_cat (dt_cat (dt_cat (dt_cat (kC b "behind " (by decide +kernel)) (Dd b) (by decide)) (kC b " : " (by decide +kernel)) (by decide)) (Do b) (by decide)) (kC b " : " (by decide +kernel)) (by decide)) (Dt' b) (by decide)
 have g2:=fun b=>dt_cat (dt_cat (dt_cat (kC b "through " (by decide +kernel)) (Dd b) (by decide)) (kC b " : " (by decide +kernel)) (by decide)) (Do b) (by decide)
 have g3:=fun b=>dt_cat (kC b "nowhere " (by decide +kernel)) (Do b) (by decide)
 have st5: ∀ {E:DP} {x:Str} {k:Nat} {b:Sl},Dt E [.v (.lst (ns.map PV.int)),.v (.str o),.v (.str t),.v (.str d),.v (.int z),b,.no,.no,.no] x k->sSet 5 E [.v (.lst (ns.map PV.int)),.v (.str o),.v (.str t),.v (.str d),.v (.int z),b,.no,.no,.no]= .nx [.v (.lst (ns.map PV.int)),.v (.str o),.v (.str t),.v (.str d),.v (.int z),.v (.str x),.no,.no,.no]:=fun h=>set_dt h
 have t1: ∀ (b:Sl) (j:Int),(dTr (d2 fEq (d2 fMod (d2 fDiv (dSee 4) (dC (.int 24))) (dC (.int 3))) (dC (.int j)))) [.v (.lst (ns.map PV.int)),.v (.str o),.v (.str t),.v (.str d),.v (.int z),b,.no,.no,.no]= .ok (z / 24 % 3 == j):=fun _ _=>rfl
 have ifN: ∀ (b:Sl) (j:Int) (A:DS), ¬ z / 24 % 3=j->(sIf (dTr (d2 fEq (d2 fMod (d2 fDiv (dSee 4) (dC (.int 24))) (dC (.int 3))) (dC (.int j)))) A sNext) [.v (.lst (ns.map PV.int)),.v (.str o),.v (.str t),.v (.str d),.v (.int z),b,.no,.no,.no]= .nx [.v (.lst (ns.map PV.int)),.v (.str o),.v (.str t),.v (.str d),.v (.int z),b,.no,.no,.no]:=fun b j A q=>by
  rw [e_if,t1,show (z / 24 % 3 == j)=false from by simpa using q]
  rfl
 have ifY: ∀ (b:Sl) (j:Int) (A:DS),z / 24 % 3=j->(sIf (dTr (d2 fEq (d2 fMod (d2 fDiv (dSee 4) (dC (.int 24))) (dC (.int 3))) (dC (.int j)))) A sNext) [.v (.lst (ns.map PV.int)),.v (.str o),.v (.str t),.v (.str d),.v (.int z),b,.no,.no,.no]=A [.v (.lst (ns.map PV.int)),.v (.str o),.v (.str t),.v (.str d),.v (.int z),b,.no,.no,.no]:=fun b j A q=>by
  rw [e_if,t1,show (z / 24 % 3 == j)=true from by simpa using q]
  rfl
 have rest: ∀ x,Good x->fin ((sSeq (sIf (dTr (d2 fGt (d2 fMod (dSee 4) (dC (.int 24))) (dC (.int 20)))) (sRet (dCall (gF (n + 1) 9) (dCons (dVar 3) (dCons (d2 fDiv (dSee 4) (dC (.int 24))) dNil)))) sNext) _) [.v (.lst (ns.map PV.int)),.v (.str o),.v (.str t),.v (.str d),.v (.int z),.v (.str x),.no,.no,.no])= .ok (.bl true):=fun x G=>by
  have lg:=long_ok n (by omega) D (z / 24)
  have t2:(dTr (d2 fGt (d2 fMod (dSee 4) (dC (.int 24))) (dC (.int 20)))) [.v (.lst (ns.map PV.int)),.v (.str o),.v (.str t),.v (.str d),.v (.int z),.v (.str x),.no,.no,.no]= .ok (decide ((20:Int) < z % 24)):=rfl
  rw [e_seq,e_if,t2]
  by_cases h:(20:Int) < z % 24
  ·rw [decide_eq_true h]
   show fin ((sRet (dCall (gF (n + 1) 9) (dCons (dVar 3) (dCons (d2 fDiv (dSee 4) (dC (.int 24))) dNil))) [.v (.lst (ns.map PV.int)),.v (.str o),.v (.str t),.v (.str d),.v (.int z),.v (.str x),.no,.no,.no]).next _)=_
   have q:(dCall (gF (n + 1) 9) (dCons (dVar 3) (dCons (d2 fDiv (dSee 4) (dC (.int 24))) dNil))) [.v (.lst (ns.map PV.int)),.v (.str o),.v (.str t),.v (.str d),.v (.int z),.v (.str x),.no,.no,.no]= .ok (.bl true):=lg
   rw [e_ret,q]
   rfl
  ·rw [decide_eq_false h]
   show fin ((Rs.nx [.v (.lst (ns.map PV.int)),.v (.str o),.v (.str t),.v (.str d),.v (.int z),.v (.str x),.no,.no,.no]).next _)=_
   rw [next_nx]
   exact law_bad (n + 1) (by omega) ns z O T D G
 rw [e_seq,st5 (g1 _),next_nx,e_seq]
 by_cases h1:z / 24 % 3=1
 ·rw [ifY _ _ _ h1,st5 (g2 _),next_nx,e_seq,ifN _ _ _ (by omega),next_nx]
  exact rest _ (goodT O D)
 ·rw [ifN _ _ _ h1,next_nx,e_seq]
  by_cases h2:z / 24 % 3=2
  ·rw [ifY _ _ _ h2,st5 (g3 _),next_nx]
   exact rest _ (goodN O)
  ·rw [ifN _ _ _ h2,next_nx]
   exact rest _ (goodB O D T)
theorem main: ∀ ns:List Int,ns.length<=63->gF 180 10 [.lst (ns.map PV.int)]= .ok (.bl true):=fun ns _=>law_ok 179 (by decide) ns
def cOf (C0 C1 C2 C3 C4 C5 C6 C7 C8 C9 C10 C11 C12 X0 X1 X2 X3 X4 X5 X6 X7:Addr):Nat->Addr
 | 0=>C0
 | 1=>C1
 | 2=>C2
 | 3=>C3
 | 4=>C4
 | 5=>C5
 | 6=>C6
 | 7=>C7
 | 8=>C8
 | 9=>C9
 | 10=>C10
 | 11=>C11
 | 12=>C12
 | 1000=>X0
 | 1001=>X1
 | 1002=>X2
 | 1003=>X3
 | 1004=>X4
 | 1005=>X5
 | 1006=>X6
 | 1007=>X7
 | _=>0
abbrev si_zA:Stmt:=inClass (top 16) 0
abbrev si_zB:Stmt:=inClass (top 17) 0
abbrev si_zC:Stmt:=inClass (top 18) 0
abbrev si_zD:Stmt:=inClass (top 19) 0
abbrev si_zF:Stmt:=inClass (top 22) 0
abbrev si_zG:Stmt:=inClass (top 23) 0
abbrev si_zH:Stmt:=inClass (top 24) 0
theorem all_mk {l:PySem.W.OpenLaw} {w:World} {K:Fg} {mg:Str->Option Value} {fa:Addr} {h:Heap} {ts:List Addr} {nDEEDS:Nat} {slDEEDS:Array (Option Value)} {nLETTERS:Nat} {slLETTERS:Array (Option Value)} {C0 C1 C2 C3 C4 C5 C6 C7 C8 C9 C10 C11 C12 X0 X1 X2 X3 X4 X5 X6 X7 i3 i4 i5 i6 i8 i9 i10 i12 d0 d1 d2 d3 d4 d5 d6 d7 d8 d9 d10 d11 d12 d13 d14 d15 d16 d17 d18 d19 d20 d21 d22 d23 d24 d25 d26 d27 d28 d29 d30 d31 tDEEDS tLETTERS:Addr} {kDEEDS0 kDEEDS1 kDEEDS2 kDEEDS3 kDEEDS4 kLETTERS0 kLETTERS1 kLETTERS2 kLETTERS3 kMOST_WORDS:Tok} (X:K.In h) (G:h.Ns mainGlobals mg) (hfa:mg "law"=some (.ref fa))
  (xa0:.(ns X0 "MeaningError"))
  (xa1:.(ns X1 "NoTest"))
  (xb1:PySem.W.excIn K X1 L2.vE "ValueError.__new__"=true)
  (xa2:.(ns X2 "NoProgram"))
  (xa3:.(ns X3 "NoWorld"))
  (xa4:.(ns X4 "NoSaying"))
  (xb4:PySem.W.excIn K X4 L2.vE "ValueError.__new__"=true)
  (xa5:.(ns X5 "NoName"))
  (xa6:.(ns X6 "NoRow"))
  (xa7:.(ns X7 "TooMuch"))
  (xk0_1:PySem.W.exmOne K (.ref X1) (.ref X0)=some true)
  (xk0_4:PySem.W.exmOne K (.ref X4) (.ref X0)=some true)
  (xq1:XcK K X1)
  (xq4:XcK K X4)
  (xiNoSaying_1:PySem.W.kitOne K (.ref X1) (.ref X4)=some false)
  (xiNoSaying_4:PySem.W.kitOne K (.ref X4) (.ref X4)=some true)
  (xiValueError_1:PySem.W.kitOne K (.ref X1) (.type "ValueError")=some true)
  (xiValueError_4:PySem.W.kitOne K (.ref X4) (.type "ValueError")=some true)
  (xtNoNNoPNoRNoTNoWToo_1:PySem.W.kitAny K (.ref X1) [.ref X5,.ref X2,.ref X6,.ref X1,.ref X3,.ref X7]=some true)
  (xtNoNNoPNoRNoTNoWToo_4:PySem.W.kitAny K (.ref X4) [.ref X5,.ref X2,.ref X6,.ref X1,.ref X3,.ref X7]=some false)
  (a0:.(ns C0 "Test"))
  (a1:.(ns C1 "Yes"))
  (a2:.(ns C2 "No"))
  (a3:.(ns C3 "Named"))
  (a4:.(ns C4 "Not"))
  (a5:.(ns C5 "Both"))
  (a6:.(ns C6 "Either"))
  (a7:.(ns C7 "Saying"))
  (a8:.(ns C8 "Nowhere"))
  (a9:.(ns C9 "Behind"))
  (a10:.(ns C10 "Through"))
  (a11:.(ns C11 "WordReader"))
  (a12:.(ns C12 "SignReader"))
  (c0:ClsF K C0)
  (c1:ClsF K C1)
  (c2:ClsF K C2)
  (c3:ClsF K C3)
  (c4:ClsF K C4)
  (c5:ClsF K C5)
  (c6:ClsF K C6)
  (c7:ClsF K C7)
  (c8:ClsF K C8)
  (c9:ClsF K C9)
  (c10:ClsF K C10)
  (c11:ClsF K C11)
  (c12:ClsF K C12)
  (o1:PySem.W.findIn K (.ref C1) "__init__"=some (some (.builtin "object.__init__")))
  (o2:PySem.W.findIn K (.ref C2) "__init__"=some (some (.builtin "object.__init__")))
  (e3:.(fi C3 "__init__" i3))
  (f3:.(fx i3))
  (I3:FnF K i3 "__init__" "Named.__init__" si_zA)
  (n3_0:.(fo C3 "name"))
  (e4:.(fi C4 "__init__" i4))
  (f4:.(fx i4))
  (I4:FnF K i4 "__init__" "Not.__init__" si_zB)
  (n4_0:.(fo C4 "inner"))
  (e5:.(fi C5 "__init__" i5))
  (f5:.(fx i5))
  (I5:FnF K i5 "__init__" "Both.__init__" si_zC)
  (n5_0:.(fo C5 "left"))
  (n5_1:.(fo C5 "right"))
  (e6:.(fi C6 "__init__" i6))
  (f6:.(fx i6))
  (I6:FnF K i6 "__init__" "Either.__init__" si_zD)
  (n6_0:.(fo C6 "left"))
  (n6_1:.(fo C6 "right"))
  (e8:.(fi C8 "__init__" i8))
  (f8:.(fx i8))
  (I8:FnF K i8 "__init__" "Nowhere.__init__" si_zF)
  (n8_0:.(fo C8 "test"))
  (e9:.(fi C9 "__init__" i9))
  (f9:.(fx i9))
  (I9:FnF K i9 "__init__" "Behind.__init__" si_zG)
  (n9_0:.(fo C9 "before"))
  (n9_1:.(fo C9 "deed"))
  (n9_2:.(fo C9 "after"))
  (e10:.(fi C10 "__init__" i10))
  (f10:.(fx i10))
  (I10:FnF K i10 "__init__" "Through.__init__" si_zH)
  (n10_0:.(fo C10 "test"))
  (n10_1:.(fo C10 "deed"))
  (n11_0:.(fo C11 "words"))
  (n11_1:.(fo C11 "place"))
  (e12:.(fi C12 "__init__" i12))
  (f12:.(fx i12))
  (I12:FnF K i12 "__init__" "WordReader.__init__" s_zw)
  (n12_0:.(fo C12 "words"))
  (n12_1:.(fo C12 "place"))
  (b0:.(ns d0 "in_brackets"))
  (D0:FnF K d0 "in_brackets" "in_brackets" s_z0)
  (b1:.(ns d1 "read_test"))
  (D1:FnF K d1 "read_test" "read_test" s_z1)
  (b2:.(ns d2 "read_saying"))
  (D2:FnF K d2 "read_saying" "read_saying" s_z2)
  (b3:.(ns d3 "read_piece"))
  (D3:FnF K d3 "read_piece" "read_piece" s_z3)
  (b4:.(ns d4 "_law_cell_at"))
  (D4:FnF K d4 "_law_cell_at" "_law_cell_at" s_z4)
  (b5:.(ns d5 "_law_mixed"))
  (D5:FnF K d5 "_law_mixed" "_law_mixed" s_z5)
  (b6:.(ns d6 "_law_test_words"))
  (D6:FnF K d6 "_law_test_words" "_law_test_words" s_z6)
  (b7:.(ns d7 "_law_refused"))
  (D7:FnF K d7 "_law_refused" "_law_refused" s_z7)
  (b8:.(ns d8 "_law_some"))
  (D8:FnF K d8 "_law_some" "_law_some" s_z8)
  (b9:.(ns d9 "_law_long"))
  (D9:FnF K d9 "_law_long" "_law_long" s_z9)
  (b10:.(ns d10 "law"))
  (D10:FnF K d10 "law" "law" s_za)
  (m11_1:.(fi C1 "holds" d11))
  (g11:.(fx d11))
  (D11:FnF K d11 "holds" "Yes.holds" s_zb)
  (m12_1:.(fi C1 "text" d12))
  (g12:.(fx d12))
  (D12:FnF K d12 "text" "Yes.text" s_zc)
  (m13_2:.(fi C2 "holds" d13))
  (g13:.(fx d13))
  (D13:FnF K d13 "holds" "No.holds" s_zd)
  (m14_2:.(fi C2 "text" d14))
  (g14:.(fx d14))
  (D14:FnF K d14 "text" "No.text" s_ze)
  (m15_3:.(fi C3 "holds" d15))
  (g15:.(fx d15))
  (D15:FnF K d15 "holds" "Named.holds" s_zf)
  (m16_3:.(fi C3 "text" d16))
  (g16:.(fx d16))
  (D16:FnF K d16 "text" "Named.text" s_zg)
  (m17_4:.(fi C4 "holds" d17))
  (g17:.(fx d17))
  (D17:FnF K d17 "holds" "Not.holds" s_zh)
  (m18_4:.(fi C4 "text" d18))
  (g18:.(fx d18))
  (D18:FnF K d18 "text" "Not.text" s_zi)
  (m19_5:.(fi C5 "holds" d19))
  (g19:.(fx d19))
  (D19:FnF K d19 "holds" "Both.holds" s_zj)
  (m20_5:.(fi C5 "text" d20))
  (g20:.(fx d20))
  (D20:FnF K d20 "text" "Both.text" s_zk)
  (m21_6:.(fi C6 "holds" d21))
  (g21:.(fx d21))
  (D21:FnF K d21 "holds" "Either.holds" s_zl)
  (m22_6:.(fi C6 "text" d22))
  (g22:.(fx d22))
  (D22:FnF K d22 "text" "Either.text" s_zm)
  (m23_8:.(fi C8 "text" d23))
  (g23:.(fx d23))
  (D23:FnF K d23 "text" "Nowhere.text" s_zn)
  (m24_9:.(fi C9 "text" d24))
  (g24:.(fx d24))
  (D24:FnF K d24 "text" "Behind.text" s_zo)
  (m25_10:.(fi C10 "text" d25))
  (g25:.(fx d25))
  (D25:FnF K d25 "text" "Through.text" s_zp)
  (m26_11:.(fi C11 "at_end" d26))
  (m26_12:.(fi C12 "at_end" d26))
  (g26:.(fx d26))
  (D26:FnF K d26 "at_end" "WordReader.at_end" s_zq)
  (m27_11:.(fi C11 "passes" d27))
  (m27_12:.(fi C12 "passes" d27))
  (g27:.(fx d27))
  (D27:FnF K d27 "passes" "WordReader.passes" s_zr)
  (m28_12:.(fi C12 "read_either" d28))
  (g28:.(fx d28))
  (D28:FnF K d28 "read_either" "SignReader.read_either" s_zs)
  (m29_12:.(fi C12 "read_both" d29))
  (g29:.(fx d29))
  (D29:FnF K d29 "read_both" "SignReader.read_both" s_zt)
  (m30_12:.(fi C12 "read_single" d30))
  (g30:.(fx d30))
  (D30:FnF K d30 "read_single" "SignReader.read_single" s_zu)
  (m31_12:.(fi C12 "read_bracket" d31))
  (g31:.(fx d31))
  (D31:FnF K d31 "read_bracket" "SignReader.read_bracket" s_zv)
  (wBoth:KitT K (.ref C5) .(J) i_zC)
  (wEither:KitT K (.ref C6) .(J) i_zD)
  (bxDEEDS:.(ns tDEEDS "DEEDS"))
  (lxDEEDS:K.lookup tDEEDS=some ⟨.type "tuple",none,.seq #[.str "P" kDEEDS0,.str "Q" kDEEDS1,.str "R" kDEEDS2,.str "S" kDEEDS3,.str "T" kDEEDS4] nDEEDS,slDEEDS⟩)
  (bxLETTERS:.(ns tLETTERS "LETTERS"))
  (lxLETTERS:K.lookup tLETTERS=some ⟨.type "tuple",none,.seq #[.str "a" kLETTERS0,.str "b" kLETTERS1,.str "c" kLETTERS2,.str "d" kLETTERS3] nLETTERS,slLETTERS⟩)
  (bxMOST_WORDS:PySem.W.nsIn K mainGlobals "MOST_WORDS"=some (some (.int (40) kMOST_WORDS)))
  (zValueError:.(no "ValueError"))
  (zisinstance:.(no "isinstance"))
  (zlen:.(no "len"))
  (zlist:.(no "list"))
  (zrange:.(no "range")) :
  ∃ (cA:Nat->Addr) (fd:FuncData),(∀ (s:Shared) (v:Value),BindsTo s fd ⟨[v],[]⟩ [("_law_script",v)])/\ ∀ base:Bs,K.In base->base.Ns mainGlobals mg->base.tabs=ts->FnOk l.prog w K mg base CX0 (360 + 3) fa fd ["_law_script"] (spG K (pg cA) [false] (gF 180 10)):=by
 have e:=hfa.symm.trans (.(mg b10))
 cases e
 exact .(obq fD0 D0)
 exact .(obq fD1 D1)
 exact .(obq fD2 D2)
 exact .(obq fD3 D3)
 exact .(obq fD4 D4)
 exact .(obq fD5 D5)
 exact .(obq fD6 D6)
 exact .(obq fD7 D7)
 exact .(obq fD8 D8)
 exact .(obq fD9 D9)
 exact .(obq fD10 D10)
 exact .(obq fD11 D11)
 exact .(obq fD12 D12)
 exact .(obq fD13 D13)
 exact .(obq fD14 D14)
 exact .(obq fD15 D15)
 exact .(obq fD16 D16)
 exact .(obq fD17 D17)
 exact .(obq fD18 D18)
 exact .(obq fD19 D19)
 exact .(obq fD20 D20)
 exact .(obq fD21 D21)
 exact .(obq fD22 D22)
 exact .(obq fD23 D23)
 exact .(obq fD24 D24)
 exact .(obq fD25 D25)
 exact .(obq fD26 D26)
 exact .(obq fD27 D27)
 exact .(obq fD28 D28)
 exact .(obq fD29 D29)
 exact .(obq fD30 D30)
 exact .(obq fD31 D31)
 exact .(obq fI3 I3)
 exact .(obq fI4 I4)
 exact .(obq fI5 I5)
 exact .(obq fI6 I6)
 exact .(obq fI8 I8)
 exact .(obq fI9 I9)
 exact .(obq fI10 I10)
 exact .(obq fI12 I12)
 have F:Fs K mg (cOf C0 C1 C2 C3 C4 C5 C6 C7 C8 C9 C10 C11 C12 X0 X1 X2 X3 X4 X5 X6 X7) ts:={
  F_z0:=.(fr fD0 D0 .(A) b0)
  F_z1:=.(fr fD1 D1 .(A) b1)
  F_z2:=.(fr fD2 D2 .(A) b2)
  F_z3:=.(fr fD3 D3 .(A) b3)
  F_z4:=.(fr fD4 D4 .(B) b4)
  F_z5:=.(fr fD5 D5 .(B) b5)
  F_z6:=.(fr fD6 D6 .(A) b6)
  F_z7:=.(fr fD7 D7 .(A) b7)
  F_z8:=.(fr fD8 D8 .(D) b8)
  F_z9:=.(fr fD9 D9 .(B) b9)
  F_za:=.(fr fD10 D10 .(A) b10)
  F_zb:=⟨_,fD11,D11,D11.binds .(B),.(mt D11 g11 m11_1)⟩
  F_zc:=⟨_,fD12,D12,D12.binds .(A),.(mt D12 g12 m12_1)⟩
  F_zd:=⟨_,fD13,D13,D13.binds .(B),.(mt D13 g13 m13_2)⟩
  F_ze:=⟨_,fD14,D14,D14.binds .(A),.(mt D14 g14 m14_2)⟩
  F_zf:=⟨_,fD15,D15,D15.binds .(B),.(mt D15 g15 m15_3)⟩
  F_zg:=⟨_,fD16,D16,D16.binds .(A),.(mt D16 g16 m16_3)⟩
  F_zh:=⟨_,fD17,D17,D17.binds .(B),.(mt D17 g17 m17_4)⟩
  F_zi:=⟨_,fD18,D18,D18.binds .(A),.(mt D18 g18 m18_4)⟩
  F_zj:=⟨_,fD19,D19,D19.binds .(B),.(mt D19 g19 m19_5)⟩
  F_zk:=⟨_,fD20,D20,D20.binds .(A),.(mt D20 g20 m20_5)⟩
  F_zl:=⟨_,fD21,D21,D21.binds .(B),.(mt D21 g21 m21_6)⟩
  F_zm:=⟨_,fD22,D22,D22.binds .(A),.(mt D22 g22 m22_6)⟩
  F_zn:=⟨_,fD23,D23,D23.binds .(A),.(mt D23 g23 m23_8)⟩
  F_zo:=⟨_,fD24,D24,D24.binds .(A),.(mt D24 g24 m24_9)⟩
  F_zp:=⟨_,fD25,D25,D25.binds .(A),.(mt D25 g25 m25_10)⟩
  F_zq:=⟨_,fD26,D26,D26.binds .(A),.(mt D26 g26 m26_11),.(mt D26 g26 m26_12)⟩
  F_zr:=⟨_,fD27,D27,D27.binds .(B),.(mt D27 g27 m27_11),.(mt D27 g27 m27_12)⟩
  F_zs:=⟨_,fD28,D28,D28.binds .(A),.(mt D28 g28 m28_12)⟩
  F_zt:=⟨_,fD29,D29,D29.binds .(A),.(mt D29 g29 m29_12)⟩
  F_zu:=⟨_,fD30,D30,D30.binds .(A),.(mt D30 g30 m30_12)⟩
  F_zv:=⟨_,fD31,D31,D31.binds .(A),.(mt D31 g31 m31_12)⟩
  F_zw:=⟨_,fI12,I12,I12.binds .(B),.(cf c12 e12 f12)⟩
 }
 obtain ⟨⟨oc,od,kV,dc,pm,an,cd,ct,osl,rfl,ll,cc⟩,kk⟩:=id D10
 refine ⟨(cOf C0 C1 C2 C3 C4 C5 C6 C7 C8 C9 C10 C11 C12 X0 X1 X2 X3 X4 X5 X6 X7),PySem.W.fnOf "law" "law" (defArgs s_za) (defBody s_za) (defScope s_za) .none kV dc pm an cd ct,fun s v=> .of_eq rfl,fun base _ _ htb=> ?_⟩
 have hC: ∀ c,c < 13->ClsTy K ((pg (cOf C0 C1 C2 C3 C4 C5 C6 C7 C8 C9 C10 C11 C12 X0 X1 X2 X3 X4 X5 X6 X7)).cA c):=fun c h=>match c,h with | 0,_=>clsTy c0 | 1,_=>clsTy c1 | 2,_=>clsTy c2 | 3,_=>clsTy c3 | 4,_=>clsTy c4 | 5,_=>clsTy c5 | 6,_=>clsTy c6 | 7,_=>clsTy c7 | 8,_=>clsTy c8 | 9,_=>clsTy c9 | 10,_=>clsTy c10 | 11,_=>clsTy c11 | 12,_=>clsTy c12 | n + 13,h=>absurd h (Nat.not_lt.2 (Nat.le_add_left 13 n))
 have C:Ct l.prog w K mg base (cOf C0 C1 C2 C3 C4 C5 C6 C7 C8 C9 C10 C11 C12 X0 X1 X2 X3 X4 X5 X6 X7) ts:={
  tb:=htb
  c_zx:=.(mg a0)
  l_zx:=c0
  c_zy:=.(mg a1)
  l_zy:=c1
  c_zz:=.(mg a2)
  l_zz:=c2
  c_zA:=.(mg a3)
  l_zA:=c3
  c_zB:=.(mg a4)
  l_zB:=c4
  c_zC:=.(mg a5)
  l_zC:=c5
  c_zD:=.(mg a6)
  l_zD:=c6
  c_zE:=.(mg a7)
  l_zE:=c7
  c_zF:=.(mg a8)
  l_zF:=c8
  c_zG:=.(mg a9)
  l_zG:=c9
  c_zH:=.(mg a10)
  l_zH:=c10
  c_zI:=.(mg a11)
  l_zI:=c11
  c_zJ:=.(mg a12)
  l_zJ:=c12
  xc_NoSaying:=.(mg xa4)
  xe_NoSaying:=xb4
  xc_NoTest:=.(mg xa1)
  xe_NoTest:=xb1
  xm_MeaningError:=.(mg xa0)
  xk_MeaningError:=(ck_cons xk0_1 (ck_cons xk0_4 ck_nil))
  xm_NoName:=.(mg xa5)
  xm_NoProgram:=.(mg xa2)
  xm_NoRow:=.(mg xa6)
  xm_NoSaying:=.(mg xa4)
  xm_NoTest:=.(mg xa1)
  xm_NoWorld:=.(mg xa3)
  xm_TooMuch:=.(mg xa7)
  it_NoNNoPNoRNoTNoWToo:=(itx_cons xtNoNNoPNoRNoTNoWToo_1 xq1 (itx_cons xtNoNNoPNoRNoTNoWToo_4 xq4 itx_nil))
  ix_NoSaying:=(ix_cons xiNoSaying_1 xq1 (ix_cons xiNoSaying_4 xq4 ix_nil))
  ix_ValueError:=(ix_cons xiValueError_1 xq1 (ix_cons xiValueError_4 xq4 ix_nil))
  n_zG:=⟨.(mg a9),c9.cls,i9,fI9,_,.(cf c9 e9 f9),init_ok3 I9 rfl .q c9.cls n9_0 n9_1 n9_2 (by decide) (by decide) (by decide) (by decide) (by decide) (by decide) (by decide +kernel) (by decide +kernel) (by decide +kernel),I9.binds .(D)⟩
  n_zC:=⟨.(mg a5),c5.cls,i5,fI5,_,.(cf c5 e5 f5),init_ok2 I5 rfl .q c5.cls n5_0 n5_1 (by decide) (by decide) (by decide) (by decide) (by decide +kernel),I5.binds .(C)⟩
  n_zD:=⟨.(mg a6),c6.cls,i6,fI6,_,.(cf c6 e6 f6),init_ok2 I6 rfl .q c6.cls n6_0 n6_1 (by decide) (by decide) (by decide) (by decide) (by decide +kernel),I6.binds .(C)⟩
  n_zA:=⟨.(mg a3),c3.cls,i3,fI3,_,.(cf c3 e3 f3),init_ok1 I3 rfl .q c3.cls n3_0 (by decide) (by decide) ,I3.binds .(B)⟩
  k_zz:=⟨c2.mks,o2,c2.kp⟩
  n_zB:=⟨.(mg a4),c4.cls,i4,fI4,_,.(cf c4 e4 f4),init_ok1 I4 rfl .q c4.cls n4_0 (by decide) (by decide) ,I4.binds .(B)⟩
  n_zF:=⟨.(mg a8),c8.cls,i8,fI8,_,.(cf c8 e8 f8),init_ok1 I8 rfl .q c8.cls n8_0 (by decide) (by decide) ,I8.binds .(B)⟩
  n_zH:=⟨.(mg a10),c10.cls,i10,fI10,_,.(cf c10 e10 f10),init_ok2 I10 rfl .q c10.cls n10_0 n10_1 (by decide) (by decide) (by decide) (by decide) (by decide +kernel),I10.binds .(C)⟩
  k_zy:=⟨c1.mks,o1,c1.kp⟩
  x_SignReader_words:=n12_0
  x_SignReader_place:=n12_1
  f_after:=(.(fl c9 n9_2 9 fl_nil))
  f_before:=(.(fl c9 n9_0 9 fl_nil))
  f_deed:=(.(fl c9 n9_1 9 (.(fl c10 n10_1 10 fl_nil))))
  f_inner:=(.(fl c4 n4_0 4 fl_nil))
  f_left:=(.(fl c5 n5_0 5 (.(fl c6 n6_0 6 fl_nil))))
  f_name:=(.(fl c3 n3_0 3 fl_nil))
  f_place:=(.(fl c11 n11_1 11 (.(fl c12 n12_1 12 fl_nil))))
  f_right:=(.(fl c5 n5_1 5 (.(fl c6 n6_1 6 fl_nil))))
  f_test:=(.(fl c8 n8_0 8 (.(fl c10 n10_0 10 fl_nil))))
  f_words:=(.(fl c11 n11_0 11 (.(fl c12 n12_0 12 fl_nil))))
  i_zC:=kit_isi hC wBoth rfl (by decide)
  i_zD:=kit_isi hC wEither rfl (by decide)
  e_DEEDS:=⟨tDEEDS,.(mg bxDEEDS),topT_mk lxDEEDS (by show 5<=sizeLine; decide) (.cons ⟨_,rfl⟩ (.cons ⟨_,rfl⟩ (.cons ⟨_,rfl⟩ (.cons ⟨_,rfl⟩ (.cons ⟨_,rfl⟩ (.nil))))))⟩
  e_LETTERS:=⟨tLETTERS,.(mg bxLETTERS),topT_mk lxLETTERS (by show 4<=sizeLine; decide) (.cons ⟨_,rfl⟩ (.cons ⟨_,rfl⟩ (.cons ⟨_,rfl⟩ (.cons ⟨_,rfl⟩ (.nil)))))⟩
  e_MOST_WORDS:=⟨kMOST_WORDS,.(mg bxMOST_WORDS)⟩
  z_ValueError:=.(mz zValueError)
  z_isinstance:=.(mz zisinstance)
  z_len:=.(mz zlen)
  z_list:=.(mz zlist)
  z_range:=.(mz zrange)
 }
 obtain ⟨f',fd',ps',e1,e2,e3,e4⟩:=(all_fn C F 180).h_za.ex
 exact fn_ok D10 sc_za rfl fun _ _ _ _ _ _ hr=>b_za C (all_fn C F 179) hr
end M46
def PySem.W.Fast.tw6497393994058272305:Nat:=0
def PySem.W.Fast.tw12424893045355844012:Nat:=0
def PySem.W.Fast.tw11116649958541635992:Nat:=0
def PySem.W.Fast.tw9702885146120793508:Nat:=0
def PySem.W.Fast.tw9702915573125466678:Nat:=0
def PySem.W.Fast.tw11729778884075758747:Nat:=0
def PySem.W.Fast.tw5697818551764085611:Nat:=0
def PySem.W.Fast.tw12700630326559325540:Nat:=0
def PySem.W.Fast.tw15756204726418686814:Nat:=0
def PySem.W.Fast.tw17203737003894474890:Nat:=0
def PySem.W.Fast.tw1664349273829815257:Nat:=0
def PySem.W.Fast.tw13233033194991850462:Nat:=0
def PySem.W.Fast.tw14611994202298917655:Nat:=0
def PySem.W.Fast.tw3681358164561639781:Nat:=0
def PySem.W.Fast.tw6868394928278177003:Nat:=0
def PySem.W.Fast.tw9350623856402283978:Nat:=0
def PySem.W.Fast.tw2084200350295980335:Nat:=0
def PySem.W.Fast.tw10902880808553371846:Nat:=0
def PySem.W.Fast.tw6021718184146288716:Nat:=0
def PySem.W.Fast.tw13582759335460244:Nat:=0
def PySem.W.Fast.tw9207719366959195467:Nat:=0
def PySem.W.Fast.tw9481978561500140902:Nat:=0
def PySem.W.Fast.tw13903182871728818005:Nat:=0
def PySem.W.Fast.tw17975592307310406460:Nat:=0
def PySem.W.Fast.tw4452178805697007905:Nat:=0
def PySem.W.Fast.tw1070380788219245117:Nat:=0
def PySem.W.Fast.tw16682926874908019759:Nat:=0
def PySem.W.Fast.tw5874426607335399948:Nat:=0
def PySem.W.Fast.tw8621872454886426225:Nat:=0
def PySem.W.Fast.tw9193367636851180737:Nat:=0
def PySem.W.Fast.tw5292383155845956231:Nat:=0
def PySem.W.Fast.tw406642999204883172:Nat:=0
def PySem.W.Fast.tw7793684655449817989:Nat:=0
def PySem.W.Fast.tw17626785156211246064:Nat:=0
def PySem.W.Fast.tw7292378035295658440:Nat:=0
def PySem.W.Fast.tw14953698595525235158:Nat:=0
def PySem.W.Fast.tw7827824564235656854:Nat:=0
def PySem.W.Fast.tw15724393938623090937:Nat:=0
def PySem.W.Fast.tw8640129681871211758:Nat:=0
def PySem.W.Fast.tw14189937169384221989:Nat:=0
def PySem.W.Fast.tw223747675440916306:Nat:=0
def PySem.W.Fast.tw15862672010422388120:Nat:=0
def PySem.W.Fast.tw9711978748608119346:Nat:=0
def PySem.W.Fast.tw18347696661670104013:Nat:=0
end
open PySem PySem.W PyProof.Rows
set_option maxRecDepth 100000 in
set_option maxHeartbeats 0 in
theorem PySem.Challenge.cw_anymeaning_k46_what_is_no_saying_holds : PySem.Challenge.rw_anymeaning_k46_what_is_no_saying.Holds := by
 w_on; o_law; k_head; (case hw=>w_witness2)
 k_fill
 refine L2.walk_ofK (l:=PySem.Challenge.rw_anymeaning_k46_what_is_no_saying) (n:=63) (k:=360 + 3) (x:="_law_script") (CX:=L2.CX0) (sp:=fun K=>DN.spL K M46.fN M46.nF (M46.gF 180 10)) rfl (by decide) rfl ⟨rfl,by decide,by decide⟩ (fun w h Y=>PySem.W.kIn_of Y) (ts:=[]) (fun w h Y P hP=>by cases hP) ?F (fun K H a ns hl hO hS cA=>DN.law_sp hO hS (M46.main ns hl)) (fun _ _ _ _ z=>z)
 case F =>
  intro w mg fa h KX G hmg
  refine DN.law_of ?_
  refine' M46.all_mk KX G hmg ?xa0 ?xa1 ?xb1 ?xa2 ?xa3 ?xa4 ?xb4 ?xa5 ?xa6 ?xa7 ?xk0_1 ?xk0_4 ?xq1 ?xq4 ?xiNoSaying_1 ?xiNoSaying_4 ?xiValueError_1 ?xiValueError_4 ?xtNoNNoPNoRNoTNoWToo_1 ?xtNoNNoPNoRNoTNoWToo_4 ?a0 ?a1 ?a2 ?a3 ?a4 ?a5 ?a6 ?a7 ?a8 ?a9 ?a10 ?a11 ?a12 ?c0 ?c1 ?c2 ?c3 ?c4 ?c5 ?c6 ?c7 ?c8 ?c9 ?c10 ?c11 ?c12 ?o1 ?o2 ?e3 ?f3 ?I3 ?n3_0 ?e4 ?f4 ?I4 ?n4_0 ?e5 ?f5 ?I5 ?n5_0 ?n5_1 ?e6 ?f6 ?I6 ?n6_0 ?n6_1 ?e8 ?f8 ?I8 ?n8_0 ?e9 ?f9 ?I9 ?n9_0 ?n9_1 ?n9_2 ?e10 ?f10 ?I10 ?n10_0 ?n10_1 ?n11_0 ?n11_1 ?e12 ?f12 ?I12 ?n12_0 ?n12_1 ?b0 ?D0 ?b1 ?D1 ?b2 ?D2 ?b3 ?D3 ?b4 ?D4 ?b5 ?D5 ?b6 ?D6 ?b7 ?D7 ?b8 ?D8 ?b9 ?D9 ?b10 ?D10 ?m11_1 ?g11 ?D11 ?m12_1 ?g12 ?D12 ?m13_2 ?g13 ?D13 ?m14_2 ?g14 ?D14 ?m15_3 ?g15 ?D15 ?m16_3 ?g16 ?D16 ?m17_4 ?g17 ?D17 ?m18_4 ?g18 ?D18 ?m19_5 ?g19 ?D19 ?m20_5 ?g20 ?D20 ?m21_6 ?g21 ?D21 ?m22_6 ?g22 ?D22 ?m23_8 ?g23 ?D23 ?m24_9 ?g24 ?D24 ?m25_10 ?g25 ?D25 ?m26_11 ?m26_12 ?g26 ?D26 ?m27_11 ?m27_12 ?g27 ?D27 ?m28_12 ?g28 ?D28 ?m29_12 ?g29 ?D29 ?m30_12 ?g30 ?D30 ?m31_12 ?g31 ?D31 ?wBoth ?wEither ?bxDEEDS ?lxDEEDS ?bxLETTERS ?lxLETTERS ?bxMOST_WORDS ?zValueError ?zisinstance ?zlen ?zlist ?zrange
  (case xa0=>k_is)
  (case xa1=>k_is)
  (case xb1=>k_exc)
  (case xa2=>k_is)
  (case xa3=>k_is)
  (case xa4=>k_is)
  (case xb4=>k_exc)
  (case xa5=>k_is)
  (case xa6=>k_is)
  (case xa7=>k_is)
  (case xk0_1=>kts_exm)
  (case xk0_4=>kts_exm)
  (case xq1=>exact ⟨⟨by k_is,by k_is,by k_is,by k_is,by k_is,by k_is,by (refine' Option.isSome_of_eq_some ?z; (case z=>k_is))⟩,by k_is⟩)
  (case xq4=>exact ⟨⟨by k_is,by k_is,by k_is,by k_is,by k_is,by k_is,by (refine' Option.isSome_of_eq_some ?z; (case z=>k_is))⟩,by k_is⟩)
  (case xiNoSaying_1=>kit_is)
  (case xiNoSaying_4=>kit_is)
  (case xiValueError_1=>kit_is)
  (case xiValueError_4=>kit_is)
  (case xtNoNNoPNoRNoTNoWToo_1=>kit_is)
  (case xtNoNNoPNoRNoTNoWToo_4=>kit_is)
  (case a0 | a1 | a2 | a3 | a4 | a5 | a6 | a7 | a8 | a9 | a10 | a11 | a12 | o1 | o2 | e3 | f3 | n3_0 | e4 | f4 | n4_0 | e5 | f5 | n5_0 | n5_1 | e6 | f6 | n6_0 | n6_1 | e8 | f8 | n8_0 | e9 | f9 | n9_0 | n9_1 | n9_2 | e10 | f10 | n10_0 | n10_1 | n11_0 | n11_1 | e12 | f12 | n12_0 | n12_1 | b0 | b1 | b2 | b3 | b4 | b5 | b6 | b7 | b8 | b9 | b10 | m11_1 | g11 | m12_1 | g12 | m13_2 | g13 | m14_2 | g14 | m15_3 | g15 | m16_3 | g16 | m17_4 | g17 | m18_4 | g18 | m19_5 | g19 | m20_5 | g20 | m21_6 | g21 | m22_6 | g22 | m23_8 | g23 | m24_9 | g24 | m25_10 | g25 | m26_11 | m26_12 | g26 | m27_11 | m27_12 | g27 | m28_12 | g28 | m29_12 | g29 | m30_12 | g30 | m31_12 | g31 | bxDEEDS | lxDEEDS | bxLETTERS | lxLETTERS | bxMOST_WORDS | zValueError | zisinstance | zlen | zlist | zrange=>k_is)
  (case c0 | c1 | c2 | c3 | c4 | c5 | c6 | c7 | c8 | c9 | c10 | c11 | c12=>exact ⟨by k_is,by k_is,by k_is,by k_is,by k_is,by k_is,by k_is,by k_is,by k_is,by k_is⟩)
  (case I3 | I4 | I5 | I6 | I8 | I9 | I10 | I12 | D0 | D1 | D2 | D3 | D4 | D5 | D6 | D7 | D8 | D9 | D10 | D11 | D12 | D13 | D14 | D15 | D16 | D17 | D18 | D19 | D20 | D21 | D22 | D23 | D24 | D25 | D26 | D27 | D28 | D29 | D30 | D31=>(refine' L2.fnf_mk ?l ?c ?k; (case l=>k_is); (case c=>k_is); (case k=>k_is)))
  (case wBoth | wEither=>(repeat refine ⟨by kit_is,?_⟩); exact trivial)
#print axioms PySem.Challenge.cw_anymeaning_k46_what_is_no_saying_holds
end
