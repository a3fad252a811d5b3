import PyProof.Rows.All
import Wide.All
import OpenK.AllK
import Wide.FinOn
import Lean
import PyProof.EqAt
import PyProof.EqKinds
import PyProof.TupleCall
import PyProof.CompFree
import PyProof.NeKinds
import PyProof.Rows.SumAny
import KE.KNest
import KE.KLam
import KE.KNestM
import KE.LcSums
import PyProof.EnumFor
import PyProof.EnumMake
import PyProof.EnumStmt
import PyProof.CompUse
import PyProof.RulesTry
import PyProof.StrCalls2
import PyProof.StrCalls5
import PyProof.StrLawsTight
import PyProof.Rows.StrNews2
import PyProof.Rows.StrItems
import KE.KRevIter
import PyProof.PureStr
import PyProof.SliceStr2
import PyProof.StrLawsIdx
import PyProof.WalkInts
import PyProof.SeqI3
import PyProof.IsRules
import PyProof.StationsW
import PyProof.ExcClass2
import PyProof.PassesOwn
import PyProof.Rows.Catch
import PyProof.Rows.CatchOwn
import OpenK.KOwn
import PyProof.Draws
import PyProof.AttrMiss
import PyProof.DictItems
import PyProof.FactsAll.enumerate
import KE.KDictOf
import KE.KItemsList
import KE.KPairComp
import KE.KEqDict
import PyProof.MeetsDictList
import PySem.Challenge.RW_anymeaning_k21_worlds
set_option hygiene false
local macro_rules|`(.(ns $a $s))=>`(PySem.W.nsIn K mainGlobals $s = some (some (.ref $a)))
local macro_rules|`(.(no $s))=>`(PySem.W.nsIn K mainGlobals $s = some none)
local macro_rules|`(.(fi $c $s $a))=>`(PySem.W.findIn K (.ref $c) $s = some (some (.ref $a)))
local macro_rules|`(.(fo $c $s))=>`(PySem.W.findIn K (.ref $c) $s = some none)
local macro_rules|`(.(fx $a))=>`(PySem.W.isFn K (.ref $a) = true)
local macro_rules|`(.(mg $b))=>`(PySem.W.mg_of X G $b)
local macro_rules|`(.(mz $b))=>`(PySem.W.mg_none_of X G $b)
local macro_rules|`(.(fr $f $d $n $b))=>`(⟨_,$f,$d,($d).binds $n,PySem.W.mg_of X G $b⟩)
local macro_rules|`(.(cf $k $e $f))=>`(⟨($k).mks,$e,$f,($k).kp⟩)
local macro_rules|`(.(mt $d $g $m))=>`(⟨$m,$g,($d).kp⟩)
local macro_rules|`(.(fl $k $n $c $r))=>`(fl_cons ($k).cls $n (show (fN $c).Nodup by decide+kernel) rfl $r)
local macro_rules|`(.(A))=>`(fun _ _ _ _ _ _ us hl=>by rcases us with _ | ⟨_,_ | ⟨_,_⟩⟩ <;> first | (cases hl; done) | rfl)
local macro_rules|`(.(B))=>`(fun _ _ _ _ _ _ us hl=>by rcases us with _ | ⟨_,_ | ⟨_,_ | ⟨_,_⟩⟩⟩ <;> first | (cases hl; done) | rfl)
local macro_rules|`(.(C))=>`(fun _ _ _ _ _ _ us hl=>by rcases us with _ | ⟨_,_ | ⟨_,_ | ⟨_,_ | ⟨_,_⟩⟩⟩⟩ <;> first | (cases hl; done) | rfl)
local macro_rules|`(.(D))=>`(fun _ _ _ _ _ _ us hl=>by rcases us with _ | ⟨_,_ | ⟨_,_ | ⟨_,_ | ⟨_,_ | ⟨_,_⟩⟩⟩⟩⟩ <;> first | (cases hl; done) | rfl)
local macro_rules|`(.(E))=>`(fun _ _ _ _ _ _ us hl=>by rcases us with _ | ⟨_,_ | ⟨_,_ | ⟨_,_ | ⟨_,_ | ⟨_,_ | ⟨_,_⟩⟩⟩⟩⟩⟩ <;> first | (cases hl; done) | rfl)
local macro_rules|`(.(G))=>`(fun _ _ _ _ _ _ us hl=>by rcases us with _ | ⟨_,_ | ⟨_,_ | ⟨_,_ | ⟨_,_ | ⟨_,_ | ⟨_,_ | ⟨_,_⟩⟩⟩⟩⟩⟩⟩ <;> first | (cases hl; done) | rfl)
local macro_rules|`(.(H))=>`(fun _ _ _ _ _ _ us hl=>by rcases us with _ | ⟨_,_ | ⟨_,_ | ⟨_,_ | ⟨_,_ | ⟨_,_ | ⟨_,_ | ⟨_,_ | ⟨_,_⟩⟩⟩⟩⟩⟩⟩⟩ <;> first | (cases hl; done) | rfl)
local macro_rules|`(.(I))=>`(fun _ _ _ _ _ _ us hl=>by rcases us with _ | ⟨_,_ | ⟨_,_ | ⟨_,_ | ⟨_,_ | ⟨_,_ | ⟨_,_ | ⟨_,_ | ⟨_,_ | ⟨_,_⟩⟩⟩⟩⟩⟩⟩⟩⟩ <;> first | (cases hl; done) | rfl)
local macro_rules|`(.(J))=>`(([(.type "NoneType"),(.type "bool"),(.type "int"),(.type "str"),(.type "tuple"),(.type "list"),(.type "dict"),(.ref C0)] : List Value))
local macro_rules|`(tactic|exact .(obq $f:ident $d:ident))=>`(tactic| obtain ⟨$f:ident,$d:ident⟩:=$d)
set_option hygiene true
section
set_option Elab.async false
set_option linter.all false
set_option maxRecDepth 100000
/-! THE HAND LAYER, for ints, bools, texts, own classes, LISTS and tuples (index, slices, in, append, pop ..), calls, loops. Paste it whole ahead of your own text; what your proof does not reach may be deleted. -/
namespace L2
open PySem PySem.Spec PyProof.Rows
/-- a key: an int or a str -/
abbrev Key := Sum Int Str
def keyIs : Key → Value → Bool
  | .inl k, v => Value.isInt k v
  | .inr x, v => Value.isStrOf x v
def keyH (w : World) : Key → Int
  | .inl k => hashInt k
  | .inr x => hashStr w x
theorem keyIs_shape : ∀ {k : Key} {v : Value}, keyIs k v = true → (∃ i t, k = Sum.inl i ∧ v = Value.int i t) ∨ (∃ x t, k = Sum.inr x ∧ v = Value.str x t)
  | .inl i, v, h => by
    obtain ⟨t, e⟩ := Value.isInt_shape (k := i) (v := v) h
    exact .inl ⟨i, t, rfl, e⟩
  | .inr x, v, h => by
    obtain ⟨t, e⟩ := Value.isStrOf_shape (x := x) (v := v) h
    exact .inr ⟨x, t, rfl, e⟩
theorem keyIs_int (i : Int) (t : Tok) : keyIs (.inl i) (.int i t) = true := by simp [keyIs, Value.isInt]
theorem keyIs_str (x : Str) (t : Tok) : keyIs (.inr x) (.str x t) = true := by simp [keyIs, Value.isStrOf]
theorem key_ll (a b : Int) : decide ((Sum.inl a : Key) = Sum.inl b) = (a == b) := by
  by_cases e : a = b
  · subst e; simp
  · have h : ¬ (Sum.inl a : Key) = Sum.inl b := fun q => e (Sum.inl.inj q)
    rw [decide_eq_false h]
    exact (beq_eq_false_iff_ne.mpr e).symm
theorem key_rr (a b : Str) : decide ((Sum.inr a : Key) = Sum.inr b) = decide (a = b) := by
  by_cases e : a = b
  · subst e; simp
  · have h : ¬ (Sum.inr a : Key) = Sum.inr b := fun q => e (Sum.inr.inj q)
    rw [decide_eq_false h, decide_eq_false e]
theorem key_lr (a : Int) (b : Str) : decide ((Sum.inl a : Key) = Sum.inr b) = false := decide_eq_false (fun q => nomatch q)
theorem key_rl (a : Str) (b : Int) : decide ((Sum.inr a : Key) = Sum.inl b) = false := decide_eq_false (fun q => nomatch q)
def mixKind (prog : Program) (w : World) : PySem.KeyKind prog w Key where
  is := keyIs
  hash := keyH w
  inj := fun v a b ha hb => by
    rcases keyIs_shape ha with ⟨i, t, rfl, rfl⟩ | ⟨x, t, rfl, rfl⟩
    · rcases keyIs_shape hb with ⟨j, u, rfl, e⟩ | ⟨y, u, rfl, e⟩
      · injection e with e1 _; rw [e1]
      · exact nomatch e
    · rcases keyIs_shape hb with ⟨j, u, rfl, e⟩ | ⟨y, u, rfl, e⟩
      · exact nomatch e
      · injection e with e1 _; rw [e1]
  byValue := fun k v h => by
    rcases keyIs_shape h with ⟨i, t, rfl, rfl⟩ | ⟨x, t, rfl, rfl⟩ <;> rfl
  pyHash := fun hv h => by
    rcases keyIs_shape hv with ⟨i, t, rfl, rfl⟩ | ⟨x, t, rfl, rfl⟩
    · exact wpAny_pyHash_int h
    · exact wpAny_pyHash_str h
  eqBool := fun hu hv h => by
    rcases keyIs_shape hu with ⟨i, t, rfl, rfl⟩ | ⟨x, t, rfl, rfl⟩
    · rcases keyIs_shape hv with ⟨j, u, rfl, rfl⟩ | ⟨y, u, rfl, rfl⟩
      · rw [key_ll] at h; exact wpAny_eqBool_int h
      · rw [key_lr] at h; exact SeqAt.EqAt.int_str i t y u _ _ _ _ h
    · rcases keyIs_shape hv with ⟨j, u, rfl, rfl⟩ | ⟨y, u, rfl, rfl⟩
      · rw [key_rl] at h; exact SeqAt.EqAt.str_int x t j u _ _ _ _ h
      · rw [key_rr] at h; exact wpAny_eqBool_str h
  «strs» := fun k x t v h => by
    rcases keyIs_shape h with ⟨i, u, rfl, e⟩ | ⟨y, u, rfl, e⟩
    · exact nomatch e
    · injection e with e1 _
      subst e1
      cases v <;> rfl
theorem mixKind_int (prog : Program) (w : World) (i : Int) (t : Tok) : (mixKind prog w).is (.inl i) (.int i t) = true := keyIs_int i t
theorem mixKind_str (prog : Program) (w : World) (x : Str) (t : Tok) : (mixKind prog w).is (.inr x) (.str x t) = true := keyIs_str x t
end L2
namespace L2
open PySem PySem.Spec PyProof.Rows
/-- a value, without the heap -/
inductive V where
  | non | bl (b : Bool) | int (i : Int) | str (x : Str) | byt (b : Array UInt8) | flt (b : UInt64) | ref (a : Addr) | ty (n : String)
  deriving DecidableEq
def RelV : V → Value → Prop
  | .non, u => u = Value.none
  | .bl b, u => u = Value.bool b
  | .int i, u => ∃ t, u = Value.int i t
  | .str x, u => ∃ t, u = Value.str x t
  | .byt b, u => ∃ t, u = Value.bytes b t
  | .flt b, u => ∃ t, u = Value.float b t
  | .ref a, u => u = Value.ref a
  | .ty n, u => u = Value.type n
abbrev Vals : List V → List Value → Prop := Paired RelV
theorem Vals.length {xs : List V} {us : List Value} (r : Vals xs us) : xs.length = us.length := Paired.length r
theorem Vals.get : ∀ {xs : List V} {us : List Value} {i : Nat} {x : V}, Vals xs us → xs[i]? = some x → ∃ u, us[i]? = some u ∧ RelV x u
  | _, _, _, _, .nil, e => by simp at e
  | _, _, 0, _, .cons r _, e => by simp at e; subst e; exact ⟨_, rfl, r⟩
  | _, _, i + 1, x, .cons _ t, e => by
    obtain ⟨u, h1, h2⟩ := Vals.get (i := i) (x := x) t (by simpa using e)
    exact ⟨u, by simpa using h1, h2⟩
theorem Vals.set {x : V} {u : Value} (r : RelV x u) : ∀ {xs : List V} {us : List Value} (i : Nat), Vals xs us → Vals (xs.set i x) (us.set i u)
  | _, _, _, .nil => .nil
  | _, _, 0, .cons _ t => .cons r t
  | _, _, i + 1, .cons q t => .cons q (Vals.set r i t)
theorem Vals.append : ∀ {xs ys : List V} {us ws : List Value}, Vals xs us → Vals ys ws → Vals (xs ++ ys) (us ++ ws)
  | _, _, _, _, .nil, s => s
  | _, _, _, _, .cons r t, s => .cons r (Vals.append t s)
theorem Vals.take : ∀ {xs : List V} {us : List Value} (n : Nat), Vals xs us → Vals (xs.take n) (us.take n)
  | _, _, 0, _ => .nil
  | _, _, _ + 1, .nil => .nil
  | _, _, n + 1, .cons r t => .cons r (Vals.take n t)
theorem Vals.drop : ∀ {xs : List V} {us : List Value} (n : Nat), Vals xs us → Vals (xs.drop n) (us.drop n)
  | _, _, 0, r => r
  | _, _, _ + 1, .nil => .nil
  | _, _, n + 1, .cons _ t => Vals.drop n t
theorem Vals.none_of : ∀ {xs : List V} {us : List Value} {i : Nat}, Vals xs us → xs[i]? = none → us[i]? = none := fun {xs us i} r e => by
  have h1 := r.length
  have h2 : xs.length ≤ i := List.getElem?_eq_none_iff.mp e
  exact List.getElem?_eq_none_iff.mpr (by omega)
def RelO : Option V → Option Value → Prop
  | some v, some u => RelV v u
  | none, none => True
  | _, _ => False
def KV {κ : Type} : List (κ × V) → List (κ × Value) → Prop := Paired fun (p : κ × V) (q : κ × Value) => p.1 = q.1 ∧ RelV p.2 q.2
/-- a key of a dict (00_mix): an int or a text -/
def kV : Key → V
  | .inl i => .int i
  | .inr x => .str x
/-- what stands at a tracked address -/
inductive HO where
  /-- a list -/
  | lst (xs : List V)
  /-- a tuple (never changes) -/
  | tup (xs : List V)
  /-- a dict whose keys are ints and texts; one whose keys are tuples of ints and texts (the empty one is both) -/
  | dK (kvs : List (Key × V)) (ep : Nat) | dT (kvs : List (List Key × V)) (ep : Nat)
  /-- a set of ints: its members, its size -/
  | set (S : Int → Bool) (n : Nat)
  /-- an instance of the class at C, its dict at dx, its attributes -/
  | ins (C dx : Addr) (fs : List (Str × V))
  /-- the dict of the instance at x -/
  | own (x : Addr)
  /-- the dict of an exception -/
  | xd (fs : List (Str × V))
  /-- a bound method, f of x -/
  | met (f x : Addr)
  /-- a range object lo, lo + 1, .. below hi -/
  | rng (lo hi : Int)
  /-- a thing that is known to the object (the script; a dict while a loop walks it): read, never written while it is so -/
  | frz (o : Obj) (u : HO)
  /-- a code object's table -/
  | tbl (q : Nat)
  /-- any other thing, by what is true of its one object (a def of one's own: SetO a S n := HO.ext fun h => ..) -/
  | ext (φ : Heap → Prop)
abbrev Hp := Addr → Option HO
def upd (H : Hp) (a : Addr) (o : HO) : Hp := fun b => if b = a then some o else H b
theorem upd_same {H : Hp} {a : Addr} {o : HO} : upd H a o a = some o := by unfold upd; rw [if_pos rfl]
theorem upd_ne {H : Hp} {a b : Addr} {o : HO} (h : b ≠ a) : upd H a o b = H b := by unfold upd; rw [if_neg h]
theorem upd_upd {H : Hp} {a : Addr} {o u : HO} : upd (upd H a o) a u = upd H a u := by
  funext b; unfold upd; split <;> rfl
/-- two objects of different content stand apart -/
theorem ne_of {H : Hp} {a b : Addr} {o u : HO} (h : H a = some o) (h' : H b = some u) (d : o ≠ u) : a ≠ b := by
  intro e; subst e; rw [h] at h'; exact d (Option.some.inj h')
theorem ne_of_none {H : Hp} {a b : Addr} {o : HO} (h : H a = some o) (h' : H b = none) : a ≠ b := by
  intro e; subst e; rw [h] at h'; cases h'
/-- a code object: its name for frames stands in it -/
def CodeO (o : Obj) : Prop := ∃ (vs : Array Value) (q : Str) (t : Tok), o.data = .fields vs ∧ vs[1]? = some (.str q t)
section
variable (P : Program) (w : World)
def ObjOk (H : Hp) (h : Heap) (a : Addr) : HO → Prop
  | .lst xs => xs.length ≤ sizeLine ∧ ∃ (its : List Value) (n : Nat), Vals xs its ∧ h.get? a = some { cls := .type "list", data := .seq its.toArray n }
  | .tup xs => xs.length ≤ sizeLine ∧ ∃ its : List Value, Vals xs its ∧ IsTup h a its.toArray
  | .dK kvs ep => kvs.length ≤ sizeLine ∧ (a == sysModules) = false ∧ ∃ vs, KV kvs vs ∧ h.DictAt (mixKind P w) a vs ep
  | .dT kvs ep => kvs.length ≤ sizeLine ∧ (a == sysModules) = false ∧ ∃ xs : List (List Key × Addr × Value),
      Paired (fun (p : List Key × V) (q : List Key × Addr × Value) => p.1 = q.1 ∧ H q.2.1 = some (.tup (p.1.map kV)) ∧ RelV p.2 q.2.2) kvs xs ∧
      ∃ o es, h.get? a = some o ∧ o.ExactDict ∧ o.data = .dict es ep ∧ es.toList = xs.map (entryOfKey (tupleKind (mixKind P w))) ∧ (xs.map (·.1)).Nodup
  | .set S n => h.SetOf (intKind P w) a S n
  | .ins C dx fs => H dx = some (.own a) ∧ fs.length ≤ 1000 ∧ dx ≠ a ∧ h.get? a = some (PySem.W.instObj C dx) ∧
      ∃ mA, h.Ns1 dx mA ∧ (∀ f, RelO (fs.lookup f) (mA f)) ∧ PySem.Within mA (fs.map (·.1))
  | .own _ => ∃ o, h.get? a = some o
  | .xd fs => ∃ mA, h.Ns1 a mA ∧ ∀ f, RelO (fs.lookup f) (mA f)
  | .rng lo hi => ∃ t u v, h.get? a = some { cls := .type "range", data := .fields #[.int lo t, .int hi u, .int 1 v] }
  | .frz o u => h.get? a = some o ∧ ObjOk H h a u
  | .tbl _ => ∃ ps : Array Value, h.get? a = some (PySem.W.tabObj ps) ∧ TriplesOk ps.toList ∧ ∀ pos cv, codeAmong pos ps.toList = some cv → ∃ c oc u, cv = .ref c ∧ H c = some (.frz oc u) ∧ CodeO oc
  | .met f x => h.get? a = some (PySem.W.methodObj (.ref f) (.ref x))
  | .ext φ => φ h ∧ (∃ o, h.get? a = some o) ∧ ∀ h1 h2 : Heap, φ h1 → (∀ o, h1.get? a = some o → h2.get? a = some o) → φ h2
/-- the abstract heap is held -/
def HOk (H : Hp) (h : Heap) : Prop := ∀ a o, H a = some o → ObjOk P w H h a o
end
section
variable {P : Program} {w : World} {H H' : Hp} {h h' : Heap} {a : Addr} {o : HO}
theorem ObjOk.lt (x : ObjOk P w H h a o) : a < h.objs.size := by
  cases o with
  | lst xs => obtain ⟨_, _, _, _, e⟩ := x; exact Heap.lt_size e
  | tup xs => obtain ⟨_, _, _, p⟩ := x; exact p.lt
  | dK kvs ep => obtain ⟨_, _, _, _, o, _, e, _⟩ := x; exact Heap.lt_size e
  | dT kvs ep => obtain ⟨_, _, _, _, o, _, e, _⟩ := x; exact Heap.lt_size e
  | set S n => obtain ⟨o, _, _, _, e, _⟩ := x; exact Heap.lt_size e
  | ins C dx fs => obtain ⟨_, _, _, e, _⟩ := x; exact Heap.lt_size e
  | own y => obtain ⟨_, e⟩ := x; exact Heap.lt_size e
  | xd fs => obtain ⟨_, ⟨_, _, _, e, _⟩, _⟩ := x; exact Heap.lt_size e
  | rng lo hi => obtain ⟨_, _, _, e⟩ := x; exact Heap.lt_size e
  | frz ob u => obtain ⟨e, _⟩ := x; exact Heap.lt_size e
  | tbl q => obtain ⟨_, e, _⟩ := x; exact Heap.lt_size e
  | met f y => exact Heap.lt_size (show h.get? a = some _ from x)
  | ext φ => obtain ⟨_, ⟨_, e⟩, _⟩ := x; exact Heap.lt_size e
theorem Paired.mapP {α β : Type} {F G : α → β → Prop} : ∀ {l₁ : List α} {l₂ : List β}, Paired F l₁ l₂ → (∀ a b, F a b → G a b) → Paired G l₁ l₂
  | _, _, .nil, _ => .nil
  | _, _, .cons r t, f => .cons (f _ _ r) (Paired.mapP t f)
/-- what an object's description leans on: its own object, its own dict, the tuples -/
theorem ObjOk.stay (x : ObjOk P w H h a o) (k : ∀ b u, (b = a ∨ H b = some (.own a)) → h.get? b = some u → h'.get? b = some u)
    (ho : ∀ b, H b = some (.own a) → H' b = some (.own a)) (ht : ∀ b xs, H b = some (.tup xs) → H' b = some (.tup xs)) (hz : ∀ b o u, H b = some (.frz o u) → H' b = some (.frz o u)) : ObjOk P w H' h' a o := by
  induction o with
  | lst xs => obtain ⟨z, its, n, r, e⟩ := x; exact ⟨z, its, n, r, k _ _ (.inl rfl) e⟩
  | tup xs => obtain ⟨z, its, r, ob, e, c⟩ := x; exact ⟨z, its, r, ob, k _ _ (.inl rfl) e, c⟩
  | dK kvs ep => obtain ⟨z, y, vs, r, ob, es, e, c⟩ := x; exact ⟨z, y, vs, r, ob, es, k _ _ (.inl rfl) e, c⟩
  | dT kvs ep =>
    obtain ⟨z, y, xs, r, ob, es, e, c⟩ := x
    exact ⟨z, y, xs, Paired.mapP r fun p q z => ⟨z.1, ht _ _ z.2.1, z.2.2⟩, ob, es, k _ _ (.inl rfl) e, c⟩
  | set S n => obtain ⟨ob, es, ep, t, e, c⟩ := x; exact ⟨ob, es, ep, t, k _ _ (.inl rfl) e, c⟩
  | ins C dx fs =>
    obtain ⟨d, z, ne, e, mA, ⟨od, es, ep, e2, c⟩, r⟩ := x
    exact ⟨ho _ d, z, ne, k _ _ (.inl rfl) e, mA, ⟨od, es, ep, k _ _ (.inr d) e2, c⟩, r⟩
  | own y => obtain ⟨ob, e⟩ := x; exact ⟨ob, k _ _ (.inl rfl) e⟩
  | xd fs => obtain ⟨mA, ⟨od, es, ep, e, c⟩, r⟩ := x; exact ⟨mA, ⟨od, es, ep, k _ _ (.inl rfl) e, c⟩, r⟩
  | rng lo hi => obtain ⟨t, u, v, e⟩ := x; exact ⟨t, u, v, k _ _ (.inl rfl) e⟩
  | frz ob u ih => obtain ⟨e, q⟩ := x; exact ⟨k _ _ (.inl rfl) e, ih q⟩
  | tbl q =>
    obtain ⟨ps, e, t, r⟩ := x
    exact ⟨ps, k a _ (.inl rfl) e, t, fun pos cv z => let ⟨c, oc, u, e1, e2, e3⟩ := r pos cv z; ⟨c, oc, u, e1, hz _ _ _ e2, e3⟩⟩
  | met f y =>
    have e : h.get? a = some (PySem.W.methodObj (.ref f) (.ref y)) := x
    show h'.get? a = some (PySem.W.methodObj (.ref f) (.ref y))
    exact k a _ (.inl rfl) e
  | ext φ => obtain ⟨p, ⟨o, e⟩, st⟩ := x; exact ⟨st _ _ p fun o q => k _ _ (.inl rfl) q, ⟨o, k _ _ (.inl rfl) e⟩, st⟩
theorem HOk.lt (x : HOk P w H h) (e : H a = some o) : a < h.objs.size := (x a o e).lt
theorem HOk.fresh (x : HOk P w H h) (e : h.objs.size ≤ a) : H a = none := by
  cases q : H a with
  | none => rfl
  | some u => exact absurd (Nat.lt_of_lt_of_le (x.lt q) e) (Nat.lt_irrefl _)
/-- every object of the heap is kept -/
theorem HOk.kept (x : HOk P w H h) (k : ∀ b u, h.get? b = some u → h'.get? b = some u) : HOk P w H h' := fun a o e =>
  (x a o e).stay (fun b u _ q => k b u q) (fun _ q => q) (fun _ _ q => q) fun _ _ _ q => q
/-- a new object is laid and tracked -/
theorem HOk.laid (x : HOk P w H h) (k : ∀ b u, h.get? b = some u → h'.get? b = some u) (hp : h.objs.size ≤ a) (new : ObjOk P w (upd H a o) h' a o) : HOk P w (upd H a o) h' := fun b u e => by
  have hn := x.fresh hp
  by_cases hb : b = a
  · subst hb; rw [upd_same] at e; cases e; exact new
  · rw [upd_ne hb] at e
    exact (x b u e).stay (fun c v _ q => k c v q) (fun c q => by rw [upd_ne (ne_of_none q hn)]; exact q) (fun c xs q => by rw [upd_ne (ne_of_none q hn)]; exact q) fun c o u q => by rw [upd_ne (ne_of_none q hn)]; exact q
end
/-- what may be read as u: it is u, or a known u -/
def Rd (H : Hp) (a : Addr) (u : HO) : Prop := H a = some u ∨ ∃ o, H a = some (.frz o u)
theorem Rd.of {H : Hp} {a : Addr} {u : HO} (h : H a = some u) : Rd H a u := .inl h
theorem Rd.ok {P : Program} {w : World} {H : Hp} {h : Heap} {a : Addr} {u : HO} (r : Rd H a u) (x : HOk P w H h) : ObjOk P w H h a u := by
  rcases r with r | ⟨o, r⟩
  · exact x a u r
  · obtain ⟨_, q⟩ := x a _ r
    exact q
/-- what may be written -/
def Mut : Option HO → Prop
  | some (.lst _) => True
  | some (.dK _ _) => True
  | some (.dT _ _) => True
  | some (.set _ _) => True
  | some (.ins _ _ _) => True
  | some (.ext _) => True
  | _ => False
section
variable {P : Program} {w : World} {H : Hp} {h h' : Heap} {x e : Addr} {o' : HO}
/-- the object at e is changed: x itself, or the dict of the instance x -/
theorem HOk.write (ok : HOk P w H h) (mu : Mut (H x)) (he : e = x ∨ H e = some (.own x)) (k : ∀ b u, b ≠ e → h.get? b = some u → h'.get? b = some u) (heo : ∃ u, h'.get? e = some u)
    (new : ObjOk P w (upd H x o') h' x o') : HOk P w (upd H x o') h' := fun b u q => by
  have nown : ∀ c y, H c = some (.own y) → c ≠ x := fun c y r z => by subst z; rw [r] at mu; exact mu
  have nfrz : ∀ c o u, H c = some (.frz o u) → c ≠ x := fun c o u r z => by subst z; rw [r] at mu; exact mu
  have ntup : ∀ c xs, H c = some (.tup xs) → c ≠ x := fun c xs r z => by subst z; rw [r] at mu; exact mu
  by_cases hb : b = x
  · subst hb; rw [upd_same] at q; cases q; exact new
  · rw [upd_ne hb] at q
    by_cases hbe : b = e
    · have q' : H b = some (.own x) := by
        rcases he with z | z
        · exact absurd (hbe.trans z) hb
        · rw [hbe]; exact z
      rw [q] at q'; cases q'
      obtain ⟨v, hv⟩ := heo
      exact ⟨v, by rw [hbe]; exact hv⟩
    · refine (ok b u q).stay (fun c v hc r => k c v ?_ r) (fun c r => by rw [upd_ne (nown c b r)]; exact r) (fun c xs r => by rw [upd_ne (ntup c xs r)]; exact r) fun c o u r => by rw [upd_ne (nfrz c o u r)]; exact r
      rcases hc with rfl | hc
      · exact hbe
      · rintro rfl
        rcases he with z | z
        · exact nown c b hc z
        · rw [hc] at z; cases z; exact hb rfl
end
/-! ### kept unless tracked; of the frames at fs (the callers') the slots may change (an exception that passes writes there); of the records at ex (iterators) nothing is said -/
structure Un (fs ex : List Addr) (H H' : Hp) (h h' : Heap) : Prop where
  keep : ∀ b o, h.get? b = some o → H b = none → b ∉ fs → b ∉ ex → h'.get? b = some o
  slot : ∀ b o, h.get? b = some o → H b = none → b ∈ fs → b ∉ ex → ∃ sl, h'.get? b = some { o with slots := sl }
  free : ∀ b o, h.get? b = some o → H b = none → b ∉ ex → H' b = none
  there : ∀ b o, h.get? b = some o → b ∉ ex → ∃ o', h'.get? b = some o'
  tups : ∀ b xs, H b = some (.tup xs) → H' b = some (.tup xs)
  frzs : ∀ b o u, H b = some (.frz o u) → H' b = some (.frz o u)
  tbls : ∀ b q, H b = some (.tbl q) → H' b = some (.tbl q)
section
variable {fs fs' ex ex' : List Addr} {H H1 H2 : Hp} {h h1 h2 h' : Heap} {a x e : Addr} {o : HO}
theorem Un.any (u : Un fs ex H H1 h h1) {b : Addr} {ob : Obj} (q : h.get? b = some ob) (n : H b = none) (hx : b ∉ ex) : ∃ sl, h1.get? b = some { ob with slots := sl } := by
  by_cases hb : b ∈ fs
  · exact u.slot b ob q n hb hx
  · exact ⟨ob.slots, u.keep b ob q n hb hx⟩
theorem Un.trans (a : Un fs ex H H1 h h1) (b : Un fs ex H1 H2 h1 h2) : Un fs ex H H2 h h2 where
  keep := fun c ob q n hc hx => b.keep c ob (a.keep c ob q n hc hx) (a.free c ob q n hx) hc hx
  slot := fun c ob q n hc hx => by
    obtain ⟨sl, e1⟩ := a.slot c ob q n hc hx
    obtain ⟨sl', e2⟩ := b.slot c _ e1 (a.free c ob q n hx) hc hx
    exact ⟨sl', e2⟩
  free := fun c ob q n hx => by
    obtain ⟨o', e1⟩ := a.there c ob q hx
    exact b.free c o' e1 (a.free c ob q n hx) hx
  there := fun c ob q hx => by
    obtain ⟨o', e1⟩ := a.there c ob q hx
    exact b.there c o' e1 hx
  tups := fun c xs q => b.tups c xs (a.tups c xs q)
  frzs := fun c ob xs q => b.frzs c ob xs (a.frzs c ob xs q)
  tbls := fun c ps q => b.tbls c ps (a.tbls c ps q)
theorem Un.kept (k : ∀ b u, h.get? b = some u → h'.get? b = some u) : Un fs ex H H h h' :=
  ⟨fun b ob q _ _ _ => k b ob q, fun b ob q _ _ _ => ⟨ob.slots, k b ob q⟩, fun _ _ _ n _ => n, fun b ob q _ => ⟨ob, k b ob q⟩, fun _ _ q => q, fun _ _ _ q => q, fun _ _ q => q⟩
theorem Un.refl : Un fs ex H H h h := Un.kept fun _ _ q => q
theorem Un.laid (k : ∀ b u, h.get? b = some u → h'.get? b = some u) (hp : h.objs.size ≤ a) (hn : H a = none) : Un fs ex H (upd H a o) h h' where
  keep := fun b u q _ _ _ => k b u q
  slot := fun b u q _ _ _ => ⟨u.slots, k b u q⟩
  free := fun b u q n _ => by rw [upd_ne (Nat.ne_of_lt (Nat.lt_of_lt_of_le (Heap.lt_size q) hp))]; exact n
  there := fun b u q _ => ⟨u, k b u q⟩
  tups := fun b xs q => by rw [upd_ne (ne_of_none q hn)]; exact q
  frzs := fun b u xs q => by rw [upd_ne (ne_of_none q hn)]; exact q
  tbls := fun b ps q => by rw [upd_ne (ne_of_none q hn)]; exact q
theorem Un.write (mu : Mut (H x)) (he : e = x ∨ H e = some (.own x)) (k : ∀ b u, b ≠ e → h.get? b = some u → h'.get? b = some u) (heo : ∃ u, h'.get? e = some u) : Un fs ex H (upd H x o) h h' := by
  have hx : ∀ b, H b = none → b ≠ x := fun b n z => by subst z; rw [n] at mu; exact mu
  have hb : ∀ b, H b = none → b ≠ e := fun b n z => by
    subst z
    rcases he with r | r
    · exact hx b n r
    · rw [n] at r; cases r
  have hm : ∀ b u, H b = some u → ¬ Mut (some u) → b ≠ x := fun b u q nm z => by subst z; rw [q] at mu; exact nm mu
  refine ⟨fun b u q n _ _ => k b u (hb b n) q, fun b u q n _ _ => ⟨u.slots, k b u (hb b n) q⟩, fun b u q n _ => by rw [upd_ne (hx b n)]; exact n, fun b u q _ => ?_,
    fun b xs q => by rw [upd_ne (hm b _ q fun z => z)]; exact q, fun b u xs q => by rw [upd_ne (hm b _ q fun z => z)]; exact q, fun b ps q => by rw [upd_ne (hm b _ q fun z => z)]; exact q⟩
  by_cases hbe : b = e
  · subst hbe; exact heo
  · exact ⟨u, k b u hbe q⟩
theorem Un.mono (u : Un fs ex H H1 h h1) (hs : ∀ b ∈ fs, b ∈ fs') (hx : ∀ b ∈ ex, b ∈ ex') : Un fs' ex' H H1 h h1 :=
  ⟨fun b ob q n hb he => u.keep b ob q n (fun z => hb (hs b z)) fun z => he (hx b z), fun _ _ q n _ he => u.any q n fun z => he (hx _ z), fun b ob q n he => u.free b ob q n fun z => he (hx b z), fun b ob q he => u.there b ob q fun z => he (hx b z), u.tups, u.frzs, u.tbls⟩
end
/-! ### the heap without what is tracked -/
def trk (h : Heap) (H : Hp) : List Addr := (List.range h.objs.size).filter fun a => (H a).isSome
def hidT (h : Heap) (H : Hp) : Heap := PySem.W.hideAll h (trk h H)
theorem hidT_size (h : Heap) (H : Hp) : (hidT h H).objs.size = h.objs.size := PySem.W.hideAll_size _ _
theorem hidT_get {h : Heap} {H : Hp} {b : Addr} {o : Obj} (e : h.get? b = some o) (n : H b = none) : (hidT h H).get? b = some o :=
  PySem.W.hideAll_get _ e fun hm => by
    have q : (H b).isSome = true := (List.mem_filter.mp hm).2
    rw [n] at q; simp at q
theorem of_hidT {h : Heap} {H : Hp} {b : Addr} {o : Obj} (e : (hidT h H).get? b = some o) : h.get? b = some o ∧ H b = none := by
  have e' : h.get? b = some o := PySem.W.of_hideAll (trk h H) e
  refine ⟨e', ?_⟩
  cases q : H b with
  | none => rfl
  | some x =>
    have hm : b ∈ trk h H := List.mem_filter.mpr ⟨List.mem_range.mpr (Heap.lt_size e'), by simp [q]⟩
    have z : (hidT h H).get? b = none := PySem.W.hideAll_none (trk h H) hm
    rw [z] at e; cases e
/-! ### OpenK's ledger, filled with every new object but one -/
def allNews (g h : Heap) (L : Addr) : List (Addr × Obj) := (List.range h.objs.size).filterMap fun a => if a = L ∨ (g.get? a).isSome = true then none else (h.get? a).map fun o => (a, o)
def rest (g h : Heap) (L d : Addr) : List (Addr × Obj) := (allNews g h L).filter fun p => decide (p.1 ≠ d)
end L2
namespace L2
open PySem PySem.Spec PyProof.Rows
/-- the base; the tables of code objects that are tracked -/
structure Bs extends Heap where
  tabs : List Addr
instance : Coe Bs Heap := ⟨Bs.toHeap⟩
/-- the module's facts, over the base: the heap at the law's entry without what is tracked there -/
structure Mod (K : PySem.W.Frag) (mg : Str → Option Value) (base : Bs) : Prop where
  kin : K.In base
  glob : base.Ns mainGlobals mg
  blt : ∃ mb, base.Ns builtinsNs mb ∧ ∀ x : Str, x ≠ "__name__" → mb x = bootBuiltins x
  nolimit : base.NoLimit
  bmain : ∃ bm ob, mg "__builtins__" = some (.ref bm) ∧ bm ≠ builtinsNs ∧ base.get? bm = some ob ∧ ob.cls = .type "module" ∧ ob.dict = some builtinsNs ∧ ob.data = .plain
/-- the context: a def's body (or a comprehension's block) running. base: fixed through the whole law; s₀, H₀: the entry; outer: the frames whose slots others may change (a def's callers); stack: all frames that run;
   ex: iterators that were made ahead of the entry and are walked here (a comprehension's); fn: the names whose cells were made at the entry (a def: all; a comprehension's block: its own); calm: not within an except suite; pn: pins that every state bears; xe: what is wanted of an exception that leaves the code -/
structure Cx where
  prog : Program
  w : World
  K : PySem.W.Frag
  mg : Str → Option Value
  base : Bs
  A : Around
  N : List Str
  s₀ : Shared
  H₀ : Hp
  env : Env
  outer : List Env
  stack : List Env
  ex : List Addr
  fn : Str → Bool
  cw : Str → Bool
  calm : Bool
  pn : List (Addr × Obj)
  xe : Value → Shared → Prop
/-- the callers' frames -/
def frs (l : List Env) : List Addr := l.filterMap (·.frame)
abbrev Cx.fs (X : Cx) : List Addr := frs X.outer
def Vis (sc : Scope) (x : Str) : Prop := sc.names.lookup x = some .local ∨ sc.names.lookup x = some .cell ∨ sc.names.lookup x = some .free
def Loc (sc : Scope) (x : Str) : Prop := sc.names.lookup x = some .local ∨ sc.names.lookup x = some .cell
def Look (env : Env) (h : Heap) (m : Str → Option Value) (x : Str) (u : Value) : Prop :=
  (env.kindOf x = some .local ∧ m x = some u) ∨ ((env.kindOf x = some .cell ∨ env.kindOf x = some .free) ∧ ∃ c, env.cells.lookup x = some c ∧ h.IsCell c (some u))
structure Cx.Ok (X : Cx) : Prop where
  mod : Mod X.K X.mg X.base
  kind : X.env.scope.kind = .function
  glob : X.env.globals = mainGlobals
  blt : X.env.builtins = builtinsNs
  above : X.s₀.heap.objs.size ≤ X.env.locals
  inj : ∀ x y c, X.env.cells.lookup x = some c → X.env.cells.lookup y = some c → x = y
  has : ∀ x, (X.env.kindOf x = some .cell ∨ X.env.kindOf x = some .free) → ∃ c, X.env.cells.lookup x = some c
  cab : ∀ x c, X.cw x = true → X.env.cells.lookup x = some c → X.s₀.heap.objs.size ≤ c
  hd : X.calm = true → X.A.handled = none
  frames : X.A.frames = some X.stack
  stk : X.stack = X.outer ∨ (X.stack = X.env :: X.outer ∧ X.env.frame = some X.env.locals)
  exf : ∀ b ∈ X.ex, b ≠ X.env.locals ∧ ∀ x c, X.env.cells.lookup x = some c → c ≠ b
  bs : ∀ b o, X.base.get? b = some o → X.s₀.heap.get? b = some o ∧ X.H₀ b = none
  bsz : X.base.objs.size ≤ X.s₀.heap.objs.size
  noex : ∀ b o, X.base.get? b = some o → b ∉ X.ex
  exfs : ∀ b ∈ X.ex, b ∉ X.fs
  funs : X.s₀.heap.FunFrames X.base X.outer
  frf : ∀ b ∈ X.fs, X.H₀ b = none
  tab : ∀ P ∈ X.base.tabs, X.H₀ P = some (.tbl 0)
  fc : ∀ x, X.fn x = true → X.cw x = true
structure Inv (X : Cx) (pins : List (Addr × Obj)) (σ : List (Option V)) (H : Hp) (s : Shared) : Prop where
  ok : X.Ok
  os : s.os = X.s₀.os
  bare : AllBare s.gens
  base : Un X.fs X.ex X.H₀ H X.s₀.heap s.heap
  loc : ∃ m, s.heap.Ns X.env.locals m ∧ ∀ (i : Nat) (x : Str) (v : V), X.N[i]? = some x → σ[i]? = some (some v) → Vis X.env.scope x → ∃ u, RelV v u ∧ Look X.env s.heap m x u
  cell : ∀ x c, X.env.cells.lookup x = some c → ∃ v, s.heap.IsCell c v
  free : H X.env.locals = none
  freeC : ∀ x c, X.env.cells.lookup x = some c → H c = none ∨ (X.fn x = false ∧ ∃ o u, H c = some (.frz o u))
  pin : ∀ p ∈ X.pn ++ pins, s.heap.get? p.1 = some p.2 ∧ H p.1 = none ∧ p.1 ≠ X.env.locals ∧ p.1 ∉ X.fs ∧ ∀ v, p.2.data ≠ .cell v
  hok : HOk X.prog X.w H s.heap
  len : σ.length = X.N.length
section
variable {X : Cx} {pins : List (Addr × Obj)} {σ : List (Option V)} {H H' : Hp} {s : Shared} {h' : Heap}
theorem Cx.Ok.nofr (ok : X.Ok) {b : Addr} {o : Obj} (e : X.base.get? b = some o) : b ∉ X.fs := fun hb => by
  have := (ok.funs.mem hb).1
  rw [e] at this; cases this
theorem Inv.bs (I : Inv X pins σ H s) : ∀ b o, X.base.get? b = some o → s.heap.get? b = some o ∧ H b = none := fun b o e =>
  ⟨I.base.keep b o (I.ok.bs b o e).1 (I.ok.bs b o e).2 (I.ok.nofr e) (I.ok.noex b o e), I.base.free b o (I.ok.bs b o e).1 (I.ok.bs b o e).2 (I.ok.noex b o e)⟩
theorem Inv.bk (I : Inv X pins σ H s) : ∀ b o, X.base.get? b = some o → s.heap.get? b = some o := fun b o e => (I.bs b o e).1
theorem Inv.mod (I : Inv X pins σ H s) : Mod X.K X.mg X.base := I.ok.mod
theorem Inv.kIn (I : Inv X pins σ H s) : X.K.In s.heap := I.ok.mod.kin.keeps I.bk
theorem Inv.nolimit (I : Inv X pins σ H s) : s.heap.NoLimit := I.ok.mod.nolimit.keeps I.bk
/-- the frame over the base: for OpenK's rules (K.In X.base is I.mod.kin) -/
theorem Inv.fr (I : Inv X pins σ H s) : ∃ m, Fr X.base X.env.locals s.heap m :=
  let ⟨m, hn, _⟩ := I.loc
  ⟨m, hn, I.bk, Nat.le_trans I.ok.bsz I.ok.above⟩
theorem Inv.lt (I : Inv X pins σ H s) : X.env.locals < s.heap.objs.size := let ⟨_, hn, _⟩ := I.loc; hn.lt
theorem Inv.sz (I : Inv X pins σ H s) : X.s₀.heap.objs.size ≤ s.heap.objs.size := Nat.le_trans I.ok.above (Nat.le_of_lt I.lt)
theorem Inv.nofs (I : Inv X pins σ H s) {a : Addr} (h : s.heap.objs.size ≤ a) : a ∉ X.fs := fun hb => by
  obtain ⟨_, o, ho, _⟩ := I.ok.funs.mem hb
  exact absurd (Nat.lt_of_lt_of_le (Heap.lt_size ho) (Nat.le_trans I.sz h)) (Nat.lt_irrefl _)
theorem Inv.cne (I : Inv X pins σ H s) : ∀ x c, X.env.cells.lookup x = some c → c ≠ X.env.locals := fun x c e z => by
  obtain ⟨v, o, ho, hd⟩ := I.cell x c e
  obtain ⟨m, ⟨o', es, ep, ho', hd', _⟩, _⟩ := I.loc
  rw [z, ho'] at ho; cases ho; rw [hd'] at hd; cases hd
theorem Inv.funs (I : Inv X pins σ H s) : s.heap.FunFrames X.base X.outer := by
  have all : ∀ (l : List Env), (∀ b ∈ frs l, b ∈ X.fs) → X.s₀.heap.FunFrames X.base l → s.heap.FunFrames X.base l := by
    intro l
    induction l with
    | nil => intro _ _; trivial
    | cons env r ih =>
      intro hs hl
      obtain ⟨hk, ⟨L, o, hf, hn, ho, hd⟩, hr⟩ := hl
      have hL : L ∈ X.fs := hs L (by unfold frs; rw [List.filterMap_cons, hf]; exact List.mem_cons_self)
      obtain ⟨sl, e⟩ := I.base.slot L o ho (I.ok.frf L hL) hL fun z => I.ok.exfs L z hL
      exact ⟨hk, ⟨L, _, hf, hn, e, hd⟩, ih (fun b hb => hs b (by unfold frs; rw [List.filterMap_cons, hf]; exact List.mem_cons_of_mem _ hb)) hr⟩
  exact all X.outer (fun _ hb => hb) I.ok.funs
/-- the frames that run, for a call -/
theorem Inv.stack (I : Inv X pins σ H s) : s.heap.FunFrames X.base X.stack := by
  rcases I.ok.stk with e | ⟨e, hf⟩
  · rw [e]; exact I.funs
  · rw [e]
    obtain ⟨m, hn, _⟩ := I.loc
    refine .cons (by rw [I.ok.kind]; decide) hf hn ?_ I.funs
    exact Heap.get?_none_of_le (Nat.le_trans I.ok.bsz I.ok.above)
theorem Inv.stkSub (I : Inv X pins σ H s) : ∀ b ∈ frs X.stack, b ∈ X.env.locals :: X.fs := fun b hb => by
  rcases I.ok.stk with e | ⟨e, hf⟩
  · rw [e] at hb; exact List.mem_cons_of_mem _ hb
  · rw [e] at hb
    unfold frs at hb
    rw [List.filterMap_cons, hf] at hb
    exact hb
theorem Inv.stkFree (I : Inv X pins σ H s) : ∀ b ∈ frs X.stack, H b = none := fun b hb => by
  rcases List.mem_cons.mp (I.stkSub b hb) with e | hb
  · rw [e]; exact I.free
  · obtain ⟨_, o, ho, _⟩ := I.ok.funs.mem hb
    exact I.base.free b o ho (I.ok.frf b hb) fun z => I.ok.exfs b z hb
/-- THE STEP: the untracked objects but the frame and the records at ch are kept (the callers' frames up to slots), the frame's map is kept, the new abstract heap is held -/
theorem Inv.step {g' : Array GenState} {t' : Nat} {d' : Drawn} {ch : List Addr} (I : Inv X pins σ H s)
    (hch : ∀ b ∈ ch, (b ∈ X.ex ∨ X.s₀.heap.objs.size ≤ b) ∧ b ≠ X.env.locals ∧ (∀ x c, X.env.cells.lookup x = some c → c ≠ b) ∧ ∀ p ∈ X.pn ++ pins, p.1 ≠ b)
    (keep : ∀ b o, b ≠ X.env.locals → b ∉ X.fs → b ∉ ch → s.heap.get? b = some o → H b = none → h'.get? b = some o)
    (slot : ∀ b o, b ≠ X.env.locals → b ∈ X.fs → b ∉ ch → s.heap.get? b = some o → H b = none → ∃ sl, h'.get? b = some { o with slots := sl }) (free : ∀ b o, b ∉ ch → s.heap.get? b = some o → H b = none → H' b = none)
    (there : ∀ b o, b ∉ ch → s.heap.get? b = some o → ∃ o', h'.get? b = some o')
    (tups : ∀ b xs, H b = some (.tup xs) → H' b = some (.tup xs)) (frzs : ∀ b o u, H b = some (.frz o u) → H' b = some (.frz o u)) (tbls : ∀ b q, H b = some (.tbl q) → H' b = some (.tbl q))
    (ns : ∀ m, s.heap.Ns X.env.locals m → h'.Ns X.env.locals m) (hok : HOk X.prog X.w H' h') (hg : AllBare g') :
    Inv X pins σ H' { s with heap := h', gens := g', drawn := d', toks := t' } := by
  have neL : ∀ b o, X.s₀.heap.get? b = some o → b ≠ X.env.locals := fun b o e => Nat.ne_of_lt (Nat.lt_of_lt_of_le (Heap.lt_size e) I.ok.above)
  have neC : ∀ b o, X.s₀.heap.get? b = some o → b ∉ X.ex → b ∉ ch := fun b o e hx hb => by
    rcases (hch b hb).1 with z | z
    · exact hx z
    · exact absurd (Nat.lt_of_lt_of_le (Heap.lt_size e) z) (Nat.lt_irrefl _)
  have cellK : ∀ x c, X.env.cells.lookup x = some c → ∀ v, s.heap.IsCell c v → h'.IsCell c v := fun x c e v ⟨o, ho, hd⟩ => by
    have nch : c ∉ ch := fun z => (hch c z).2.2.1 x c e rfl
    rcases I.freeC x c e with fc | ⟨_, ob, u, fc⟩
    · by_cases hc : c ∈ X.fs
      · obtain ⟨sl, q⟩ := slot c o (I.cne x c e) hc nch ho fc
        exact ⟨_, q, hd⟩
      · exact ⟨o, keep c o (I.cne x c e) hc nch ho fc, hd⟩
    · obtain ⟨e1, _⟩ := I.hok c _ fc
      obtain ⟨e2, _⟩ := hok c _ (frzs c ob u fc)
      rw [e1] at ho; cases ho
      exact ⟨_, e2, hd⟩
  refine ⟨I.ok, I.os, hg, ⟨fun b o e n hb hx => ?_, fun b o e n hb hx => ?_, fun b o e n hx => ?_, fun b o e hx => ?_, fun b xs e => tups b xs (I.base.tups b xs e), fun b o xs e => frzs b o xs (I.base.frzs b o xs e), fun b ps e => ?_⟩, ?_, fun x c e => ?_, ?_, fun x c e => ?_, fun p hp => ?_, hok, I.len⟩
  · exact keep b o (neL b o e) hb (neC b o e hx) (I.base.keep b o e n hb hx) (I.base.free b o e n hx)
  · obtain ⟨sl, e1⟩ := I.base.slot b o e n hb hx
    obtain ⟨sl', e2⟩ := slot b _ (neL b o e) hb (neC b o e hx) e1 (I.base.free b o e n hx)
    exact ⟨sl', e2⟩
  · obtain ⟨o', e1⟩ := I.base.there b o e hx
    exact free b o' (neC b o e hx) e1 (I.base.free b o e n hx)
  · obtain ⟨o', e1⟩ := I.base.there b o e hx
    exact there b o' (neC b o e hx) e1
  · exact tbls b ps (I.base.tbls b ps e)
  · obtain ⟨m, hn, hl⟩ := I.loc
    refine ⟨m, ns m hn, fun i x v e1 e2 e3 => ?_⟩
    obtain ⟨u, r, l⟩ := hl i x v e1 e2 e3
    refine ⟨u, r, ?_⟩
    rcases l with l | ⟨k, c, e, z⟩
    · exact .inl l
    · exact .inr ⟨k, c, e, cellK x c e _ z⟩
  · obtain ⟨v, z⟩ := I.cell x c e
    exact ⟨v, cellK x c e v z⟩
  · obtain ⟨m, ⟨o, _, _, ho, _⟩, _⟩ := I.loc
    exact free _ o (fun z => (hch _ z).2.1 rfl) ho I.free
  · obtain ⟨v, o, ho, hd⟩ := I.cell x c e
    rcases I.freeC x c e with fc | ⟨f, ob, u, fc⟩
    · exact .inl (free c o (fun z => (hch c z).2.2.1 x c e rfl) ho fc)
    · exact .inr ⟨f, ob, u, frzs c ob u fc⟩
  · obtain ⟨e, n, ne, nf, d⟩ := I.pin p hp
    have nch : p.1 ∉ ch := fun z => (hch p.1 z).2.2.2 p hp rfl
    exact ⟨keep p.1 p.2 ne nf nch e n, free p.1 p.2 nch e n, ne, nf, d⟩
/-- .. where the frame's own object is kept too -/
theorem Inv.un {t' : Nat} (I : Inv X pins σ H s) (u : Un X.fs [] H H' s.heap h') (hok : HOk X.prog X.w H' h') : Inv X pins σ H' { s with heap := h', toks := t' } := by
  obtain ⟨m, ⟨o, es, ep, ho, r⟩, _⟩ := id I.loc
  obtain ⟨sl, hL⟩ := u.any ho I.free (by simp)
  exact I.step (g' := s.gens) (d' := s.drawn) (ch := []) (fun _ z => nomatch z) (fun b o _ hb _ e n => u.keep b o e n hb (by simp)) (fun b o _ hb _ e n => u.slot b o e n hb (by simp)) (fun b o _ e n => u.free b o e n (by simp)) (fun b o _ e => u.there b o e (by simp)) u.tups u.frzs u.tbls (fun m' hm => by
    obtain ⟨o', es', ep', ho', r'⟩ := hm
    rw [ho] at ho'; cases ho'
    exact ⟨_, es', ep', hL, r'⟩) hok I.bare
/-- behind a call (or a comprehension's block): the slots of this frame may have changed too, the records at ch may have turned -/
theorem Inv.call {g' : Array GenState} {t' : Nat} {d' : Drawn} {ch : List Addr} (I : Inv X pins σ H s) (u : Un (frs X.stack) ch H H' s.heap h') (hok : HOk X.prog X.w H' h') (hg : AllBare g')
    (hch : ∀ b ∈ ch, (b ∈ X.ex ∨ X.s₀.heap.objs.size ≤ b) ∧ b ≠ X.env.locals ∧ (∀ x c, X.env.cells.lookup x = some c → c ≠ b) ∧ ∀ p ∈ X.pn ++ pins, p.1 ≠ b) :
    Inv X pins σ H' { s with heap := h', gens := g', drawn := d', toks := t' } := by
  obtain ⟨m, ⟨o, es, ep, ho, r⟩, _⟩ := id I.loc
  obtain ⟨sl, hL⟩ := u.any ho I.free fun z => (hch _ z).2.1 rfl
  exact I.step (ch := ch) hch (fun b o hL hb hc e n => u.keep b o e n (fun z => (List.mem_cons.mp (I.stkSub b z)).elim hL hb) hc) (fun b o _ _ hc e n => u.any e n hc) (fun b o hc e n => u.free b o e n hc) (fun b o hc e => u.there b o e hc) u.tups u.frzs u.tbls (fun m' hm => by
    obtain ⟨o', es', ep', ho', r'⟩ := hm
    rw [ho] at ho'; cases ho'
    exact ⟨_, es', ep', hL, r'⟩) hok hg
/-- an untracked record of ours (an iterator) has turned -/
theorem Inv.turned {t' : Nat} {it : Addr} (I : Inv X pins σ H s) (k : ∀ b o, b ≠ it → s.heap.get? b = some o → h'.get? b = some o) (hn : H it = none) (hL : it ≠ X.env.locals)
    (h1 : it ∈ X.ex ∨ X.s₀.heap.objs.size ≤ it) (h2 : ∀ x c, X.env.cells.lookup x = some c → c ≠ it) (h3 : ∀ p ∈ X.pn ++ pins, p.1 ≠ it) : Inv X pins σ H { s with heap := h', toks := t' } := by
  have nit : ∀ b u, H b = some u → b ≠ it := fun b u e z => by rw [z, hn] at e; cases e
  refine I.step (g' := s.gens) (d' := s.drawn) (ch := [it]) (fun b hb => ?_) (fun b o _ _ hc e _ => k b o (fun z => hc (by simp [z])) e) (fun b o _ _ hc e _ => ⟨o.slots, k b o (fun z => hc (by simp [z])) e⟩) (fun _ _ _ _ n => n)
    (fun b o hc e => ⟨o, k b o (fun z => hc (by simp [z])) e⟩) (fun _ _ e => e) (fun _ _ _ e => e) (fun _ _ e => e) (fun m hm => ?_) (fun b u e => ?_) I.bare
  · have e : b = it := by simpa using hb
    subst e
    exact ⟨h1, hL, h2, h3⟩
  · obtain ⟨o, es, ep, ho, r⟩ := hm
    exact ⟨o, es, ep, k _ o (Ne.symm hL) ho, r⟩
  · refine (I.hok b u e).stay (fun c v hc q => k c v ?_ q) (fun _ q => q) (fun _ _ q => q) fun _ _ _ q => q
    rcases hc with z | z
    · rw [z]; exact nit b u e
    · exact nit c _ z
theorem Inv.tok (I : Inv X pins σ H s) (t : Nat) : Inv X pins σ H { s with toks := t } := I.un (h' := s.heap) (t' := t) Un.refl I.hok
/-- all objects kept -/
theorem Inv.kept {t' : Nat} (I : Inv X pins σ H s) (k : ∀ b u, s.heap.get? b = some u → h'.get? b = some u) : Inv X pins σ H { s with heap := h', toks := t' } := I.un (Un.kept k) (I.hok.kept k)
/-- a new object laid and tracked -/
theorem Inv.laid {a : Addr} {o : HO} {t' : Nat} (I : Inv X pins σ H s) (k : ∀ b u, s.heap.get? b = some u → h'.get? b = some u) (hp : s.heap.objs.size ≤ a) (new : ObjOk X.prog X.w (upd H a o) h' a o) :
    Inv X pins σ (upd H a o) { s with heap := h', toks := t' } := I.un (Un.laid k hp (I.hok.fresh hp)) (I.hok.laid k hp new)
/-- an object written -/
theorem Inv.write {x e : Addr} {o : HO} {t' : Nat} (I : Inv X pins σ H s) (mu : Mut (H x)) (he : e = x ∨ H e = some (.own x)) (k : ∀ b u, b ≠ e → s.heap.get? b = some u → h'.get? b = some u) (heo : ∃ u, h'.get? e = some u)
    (new : ObjOk X.prog X.w (upd H x o) h' x o) : Inv X pins σ (upd H x o) { s with heap := h', toks := t' } := I.un (Un.write mu he k heo) (I.hok.write mu he k heo new)
/-- forgetting slots, pins -/
theorem Inv.weak {σ' : List (Option V)} (I : Inv X pins σ H s) (hl : σ'.length = σ.length) (w : ∀ (i : Nat) v, σ'[i]? = some (some v) → σ[i]? = some (some v)) : Inv X pins σ' H s :=
  ⟨I.ok, I.os, I.bare, I.base, let ⟨m, hn, hl'⟩ := I.loc; ⟨m, hn, fun i x v e1 e2 e3 => hl' i x v e1 (w i v e2) e3⟩, I.cell, I.free, I.freeC, I.pin, I.hok, hl.trans I.len⟩
theorem Inv.pins_of {pins' : List (Addr × Obj)} (I : Inv X pins σ H s) (h : ∀ p ∈ pins', s.heap.get? p.1 = some p.2 ∧ H p.1 = none ∧ p.1 ≠ X.env.locals ∧ p.1 ∉ X.fs ∧ ∀ v, p.2.data ≠ .cell v) : Inv X pins' σ H s :=
  ⟨I.ok, I.os, I.bare, I.base, I.loc, I.cell, I.free, I.freeC, fun p hp => (List.mem_append.mp hp).elim (fun z => I.pin p (List.mem_append_left _ z)) (h p), I.hok, I.len⟩
theorem nodup_ix {N : List Str} (hN : N.Nodup) {i j : Nat} {x : Str} (a : N[i]? = some x) (b : N[j]? = some x) : i = j := by
  obtain ⟨h1, e1⟩ := List.getElem?_eq_some_iff.mp a
  obtain ⟨h2, e2⟩ := List.getElem?_eq_some_iff.mp b
  exact (List.getElem_inj hN).mp (e1.trans e2.symm)
/-- a name is stored; what changed -/
theorem store_ok2 {M : Model} {A : Around} {E : Value → Shared → Prop} {i : Nat} {x : Str} {v : V} {u : Value} {Q : Unit → Shared → Prop} (I : Inv X pins σ H s) (hN : X.N.Nodup) (hi : X.N[i]? = some x) (hx : Loc X.env.scope x) (r : RelV v u)
    (h : ∀ s', Inv X pins (σ.set i (some v)) H s' → (∃ a, Heap.SameBut a s.heap s'.heap ∧ (a = X.env.locals ∨ X.env.cells.lookup x = some a)) → Q () s') (hf : X.fn x = true ∨ X.env.scope.names.lookup x = some .local := by first | exact .inl rfl | exact .inr rfl | assumption) : wpAny M A (storeName X.env x u) Q E s := by
  obtain ⟨m, hn, hl⟩ := id I.loc
  have hcls : (X.env.scope.kind == .class || (X.env.scope.kind == .module && X.env.locals != X.env.globals)) = false := by rw [I.ok.kind]; rfl
  have hiσ : i < σ.length := by rw [I.len]; exact (List.getElem?_eq_some_iff.mp hi).1
  have cne := I.cne
  have tracked : ∀ {a : Addr} {h' : Heap}, (∃ o, s.heap.get? a = some o ∧ H a = none) → Heap.SameBut a s.heap h' → HOk X.prog X.w H h' := fun {a h'} ha hs b ob e => by
    obtain ⟨_, _, hfree⟩ := ha
    refine (I.hok b ob e).stay (fun c w' hc q => (hs.2 c ?_).trans q) (fun _ q => q) (fun _ _ q => q) fun _ _ _ q => q
    rintro rfl
    rcases hc with rfl | hc
    · rw [hfree] at e; cases e
    · rw [hfree] at hc; cases hc
  rcases hx with hk | hk
  · refine wpAny_storeName_local hk hn (fun h' hn' hs => ?_) hcls
    obtain ⟨oL, _, _, hoL, _⟩ := id hn
    refine h _ ⟨I.ok, I.os, I.bare, ⟨fun b o e n hb hx => ?_, fun b o e n hb hx => ?_, I.base.free, fun b o e hx => ?_, I.base.tups, I.base.frzs, I.base.tbls⟩, ⟨_, hn', fun j y v' e1 e2 e3 => ?_⟩, fun y c e => ?_, I.free, I.freeC, fun p hp => ?_, tracked ⟨oL, hoL, I.free⟩ hs, by simpa using I.len⟩ ⟨_, hs, .inl rfl⟩
    · exact (hs.2 b (Nat.ne_of_lt (Nat.lt_of_lt_of_le (Heap.lt_size e) I.ok.above))).trans (I.base.keep b o e n hb hx)
    · obtain ⟨sl, e1⟩ := I.base.slot b o e n hb hx
      exact ⟨sl, (hs.2 b (Nat.ne_of_lt (Nat.lt_of_lt_of_le (Heap.lt_size e) I.ok.above))).trans e1⟩
    · obtain ⟨o', e1⟩ := I.base.there b o e hx
      exact ⟨o', (hs.2 b (Nat.ne_of_lt (Nat.lt_of_lt_of_le (Heap.lt_size e) I.ok.above))).trans e1⟩
    · by_cases hj : j = i
      · subst hj
        rw [hi] at e1; cases e1
        rw [List.getElem?_set_self hiσ] at e2
        cases e2
        exact ⟨u, r, .inl ⟨hk, by simp⟩⟩
      · rw [List.getElem?_set_ne (Ne.symm hj)] at e2
        obtain ⟨u', r', q⟩ := hl j y v' e1 e2 e3
        refine ⟨u', r', ?_⟩
        rcases q with ⟨k, e⟩ | ⟨k, c, e, z⟩
        · refine .inl ⟨k, ?_⟩
          have : y ≠ x := fun e => hj (nodup_ix hN e1 (e ▸ hi))
          simp [this, e]
        · exact .inr ⟨k, c, e, z.sameBut hs (cne y c e)⟩
    · obtain ⟨w', z⟩ := I.cell y c e
      exact ⟨w', z.sameBut hs (cne y c e)⟩
    · obtain ⟨e, n, ne, nf, d⟩ := I.pin p hp
      exact ⟨(hs.2 p.1 ne).trans e, n, ne, nf, d⟩
  · have hfn : X.fn x = true := by
      rcases hf with z | z
      · exact z
      · rw [z] at hk; cases hk
    obtain ⟨c, hc⟩ := I.ok.has x (.inl hk)
    obtain ⟨w', z⟩ := I.cell x c hc
    refine wpAny_storeName_cell I.ok.kind hk hc z (fun h' hc' hs => ?_)
    obtain ⟨oc, hoc, hocd⟩ := id z
    have hcf : H c = none := by
      rcases I.freeC x c hc with q | ⟨q, _⟩
      · exact q
      · rw [hfn] at q; cases q
    refine h { s with heap := h' } ⟨I.ok, I.os, I.bare, ⟨fun b o e n hb hx => ?_, fun b o e n hb hx => ?_, I.base.free, fun b o e hx => ?_, I.base.tups, I.base.frzs, I.base.tbls⟩, ⟨m, hn.sameBut hs (Ne.symm (cne x c hc)), fun j y v' e1 e2 e3 => ?_⟩, fun y c' e => ?_, I.free, I.freeC, fun p hp => ?_, tracked ⟨oc, hoc, hcf⟩ hs, by simpa using I.len⟩ ⟨c, hs, .inr hc⟩
    · exact (hs.2 b (Nat.ne_of_lt (Nat.lt_of_lt_of_le (Heap.lt_size e) (I.ok.cab x c (I.ok.fc x hfn) hc)))).trans (I.base.keep b o e n hb hx)
    · obtain ⟨sl, e1⟩ := I.base.slot b o e n hb hx
      exact ⟨sl, (hs.2 b (Nat.ne_of_lt (Nat.lt_of_lt_of_le (Heap.lt_size e) (I.ok.cab x c (I.ok.fc x hfn) hc)))).trans e1⟩
    · obtain ⟨o', e1⟩ := I.base.there b o e hx
      exact ⟨o', (hs.2 b (Nat.ne_of_lt (Nat.lt_of_lt_of_le (Heap.lt_size e) (I.ok.cab x c (I.ok.fc x hfn) hc)))).trans e1⟩
    · by_cases hj : j = i
      · subst hj
        rw [hi] at e1; cases e1
        rw [List.getElem?_set_self hiσ] at e2
        cases e2
        exact ⟨u, r, .inr ⟨.inl hk, c, hc, hc'⟩⟩
      · rw [List.getElem?_set_ne (Ne.symm hj)] at e2
        obtain ⟨u', r', q⟩ := hl j y v' e1 e2 e3
        refine ⟨u', r', ?_⟩
        rcases q with q | ⟨k, c', e, z'⟩
        · exact .inl q
        · refine .inr ⟨k, c', e, z'.sameBut hs ?_⟩
          rintro rfl
          exact hj (nodup_ix hN e1 (I.ok.inj _ _ _ e hc ▸ hi))
    · by_cases hcc : c' = c
      · subst hcc; exact ⟨_, hc'⟩
      · obtain ⟨w2, z2⟩ := I.cell y c' e
        exact ⟨w2, z2.sameBut hs hcc⟩
    · obtain ⟨e, n, ne, nf, d⟩ := I.pin p hp
      refine ⟨(hs.2 p.1 ?_).trans e, n, ne, nf, d⟩
      intro q
      rw [q, hoc] at e
      have q' : oc = p.2 := Option.some.inj e
      exact d w' (by rw [← q']; exact hocd)
theorem store_ok {M : Model} {A : Around} {E : Value → Shared → Prop} {i : Nat} {x : Str} {v : V} {u : Value} {Q : Unit → Shared → Prop} (I : Inv X pins σ H s) (hN : X.N.Nodup) (hi : X.N[i]? = some x) (hx : Loc X.env.scope x) (r : RelV v u)
    (h : ∀ s', Inv X pins (σ.set i (some v)) H s' → Q () s') (hf : X.fn x = true ∨ X.env.scope.names.lookup x = some .local := by first | exact .inl rfl | exact .inr rfl | assumption) : wpAny M A (storeName X.env x u) Q E s :=
  store_ok2 I hN hi hx r (fun s' I' _ => h s' I') hf
end
/-! ### the judgements -/
/-- an exception: its class, its own dict's address (where it has one), the abstract heap behind it -/
abbrev XK := Value → Option Addr → Hp → Prop
abbrev St := List (Option V)
abbrev VK := V → Hp → Prop
/-- an expression's reading; a test's; an argument list's -/
abbrev TE := St → Hp → VK → Prop
abbrev TT := St → Hp → (Bool → Hp → Prop) → Prop
abbrev TA := St → Hp → (List V → Hp → Prop) → Prop
/-- what is wanted behind a statement -/
structure Ends where
  nx : St → Hp → Prop
  rt : VK
  bk : St → Hp → Prop := fun _ _ => False
  ct : St → Hp → Prop := fun _ _ => False
abbrev TS := Ends → St → Hp → Prop
/-- what is left of the state when the frame is gone -/
structure Fin (X : Cx) (H : Hp) (s : Shared) : Prop where
  os : s.os = X.s₀.os
  bare : AllBare s.gens
  base : Un X.fs X.ex X.H₀ H X.s₀.heap s.heap
  hok : HOk X.prog X.w H s.heap
theorem Inv.fin {X : Cx} {pins : List (Addr × Obj)} {σ : St} {H : Hp} {s : Shared} (I : Inv X pins σ H s) : Fin X H s := ⟨I.os, I.bare, I.base, I.hok⟩
def EP (X : Cx) (pins : List (Addr × Obj)) (σ : St) (Q : VK) (u : Value) (s' : Shared) : Prop := ∃ v H', Inv X pins σ H' s' ∧ RelV v u ∧ Q v H'
def TP (X : Cx) (pins : List (Addr × Obj)) (σ : St) (Q : Bool → Hp → Prop) (b : Bool) (s' : Shared) : Prop := ∃ H', Inv X pins σ H' s' ∧ Q b H'
def AP (X : Cx) (pins : List (Addr × Obj)) (σ : St) (Q : List V → Hp → Prop) (us : List Value) (s' : Shared) : Prop := ∃ vs H', Inv X pins σ H' s' ∧ Vals vs us ∧ Q vs H'
def SP (X : Cx) (pins : List (Addr × Obj)) (D : Ends) (f : Flow) (s' : Shared) : Prop :=
  match f with
  | .next => ∃ σ' H', Inv X pins σ' H' s' ∧ D.nx σ' H'
  | .brk => ∃ σ' H', Inv X pins σ' H' s' ∧ D.bk σ' H'
  | .cont => ∃ σ' H', Inv X pins σ' H' s' ∧ D.ct σ' H'
  | .ret u => ∃ v H', Fin X H' s' ∧ RelV v u ∧ D.rt v H'
def PE (X : Cx) (e : Expr) (t : TE) : Prop :=
  ∀ (pins : List (Addr × Obj)) (s : Shared) (σ : St) (H : Hp) (Q : VK), Inv X pins σ H s → t σ H Q → wpAny (model X.prog X.w) X.A (eval e X.env) (EP X pins σ Q) X.xe s
def PT (X : Cx) (e : Expr) (t : TT) : Prop :=
  ∀ (pins : List (Addr × Obj)) (s : Shared) (σ : St) (H : Hp) (Q : Bool → Hp → Prop), Inv X pins σ H s → t σ H Q → wpAny (model X.prog X.w) X.A (isTrue e X.env (eval e X.env)) (TP X pins σ Q) X.xe s
/-- a test whatever its 'whole' is (and, or) -/
def PW (X : Cx) (e : Expr) (t : TT) : Prop :=
  ∀ (whole : Sem Value) (pins : List (Addr × Obj)) (s : Shared) (σ : St) (H : Hp) (Q : Bool → Hp → Prop), Inv X pins σ H s → t σ H Q → wpAny (model X.prog X.w) X.A (isTrue e X.env whole) (TP X pins σ Q) X.xe s
theorem PW.pt {X : Cx} {e : Expr} {t : TT} (h : PW X e t) : PT X e t := h _
/-- an argument list (no star), from the left -/
def PA (X : Cx) (es : List Expr) (t : TA) : Prop :=
  ∀ (pos : Pos) (pins : List (Addr × Obj)) (s : Shared) (σ : St) (H : Hp) (Q : List V → Hp → Prop), Inv X pins σ H s → t σ H Q → wpAny (model X.prog X.w) X.A (spliced (backTo pos (starEach es X.env))) (AP X pins σ Q) X.xe s
def PS (X : Cx) (st : Stmt) (t : TS) : Prop :=
  ∀ (pins : List (Addr × Obj)) (s : Shared) (σ : St) (H : Hp) (D : Ends), Inv X pins σ H s → t D σ H → wpAny (model X.prog X.w) X.A (exec st X.env) (SP X pins D) X.xe s
def PSs (X : Cx) (st : List Stmt) (t : TS) : Prop :=
  ∀ (pins : List (Addr × Obj)) (s : Shared) (σ : St) (H : Hp) (D : Ends), Inv X pins σ H s → t D σ H → wpAny (model X.prog X.w) X.A (execs st X.env) (SP X pins D) X.xe s
/-- weaken the end -/
theorem thn {α : Type} {t : Sem α} {Q Q' : α → Shared → Prop} {M : Model} {A : Around} {E : Value → Shared → Prop} {s : Shared} (h : wpAny M A t Q E s) (hQ : ∀ a s, Q a s → Q' a s) : wpAny M A t Q' E s := wpAny_mono h hQ fun _ _ x => x
end L2
namespace L2
open PySem PySem.Spec PyProof.Rows
section
variable {X : Cx}
/-! ### names and constants -/
def tVar (i : Nat) : TE := fun σ H Q => ∃ v, σ[i]? = some (some v) ∧ Q v H
def tC (v : V) : TE := fun _ H Q => Q v H
theorem pe_var {i : Nat} {x : Str} {pos : Pos} (hN : X.N[i]? = some x) (hv : Vis X.env.scope x) (hd : (x == ("__debug__" : Str)) = false := by decide) (hcd : (x == ("__classdict__" : Str)) = false := by decide) : PE X (.Name x pos) (tVar i) := by
  intro pins s σ H Q I h
  obtain ⟨v, e, h⟩ := h
  obtain ⟨m, hn, hl⟩ := I.loc
  obtain ⟨u, r, l⟩ := hl i x v hN e hv
  have fin : EP X pins σ Q u s := ⟨v, H, I, r, h⟩
  rcases l with ⟨hk, hm⟩ | ⟨hk, c, hc, hcell⟩
  · exact wpAny_Name (wpAny_loadName_local I.ok.kind hk hn hm fin) hd
  · rcases hk with hk | hk
    · exact wpAny_Name (wpAny_loadName_cell I.ok.kind hk hc hcell fin) hd
    · exact wpAny_Name (wpAny_loadName_free I.ok.kind hk hc hcell fin hcd) hd
theorem pe_int {i j pos} : PE X (.Constant (.int i) j pos) (tC (.int i)) := fun _ _ _ H _ I h => wpAny_Constant_int ⟨.int i, H, I.tok _, ⟨_, rfl⟩, h⟩
theorem pe_bl {b j pos} : PE X (.Constant (.bool b) j pos) (tC (.bl b)) := fun _ _ _ H _ I h => Constant_bool ⟨.bl b, H, I, rfl, h⟩
theorem pe_str {x j pos} : PE X (.Constant (.str x) j pos) (tC (.str x)) := fun _ _ _ H _ I h => Calls.Constant_str ⟨.str x, H, I.tok _, ⟨_, rfl⟩, h⟩
/-- a global name of the def -/
def Gl (X : Cx) (x : Str) : Prop := X.env.kindOf x = some .globalImplicit
theorem ld_glob {E : Value → Shared → Prop} {pins : List (Addr × Obj)} {s : Shared} {σ : St} {H : Hp} {x : Str} {u : Value} {pos : Pos} {Q : Value → Shared → Prop} (I : Inv X pins σ H s) (hg : Gl X x) (hm : X.mg x = some u) (h : Q u s)
    (hd : (x == ("__debug__" : Str)) = false := by decide) : wpAny (model X.prog X.w) X.A (eval (.Name x pos) X.env) Q E s :=
  Calls.Name_function_global I.ok.kind hg (Calls.loadGlobal_global (by rw [I.ok.glob]; exact I.mod.glob.keeps I.bk) hm h) hd
theorem ld_blt {E : Value → Shared → Prop} {pins : List (Addr × Obj)} {s : Shared} {σ : St} {H : Hp} {x : Str} {u : Value} {pos : Pos} {Q : Value → Shared → Prop} (I : Inv X pins σ H s) (hg : Gl X x) (hm : X.mg x = none) (hv : bootBuiltins x = some u) (h : Q u s)
    (hn : x ≠ "__name__" := by decide) (hd : (x == ("__debug__" : Str)) = false := by decide) : wpAny (model X.prog X.w) X.A (eval (.Name x pos) X.env) Q E s := by
  obtain ⟨mb, h1, h2⟩ := I.mod.blt
  exact Calls.Name_function_global I.ok.kind hg (Calls.loadGlobal_builtin (by rw [I.ok.glob]; exact I.mod.glob.keeps I.bk) hm (by rw [I.ok.blt]; exact h1.keeps I.bk) ((h2 x hn).trans hv) h) hd
/-- a module's constant, a class, a function, as a value -/
theorem pe_glob {x : Str} {v : V} {u : Value} {pos : Pos} (hg : Gl X x) (hm : X.mg x = some u) (r : RelV v u) (hd : (x == ("__debug__" : Str)) = false := by decide) : PE X (.Name x pos) (tC v) :=
  fun _ _ _ H _ I h => ld_glob I hg hm ⟨v, H, I, r, h⟩ hd
theorem pe_bltn {x : Str} {v : V} {u : Value} {pos : Pos} (hg : Gl X x) (hm : X.mg x = none) (hv : bootBuiltins x = some u) (r : RelV v u) (hn : x ≠ "__name__" := by decide) (hd : (x == ("__debug__" : Str)) = false := by decide) : PE X (.Name x pos) (tC v) :=
  fun _ _ _ H _ I h => ld_blt I hg hm hv ⟨v, H, I, r, h⟩ hn hd
variable {a b : Expr} {ta tb : TE} {pos : Pos}
/-! ### comparisons -/
def PC (X : Cx) (op : CmpOp) (a b : Expr) (t : TE) : Prop :=
  ∀ (pins : List (Addr × Obj)) (s : Shared) (σ : St) (H : Hp) (Q : VK), Inv X pins σ H s → t σ H Q →
    wpAny (model X.prog X.w) X.A (eval a X.env) (fun v s₁ => wpAny (model X.prog X.w) X.A (eval b X.env) (fun u s₂ => wpAny (model X.prog X.w) X.A (compareOp op v u) (EP X pins σ Q) X.xe s₂) X.xe s₁) X.xe s
theorem nobehind (b : Expr) {op : CmpOp} (h : op ≠ .In) (h2 : op ≠ .NotIn) : behindInMarks op b = false := by
  have e1 : (op == CmpOp.In) = false := by cases op <;> first | rfl | exact absurd rfl h
  have e2 : (op == CmpOp.NotIn) = false := by cases op <;> first | rfl | exact absurd rfl h2
  cases b <;> simp [behindInMarks, e1, e2]
/-- a comparison as a value, as a test -/
def tB (t : TE) : TT := fun σ H Q => t σ H fun x H1 => ∃ c, x = .bl c ∧ Q c H1
theorem pt_cmp {op : CmpOp} {t : TE} (h : PC X op a b t) (h1 : behindInMarks op b = false := by first | exact nobehind _ (by decide) (by decide) | rfl) : PT X (.Compare a [op] [b] pos) (tB t) := by
  intro pins s σ H Q I hw
  refine wpAny_isTrue_Compare1 (thn (h pins s σ H _ I hw) fun v s1 h1 => thn h1 fun u s2 h2 => thn h2 fun c s3 ⟨x, H1, I1, r1, q1⟩ => ?_) h1
  obtain ⟨d, rfl, q⟩ := q1
  cases r1
  exact wpAny_truthy_bool ⟨H1, I1, q⟩
/-- an expression whose value is a bool, as a test -/
theorem pt_val {e : Expr} {t : TE} (h : PE X e t) (he : ∀ whole, isTrue e X.env whole = (do let v ← whole; standAt e.pos; holding [v] (truthy v)) := by intro _; rfl) : PT X e (tB t) := by
  intro pins s σ H Q I hw
  refine isTrue_plain (thn (h pins s σ H _ I hw) fun v s1 ⟨x, H1, I1, r1, q1⟩ => ?_) (he _)
  obtain ⟨d, rfl, q⟩ := q1
  cases r1
  exact wpAny_truthy_bool ⟨H1, I1, q⟩
/-! ### and, or, not -/
variable {tA tB' : TT} {rest : List Expr}
def tOr (t u : TT) : TT := fun σ H Q => t σ H fun c H1 => if c = true then Q true H1 else u σ H1 Q
def tNot (t : TT) : TT := fun σ H Q => t σ H fun c H1 => Q (!c) H1
theorem pw_or1 (ha : PT X a tA) : PW X (.BoolOp .Or [a] pos) tA := by
  intro wh pins s σ H Q I h
  refine isTrue_or (thn (ha pins s σ H Q I h) fun c s1 e => ?_)
  cases c with
  | false => exact isTrue_or_nil e
  | true => exact e
theorem pw_or (ha : PT X a tA) (hb : PW X (.BoolOp .Or (b :: rest) pos) tB') : PW X (.BoolOp .Or (a :: b :: rest) pos) (tOr tA tB') := by
  intro wh pins s σ H Q I h
  refine isTrue_or (thn (ha pins s σ H _ I h) fun c s1 ⟨H1, I1, q1⟩ => ?_)
  cases c with
  | true => exact ⟨H1, I1, q1⟩
  | false => exact hb wh pins s1 σ H1 Q I1 q1
theorem pt_not (ha : PT X a tA) : PT X (.UnaryOp .Not a pos) (tNot tA) := by
  intro pins s σ H Q I h
  exact isTrue_not (ha pins s σ H (fun c H1 => Q (!c) H1) I h)
/-- .. as values (bools) -/
def tAndV (ta tb : TE) : TE := fun σ H Q => ta σ H fun x H1 => ∃ c, x = .bl c ∧ if c = true then tb σ H1 Q else Q (.bl false) H1
def tNotV (ta : TE) : TE := fun σ H Q => ta σ H fun x H1 => ∃ c, x = .bl c ∧ Q (.bl (!c)) H1
theorem pe_one {op} {t : TE} (h : PE X a t) : PE X (.BoolOp op [a] pos) t := fun pins s σ H Q I hw => BoolOp_one (h pins s σ H Q I hw)
theorem pe_and (ha : PE X a ta) (hb : PE X (.BoolOp .And (b :: rest) pos) tb) : PE X (.BoolOp .And (a :: b :: rest) pos) (tAndV ta tb) := by
  intro pins s σ H Q I h
  refine BoolOp_and (thn (ha pins s σ H _ I h) fun v s1 ⟨x, H1, I1, r1, q1⟩ => ?_)
  obtain ⟨c, rfl, q1⟩ := q1
  cases r1
  refine wpAny_truthy_bool ?_
  cases c with
  | true => exact hb pins s1 σ H1 Q I1 q1
  | false => exact ⟨.bl false, H1, I1, rfl, q1⟩
theorem pe_not (ha : PE X a ta) : PE X (.UnaryOp .Not a pos) (tNotV ta) := by
  intro pins s σ H Q I h
  refine UnaryOp_ (thn (ha pins s σ H _ I h) fun v s1 ⟨x, H1, I1, r1, q1⟩ => ?_)
  obtain ⟨c, rfl, q1⟩ := q1
  cases r1
  exact not_of (wpAny_truthy_bool ⟨.bl (!c), H1, I1, rfl, q1⟩)
end
end L2
namespace L2
open PySem PySem.Spec PyProof.Rows
/-! ### a list, a tuple that is read: tracked, frozen, or an object of the module -/
def SqL (K : PySem.W.Frag) (H : Hp) (a : Addr) (xs : List V) : Prop :=
  Rd H a (.lst xs) ∨
    ∃ (o : Obj) (its : Array Value) (n : Nat), K.lookup a = some o ∧ o.cls = .type "list" ∧ o.dict = none ∧ o.data = .seq its n ∧ its.size ≤ sizeLine ∧ Vals xs its.toList
def SqT (K : PySem.W.Frag) (H : Hp) (a : Addr) (xs : List V) : Prop :=
  Rd H a (.tup xs) ∨
    ∃ (o : Obj) (its : Array Value) (n : Nat), K.lookup a = some o ∧ o.cls = .type "tuple" ∧ o.data = .seq its n ∧ its.size ≤ sizeLine ∧ Vals xs its.toList
def absV : Value → Option V
  | .none => some .non
  | .bool b => some (.bl b)
  | .int i _ => some (.int i)
  | .str x _ => some (.str x)
  | .bytes b _ => some (.byt b)
  | .float b _ => some (.flt b)
  | .ref a => some (.ref a)
  | .type n => some (.ty n)
  | _ => none
theorem RelV.abs {x : V} {u : Value} (r : RelV x u) : absV u = some x := by
  cases x with
  | non => cases r; rfl
  | bl _ => cases r; rfl
  | int _ => obtain ⟨t, rfl⟩ := r; rfl
  | str _ => obtain ⟨t, rfl⟩ := r; rfl
  | byt _ => obtain ⟨t, rfl⟩ := r; rfl
  | flt _ => obtain ⟨t, rfl⟩ := r; rfl
  | ref _ => cases r; rfl
  | ty _ => cases r; rfl
theorem RelV.inj {x y : V} {u : Value} (r : RelV x u) (q : RelV y u) : x = y := Option.some.inj (r.abs.symm.trans q.abs)
theorem Vals.inj : ∀ {xs ys : List V} {us : List Value}, Vals xs us → Vals ys us → xs = ys
  | _, _, _, .nil, .nil => rfl
  | _, _, _, .cons r t, .cons r' t' => by rw [r.inj r', Vals.inj t t']
section
variable {X : Cx} {pins : List (Addr × Obj)} {σ : St} {H : Hp} {s : Shared} {a : Addr} {xs ys : List V}
theorem SqL.of {K : PySem.W.Frag} (h : H a = some (.lst xs)) : SqL K H a xs := .inl (.inl h)
theorem SqT.of {K : PySem.W.Frag} (h : H a = some (.tup xs)) : SqT K H a xs := .inl (.inl h)
theorem Inv.list (I : Inv X pins σ H s) (h : SqL X.K H a xs) : ∃ its : List Value, Vals xs its ∧ PlainL s.heap a its.toArray ∧ xs.length ≤ sizeLine := by
  rcases h with h | ⟨o, its, n, hk, hc, hd, hs, hz, r⟩
  · obtain ⟨z, its, n, r, e⟩ := h.ok I.hok
    exact ⟨its, r, ⟨_, n, e, rfl, rfl, rfl⟩, z⟩
  · refine ⟨its.toList, r, ⟨o, n, I.kIn a o hk, hc, hd, by simpa using hs⟩, ?_⟩
    have e := r.length
    simp only [Array.length_toList] at e
    omega
theorem Inv.tuple (I : Inv X pins σ H s) (h : SqT X.K H a xs) : ∃ its : List Value, Vals xs its ∧ IsTup s.heap a its.toArray ∧ xs.length ≤ sizeLine := by
  rcases h with h | ⟨o, its, n, hk, hc, hs, hz, r⟩
  · obtain ⟨z, its, r, p⟩ := h.ok I.hok
    exact ⟨its, r, p, z⟩
  · refine ⟨its.toList, r, ⟨o, I.kIn a o hk, hc, n, by simpa using hs⟩, ?_⟩
    have e := r.length
    simp only [Array.length_toList] at e
    omega
theorem Inv.list_inj (I : Inv X pins σ H s) (h : SqL X.K H a xs) (h' : SqL X.K H a ys) : xs = ys := by
  obtain ⟨its, r, ⟨o, n, e, _, _, d⟩, _⟩ := I.list h
  obtain ⟨its', r', ⟨o', n', e', _, _, d'⟩, _⟩ := I.list h'
  rw [e] at e'; cases e'
  rw [d] at d'
  injection d' with d1 _
  have : its = its' := by simpa using congrArg Array.toList d1
  subst this
  exact r.inj r'
theorem Inv.tuple_inj (I : Inv X pins σ H s) (h : SqT X.K H a xs) (h' : SqT X.K H a ys) : xs = ys := by
  obtain ⟨its, r, ⟨o, e, _, n, d⟩, _⟩ := I.tuple h
  obtain ⟨its', r', ⟨o', e', _, n', d'⟩, _⟩ := I.tuple h'
  rw [e] at e'; cases e'
  rw [d] at d'
  injection d' with d1 _
  have : its = its' := by simpa using congrArg Array.toList d1
  subst this
  exact r.inj r'
end
/-! ### another wish about exceptions -/
abbrev Cx.wish (X : Cx) (E : Value → Shared → Prop) : Cx := { X with xe := E }
/-- no exception leaves -/
abbrev Cx.nox (X : Cx) : Cx := X.wish fun _ _ => False
theorem Cx.Ok.wish {X : Cx} (ok : X.Ok) (E : Value → Shared → Prop) : (X.wish E).Ok :=
  ⟨ok.mod, ok.kind, ok.glob, ok.blt, ok.above, ok.inj, ok.has, ok.cab, ok.hd, ok.frames, ok.stk, ok.exf, ok.bs, ok.bsz, ok.noex, ok.exfs, ok.funs, ok.frf, ok.tab, ok.fc⟩
theorem Cx.Ok.unwish {X : Cx} {E : Value → Shared → Prop} (ok : (X.wish E).Ok) : X.Ok :=
  ⟨ok.mod, ok.kind, ok.glob, ok.blt, ok.above, ok.inj, ok.has, ok.cab, ok.hd, ok.frames, ok.stk, ok.exf, ok.bs, ok.bsz, ok.noex, ok.exfs, ok.funs, ok.frf, ok.tab, ok.fc⟩
section
variable {X : Cx} {pins : List (Addr × Obj)} {σ : St} {H : Hp} {s : Shared} {E : Value → Shared → Prop}
theorem Inv.wish (I : Inv X pins σ H s) (E : Value → Shared → Prop) : Inv (X.wish E) pins σ H s := ⟨I.ok.wish E, I.os, I.bare, I.base, I.loc, I.cell, I.free, I.freeC, I.pin, I.hok, I.len⟩
theorem Inv.unwish (I : Inv (X.wish E) pins σ H s) : Inv X pins σ H s := ⟨I.ok.unwish, I.os, I.bare, I.base, I.loc, I.cell, I.free, I.freeC, I.pin, I.hok, I.len⟩
theorem SP.unwish {D : Ends} {f : Flow} {s' : Shared} (h : SP (X.wish E) pins D f s') : SP X pins D f s' := by
  cases f with
  | next => obtain ⟨σ', H', I, q⟩ := h; exact ⟨σ', H', I.unwish, q⟩
  | brk => obtain ⟨σ', H', I, q⟩ := h; exact ⟨σ', H', I.unwish, q⟩
  | cont => obtain ⟨σ', H', I, q⟩ := h; exact ⟨σ', H', I.unwish, q⟩
  | ret u => obtain ⟨v, H', I, r, q⟩ := h; exact ⟨v, H', ⟨I.os, I.bare, I.base, I.hok⟩, r, q⟩
theorem PE.nox {e : Expr} {t : TE} (h : PE X.nox e t) : PE X e t := fun pins s σ H Q I hw =>
  wpAny_mono (h pins s σ H Q (I.wish _) hw) (fun _ _ ⟨v, H', I', r, q⟩ => ⟨v, H', I'.unwish, r, q⟩) fun _ _ z => False.elim z
theorem PT.nox {e : Expr} {t : TT} (h : PT X.nox e t) : PT X e t := fun pins s σ H Q I hw =>
  wpAny_mono (h pins s σ H Q (I.wish _) hw) (fun _ _ ⟨H', I', q⟩ => ⟨H', I'.unwish, q⟩) fun _ _ z => False.elim z
theorem PSs.nox {st : List Stmt} {t : TS} (h : PSs X.nox st t) : PSs X st t := fun pins s σ H D I hw =>
  wpAny_mono (h pins s σ H D (I.wish _) hw) (fun _ _ q => q.unwish) fun _ _ z => False.elim z
end
/-! ### blocks and small statements -/
section
variable {X : Cx} {st : Stmt} {rest : List Stmt} {t u : TS} {e : Expr} {te : TE} {pos : Pos}
def tNext : TS := fun D σ H => D.nx σ H
def tSeq (t u : TS) : TS := fun D σ H => t { D with nx := u D } σ H
theorem pss_nil : PSs X [] tNext := fun _ _ σ H _ I h => wpAny_execs_nil ⟨σ, H, I, h⟩
theorem pss_cons (h1 : PS X st t) (h2 : PSs X rest u) : PSs X (st :: rest) (tSeq t u) := by
  intro pins s σ H D I h
  refine wpAny_execs_cons (thn (h1 pins s σ H { D with nx := u D } I h) fun f s1 q => ?_)
  cases f with
  | next =>
    obtain ⟨σ', H', I', q⟩ := q
    exact h2 pins s1 σ' H' D I' q
  | ret v => exact q
  | brk => exact q
  | cont => exact q
theorem pss_one (h1 : PS X st t) : PSs X [st] t := by
  intro pins s σ H D I h
  refine wpAny_execs_cons (thn (h1 pins s σ H D I h) fun f s1 q => ?_)
  cases f with
  | next => exact wpAny_execs_nil q
  | ret v => exact q
  | brk => exact q
  | cont => exact q
/-- in a def's body nothing is shown -/
theorem Inv.quiet {pins : List (Addr × Obj)} {σ : St} {H : Hp} {s : Shared} (I : Inv X pins σ H s) : interactive X.env = false := by simp [interactive, I.ok.kind]
/-- an expression whose value is dropped -/
def tDrop (te : TE) : TS := fun D σ H => te σ H fun _ H1 => D.nx σ H1
theorem ps_expr (he : PE X e te) (hs : swapsWith e none pos.line X.env = pure false := by rfl) : PS X (.Expr e pos) (tDrop te) := by
  intro pins s σ H D I h
  exact wpAny_Expr_any (thn (he pins s σ H _ I h) fun v s1 ⟨x, H1, I1, r1, q1⟩ => ⟨σ, H1, I1, q1⟩) I.quiet hs
def tRet (te : TE) : TS := fun D σ H => te σ H D.rt
theorem ps_ret (he : PE X e te) : PS X (.Return (some e) pos) (tRet te) := by
  intro pins s σ H D I h
  exact wpAny_Return_some (thn (he pins s σ H _ I h) fun v s1 ⟨x, H1, I1, r1, q1⟩ => ⟨x, H1, I1.fin, r1, q1⟩)
def tIfS (c : TT) (t u : TS) : TS := fun D σ H => c σ H fun b H1 => if b = true then t D σ H1 else u D σ H1
theorem ps_if {c : Expr} {a b : List Stmt} {tc : TT} (hc : PT X c tc) (ha : PSs X a t) (hb : PSs X b u) : PS X (.If c a b pos) (tIfS tc t u) := by
  intro pins s σ H D I h
  refine wpAny_If (thn (hc pins s σ H _ I h) fun d s1 ⟨H1, I1, q1⟩ => ?_)
  cases d with
  | true => exact ha pins s1 σ H1 D I1 q1
  | false => exact hb pins s1 σ H1 D I1 q1
end
/-! ### targets -/
abbrev TG := V → St → Hp → (St → Hp → Prop) → Prop
abbrev TGs := List V → St → Hp → (St → Hp → Prop) → Prop
def PG (X : Cx) (target : Expr) (t : TG) : Prop :=
  ∀ (pins : List (Addr × Obj)) (s : Shared) (σ : St) (H : Hp) (v : V) (u : Value) (Q : St → Hp → Prop), Inv X pins σ H s → RelV v u → t v σ H Q →
    wpAny (model X.prog X.w) X.A (assign target X.env u) (fun _ s' => ∃ σ' H', Inv X pins σ' H' s' ∧ Q σ' H') X.xe s
/-- several targets, one after another -/
def PGs (X : Cx) (ts : List Expr) (t : TGs) : Prop :=
  ∀ (pins : List (Addr × Obj)) (s : Shared) (σ : St) (H : Hp) (vs : List V) (us : List Value) (Q : St → Hp → Prop), Inv X pins σ H s → Vals vs us → t vs σ H Q →
    wpAny (model X.prog X.w) X.A (assignInOrder ((assignEach ts X.env).map (·.2)) us) (fun _ s' => ∃ σ' H', Inv X pins σ' H' s' ∧ Q σ' H') X.xe s
section
variable {X : Cx} {pos : Pos}
def gName (i : Nat) : TG := fun v σ H Q => Q (σ.set i (some v)) H
theorem pg_name {i : Nat} {x : Str} (hN : X.N.Nodup) (hi : X.N[i]? = some x) (hx : Loc X.env.scope x) (hf : X.fn x = true ∨ X.env.scope.names.lookup x = some .local := by first | exact .inl rfl | exact .inr rfl | assumption) : PG X (.Name x pos) (gName i) := by
  intro pins s σ H v u Q I r h
  exact wpAny_assign_Name (store_ok I hN hi hx r (fun s' I' => ⟨_, H, I', h⟩) hf)
def gNil : TGs := fun vs σ H Q => vs = [] ∧ Q σ H
def gCons (t : TG) (u : TGs) : TGs := fun vs σ H Q => ∃ v r, vs = v :: r ∧ t v σ H fun σ' H' => u r σ' H' Q
theorem pgs_nil : PGs X [] gNil := by
  intro pins s σ H vs us Q I r h
  obtain ⟨e, h⟩ := h
  subst e
  cases r
  exact assignInOrder_nil ⟨σ, H, I, h⟩
theorem pgs_cons {e : Expr} {es : List Expr} {t : TG} {u : TGs} (h1 : PG X e t) (h2 : PGs X es u)
    (hs : (assignEach (e :: es) X.env).map (·.2) = assign e X.env :: (assignEach es X.env).map (·.2) := by rfl) : PGs X (e :: es) (gCons t u) := by
  intro pins s σ H vs us Q I r h
  obtain ⟨v, vr, e1, h⟩ := h
  subst e1
  cases r with
  | cons r rr =>
    rw [hs]
    refine assignInOrder_cons (thn (h1 pins s σ H _ _ _ I r h) fun _ s1 ⟨σ1, H1, I1, q1⟩ => ?_)
    exact h2 pins s1 σ1 H1 _ _ Q I1 rr q1
/-- (a, b, ..) = a tuple of that length -/
def gTup (K : PySem.W.Frag) (n : Nat) (t : TGs) : TG := fun v σ H Q => ∃ a xs, v = .ref a ∧ SqT K H a xs ∧ xs.length = n ∧ t xs σ H Q
theorem pg_tup {es : List Expr} {k : Nat} {t : TGs} {n : Nat} (hc : X.calm = true) (h : PGs X es t)
    (hn : (assignEach es X.env).length = n := by rfl) (hst : (assignEach es X.env).findIdx? (·.1) = none := by rfl) : PG X (.Tuple es k pos) (gTup X.K n t) := by
  intro pins s σ H v u Q I r hw
  obtain ⟨a, xs, e1, hq, hl, hw⟩ := hw
  subst e1
  cases r
  obtain ⟨its, rv, ht, hz⟩ := I.tuple hq
  refine assign_Tuple_tuple (I.ok.hd hc) ht (by simp [hn, ← hl, rv.length]) hst fun h' hx => ?_
  have I1 : Inv X pins σ H { s with heap := h' } := I.kept (t' := s.toks) fun b o e => hx b o (Nat.ne_of_lt (Heap.lt_size e)) e
  exact h pins _ σ H xs _ Q I1 (by simpa using rv) hw
/-- target = value -/
def tAsg (te : TE) (g : TG) : TS := fun D σ H => te σ H fun x H1 => g x σ H1 D.nx
theorem ps_asg {tg e : Expr} {te : TE} {g : TG} (he : PE X e te) (hg : PG X tg g) (hs : swapsWithSole [tg] e pos.line X.env = pure false := by rfl) (hw : swappedStores [tg] e X.env = pure none := by rfl)
    (h1 : (assignEach [tg] X.env).map (·.2) = [assign tg X.env] := by rfl) : PS X (.Assign [tg] e pos) (tAsg te g) := by
  intro pins s σ H D I h
  refine wpAny_Assign_stores (thn (he pins s σ H _ I h) fun v s1 ⟨x, H1, I1, r1, q1⟩ => ?_) hs hw
  rw [h1]
  exact thn (hg pins s1 σ H1 x v _ I1 r1 q1) fun _ s2 q => q
/-- name = value -/
theorem ps_set {i : Nat} {x : Str} {e : Expr} {te : TE} {pos' : Pos} (hN : X.N.Nodup) (hi : X.N[i]? = some x) (hx : Loc X.env.scope x) (he : PE X e te) (hs : swapsWith e (some (.Name x pos')) pos.line X.env = pure false := by rfl) (hf : X.fn x = true ∨ X.env.scope.names.lookup x = some .local := by first | exact .inl rfl | exact .inr rfl | assumption) :
    PS X (.Assign [.Name x pos'] e pos) (tAsg te (gName i)) := by
  intro pins s σ H D I h
  refine wpAny_Assign_Name (thn (he pins s σ H _ I h) fun v s1 ⟨y, H1, I1, r1, q1⟩ => ?_) hs
  exact store_ok I1 hN hi hx r1 (fun s2 I2 => ⟨_, H1, I2, q1⟩) hf
end
/-! ### while -/
section
variable {X : Cx} {pos : Pos}
end
/-! ### what a loop or a comprehension walks -/
/-- at turn i: it yields x (the heap may grow), or it stops -/
structure It where
  go : Nat → Hp → Prop
  yld : Nat → Hp → V → Hp → Prop
  stop : Nat → Hp → Prop
/-- the iterator's own objects may turn: they are not the frame's, not pinned, younger than the entry (or a comprehension's own) -/
def FpOk (X : Cx) (pins : List (Addr × Obj)) (H : Hp) (b : Addr) : Prop :=
  H b = none ∧ b ≠ X.env.locals ∧ b ∉ X.fs ∧ (b ∈ X.ex ∨ X.s₀.heap.objs.size ≤ b) ∧ (∀ x c, X.env.cells.lookup x = some c → c ≠ b) ∧ ∀ p ∈ X.pn ++ pins, p.1 ≠ b
theorem Inv.fpOk {X : Cx} {pins : List (Addr × Obj)} {σ : St} {H H' : Hp} {s : Shared} {b : Addr} (I : Inv X pins σ H s) (hb : s.heap.objs.size ≤ b) (hn : H' b = none) : FpOk X pins H' b := by
  refine ⟨hn, Nat.ne_of_gt (Nat.lt_of_lt_of_le I.lt hb), I.nofs hb, .inr (Nat.le_trans I.sz hb), fun x c e z => ?_, fun p hp z => ?_⟩
  · obtain ⟨v, q⟩ := I.cell x c e
    exact absurd (Nat.lt_of_lt_of_le q.lt (by rw [z]; exact hb)) (Nat.lt_irrefl _)
  · exact absurd (Nat.lt_of_lt_of_le (Heap.lt_size (I.pin p hp).1) (by rw [z]; exact hb)) (Nat.lt_irrefl _)
structure Turn (P : Program) (w : World) (K : PySem.W.Frag) (tg : Expr) (J : It) (fp : List Addr) (it : Addr) (tn : Nat → Heap → Prop) : Prop where
  mem : it ∈ fp
  obj : ∀ i h, tn i h → ∀ b ∈ fp, ∃ o, h.get? b = some o ∧ ∀ v, o.data ≠ .cell v
  keep : ∀ i h h', tn i h → (∀ b ∈ fp, ∀ o, h.get? b = some o → h'.get? b = some o) → tn i h'
  item : ∀ (X : Cx), X.prog = P → X.w = w → X.K = K → X.calm = true → ∀ (i : Nat) (pins : List (Addr × Obj)) (s : Shared) (σ : St) (H : Hp) (E : Value → Shared → Prop), Inv X pins σ H s → (∀ b ∈ fp, FpOk X pins H b) → tn i s.heap → J.go i H →
    wpAny (model P w) X.A (pyNext (.ref it)) (fun r s1 => ∃ u, r = some u ∧
      wpAny (model P w) X.A (letOwnedTupleGo tg (.ref it) u) (fun _ s2 => ∃ x H', Inv X pins σ H' s2 ∧ RelV x u ∧ J.yld i H x H' ∧ tn (i + 1) s2.heap ∧ ∀ b ∈ fp, H' b = none) E s1) E s
  done : ∀ (X : Cx), X.prog = P → X.w = w → X.K = K → X.calm = true → ∀ (i : Nat) (pins : List (Addr × Obj)) (s : Shared) (σ : St) (H : Hp) (E : Value → Shared → Prop), Inv X pins σ H s → (∀ b ∈ fp, FpOk X pins H b) → tn i s.heap → J.stop i H →
    wpAny (model P w) X.A (pyNext (.ref it)) (fun r s1 => r = none ∧ Inv X pins σ H s1) E s
  self : ∀ (A : Around) (i : Nat) (s : Shared) (Q : Value → Shared → Prop) (E : Value → Shared → Prop), tn i s.heap → Q (.ref it) s → wpAny (model P w) A (pyIter (.ref it)) Q E s
abbrev TI := St → Hp → (It → Hp → Prop) → Prop
/-- an iterator has come -/
def PIE (X : Cx) (pins : List (Addr × Obj)) (σ : St) (tg : Expr) (R : It → Hp → Prop) (itv : Value) (s2 : Shared) : Prop :=
  ∃ (it : Addr) (fp : List Addr) (tn : Nat → Heap → Prop) (J : It) (H' : Hp), itv = .ref it ∧ Inv X pins σ H' s2 ∧ Turn X.prog X.w X.K tg J fp it tn ∧ tn 0 s2.heap ∧ (∀ b ∈ fp, FpOk X pins H' b) ∧ R J H'
def PI (X : Cx) (tg iter : Expr) (wi : TI) : Prop :=
  ∀ (pins : List (Addr × Obj)) (s : Shared) (σ : St) (H : Hp) (R : It → Hp → Prop), Inv X pins σ H s → wi σ H R →
    wpAny (model X.prog X.w) X.A (eval iter X.env) (fun v s1 => wpAny (model X.prog X.w) X.A (pyIter v) (PIE X pins σ tg R) X.xe s1) X.xe s
/-- the step ahead of the store is nothing for an iterator that keeps no tuple -/
theorem go_of {M : Model} {A : Around} {E : Value → Shared → Prop} {s : Shared} {tg : Expr} {it : Addr} {u : Value} {o : Obj} {n : String} {vs : Array Value} {Q : Unit → Shared → Prop} (ho : s.heap.get? it = some o) (hc : o.cls = .type n) (hd : o.data = .fields vs)
    (hn : ["enumerate", "zip", "dict_itemiterator", "dict_reverseitemiterator", "odict_iterator", "itertools.zip_longest", "itertools.pairwise"].contains n = false) (hQ : Q () s) : wpAny M A (letOwnedTupleGo tg (.ref it) u) Q E s := by
  unfold letOwnedTupleGo
  cases tg <;> first
    | exact wpAny_pure hQ
    | (cases u <;> first
        | exact wpAny_pure hQ
        | (refine wpAny_bind (wpAny_load ho ?_)
           rw [hc, hd]
           show wpAny M A (if (["enumerate", "zip", "dict_itemiterator", "dict_reverseitemiterator", "odict_iterator", "itertools.zip_longest", "itertools.pairwise"].contains n && vs[0]? == some (rawInt _)) = true then _ else _) Q E s
           rw [if_neg (by intro h; rw [hn, Bool.false_and] at h; cases h)]
           exact wpAny_pure hQ))
/-- the list at a, as it stands at each turn (a loop may append to it) -/
def Itl (K : PySem.W.Frag) (a : Addr) : It :=
  ⟨fun i H => ∃ xs x, SqL K H a xs ∧ xs[i]? = some x, fun i H x H' => H' = H ∧ ∀ xs, SqL K H a xs → xs[i]? = some x, fun i H => ∃ xs, SqL K H a xs ∧ xs.length ≤ i⟩
def Itt (K : PySem.W.Frag) (a : Addr) : It :=
  ⟨fun i H => ∃ xs x, SqT K H a xs ∧ xs[i]? = some x, fun i H x H' => H' = H ∧ ∀ xs, SqT K H a xs → xs[i]? = some x, fun i H => ∃ xs, SqT K H a xs ∧ xs.length ≤ i⟩
/-- lo, lo + 1, .. (n of them) -/
def Itr (lo : Int) (n : Nat) : It := ⟨fun i _ => i < n, fun i H x H' => H' = H ∧ x = .int (lo + i), fun i _ => n ≤ i⟩
theorem turn_list {P : Program} {w : World} {K : PySem.W.Frag} {tg : Expr} (a it : Addr) : Turn P w K tg (Itl K a) [it] it (fun i h => h.IsListIter it a i) where
  mem := by simp
  obj := fun i h st b hb => by
    have e : b = it := by simpa using hb
    subst e
    obtain ⟨o, e, c, d⟩ := st
    exact ⟨o, e, fun v z => by rw [d] at z; cases z⟩
  keep := fun i h h' st k => st.at fun o e => k it (by simp) o e
  item := by
    intro X hP hw hK hc i pins s σ H E I hf st hg
    subst hP hw hK
    obtain ⟨xs, x, hq, hx⟩ := hg
    obtain ⟨its, rv, p, hz⟩ := I.list hq
    obtain ⟨u, hu, ru⟩ := rv.get hx
    obtain ⟨f0, f1, f2, f3, f4, f5⟩ := hf it (by simp)
    refine wpAny_pyNext_list_item st p.isList (x := u) (by simpa using hu) fun h' st' sb => ?_
    have I1 : Inv X pins σ H { s with heap := h' } := I.turned (t' := s.toks) (fun b o hb e => (sb.2 b hb).trans e) f0 f1 f3 f4 f5
    obtain ⟨o, e, c, d⟩ := id st'
    exact ⟨u, rfl, go_of (s := { s with heap := h' }) e c d (by decide) ⟨x, H, I1, ru, ⟨rfl, fun ys hy => by rw [I.list_inj hy hq]; exact hx⟩, st', fun b hb => (hf b hb).1⟩⟩
  done := by
    intro X hP hw hK hc i pins s σ H E I hf st hg
    subst hP hw hK
    obtain ⟨xs, hq, hx⟩ := hg
    obtain ⟨its, rv, p, hz⟩ := I.list hq
    obtain ⟨f0, f1, f2, f3, f4, f5⟩ := hf it (by simp)
    have hl := rv.length
    exact wpAny_pyNext_list_end (I.ok.hd hc) st p.isList (by simp; omega) fun h' eb => ⟨rfl, I.turned (t' := s.toks) (fun b o hb e => eb b o hb e) f0 f1 f3 f4 f5⟩
  self := fun _ _ _ _ _ st h => wpAny_pyIter_listiter st h
theorem turn_tuple {P : Program} {w : World} {K : PySem.W.Frag} {tg : Expr} (a it : Addr) : Turn P w K tg (Itt K a) [it] it (fun i h => h.IsTupleIter it a i) where
  mem := by simp
  obj := fun i h st b hb => by
    have e : b = it := by simpa using hb
    subst e
    obtain ⟨o, e, c, d⟩ := st
    exact ⟨o, e, fun v z => by rw [d] at z; cases z⟩
  keep := fun i h h' st k => st.at fun o e => k it (by simp) o e
  item := by
    intro X hP hw hK hc i pins s σ H E I hf st hg
    subst hP hw hK
    obtain ⟨xs, x, hq, hx⟩ := hg
    obtain ⟨its, rv, p, hz⟩ := I.tuple hq
    obtain ⟨u, hu, ru⟩ := rv.get hx
    obtain ⟨f0, f1, f2, f3, f4, f5⟩ := hf it (by simp)
    refine wpAny_pyNext_tuple_item st (show s.heap.IsTuple a its.toArray from p) (x := u) (by simpa using hu) fun h' st' sb => ?_
    have I1 : Inv X pins σ H { s with heap := h' } := I.turned (t' := s.toks) (fun b o hb e => (sb.2 b hb).trans e) f0 f1 f3 f4 f5
    obtain ⟨o, e, c, d⟩ := id st'
    exact ⟨u, rfl, go_of (s := { s with heap := h' }) e c d (by decide) ⟨x, H, I1, ru, ⟨rfl, fun ys hy => by rw [I.tuple_inj hy hq]; exact hx⟩, st', fun b hb => (hf b hb).1⟩⟩
  done := by
    intro X hP hw hK hc i pins s σ H E I hf st hg
    subst hP hw hK
    obtain ⟨xs, hq, hx⟩ := hg
    obtain ⟨its, rv, p, hz⟩ := I.tuple hq
    obtain ⟨f0, f1, f2, f3, f4, f5⟩ := hf it (by simp)
    have hl := rv.length
    exact wpAny_pyNext_tuple_end (I.ok.hd hc) st (show s.heap.IsTuple a its.toArray from p) (by simp; omega) fun h' eb => ⟨rfl, I.turned (t' := s.toks) (fun b o hb e => eb b o hb e) f0 f1 f3 f4 f5⟩
  self := fun _ _ _ _ _ st h => wpAny_pyIter_tupleiter st h
theorem turn_range {P : Program} {w : World} {K : PySem.W.Frag} {tg : Expr} (it : Addr) (lo : Int) (n : Nat) : Turn P w K tg (Itr lo n) [it] it (fun i h => IsRangeIter h it (lo + (i : Nat) * 1) ((n : Int) - (i : Nat)) 1) where
  mem := by simp
  obj := fun i h st b hb => by
    have e : b = it := by simpa using hb
    subst e
    exact ⟨_, st, fun v z => by
      have z' : Data.fields _ = Data.cell v := z
      cases z'⟩
  keep := fun i h h' st k => k it (by simp) _ st
  item := by
    intro X hP hw hK hc i pins s σ H E I hf st hg
    subst hP hw hK
    obtain ⟨f0, f1, f2, f3, f4, f5⟩ := hf it (by simp)
    have W := Walks.range (prog := X.prog) (w := X.w) (I.ok.hd hc) it lo 1 n
    refine W.item i s _ _ hg st fun v h' tk hv st' kk => ?_
    obtain ⟨t, rfl⟩ := hv
    have I1 : Inv X pins σ H { s with heap := h', toks := tk } := I.turned (fun b o hb e => kk b o (by simpa using hb) e) f0 f1 f3 f4 f5
    refine ⟨_, rfl, go_of (s := { s with heap := h', toks := tk }) (n := "range_iterator") st' rfl rfl (by decide) ⟨.int (lo + i), H, I1, ⟨t, ?_⟩, ⟨rfl, rfl⟩, st', fun b hb => (hf b hb).1⟩⟩
    rw [Int.mul_one]
  done := by
    intro X hP hw hK hc i pins s σ H E I hf st hg
    subst hP hw hK
    obtain ⟨f0, f1, f2, f3, f4, f5⟩ := hf it (by simp)
    exact wpAny_pyNext_range_end (I.ok.hd hc) st (by have : n ≤ i := hg; omega) fun h' eb => ⟨rfl, I.turned (t' := s.toks) (fun b o hb e => eb b o hb e) f0 f1 f3 f4 f5⟩
  self := fun _ _ _ _ _ st h => wpAny_pyIter_rangeiter st h
end L2
namespace L2
open PySem PySem.Spec PyProof.Rows
section
variable {X : Cx} {tg : Expr}
def iList (K : PySem.W.Frag) (tl : TE) : TI := fun σ H R => tl σ H fun x H1 => ∃ a, x = .ref a ∧ (∃ xs, SqL K H1 a xs) ∧ R (Itl K a) H1
def iTup (K : PySem.W.Frag) (tl : TE) : TI := fun σ H R => tl σ H fun x H1 => ∃ a, x = .ref a ∧ (∃ xs, SqT K H1 a xs) ∧ R (Itt K a) H1
theorem pi_list {l : Expr} {tl : TE} (hl : PE X l tl) : PI X tg l (iList X.K tl) := by
  intro pins s σ H R I h
  refine thn (hl pins s σ H _ I h) fun v s1 ⟨x, H1, I1, r1, q1⟩ => ?_
  obtain ⟨a, e, ⟨xs, hq⟩, q⟩ := q1
  subst e
  cases r1
  obtain ⟨its, rv, p, hz⟩ := I1.list hq
  refine wpAny_pyIter_list p.isList ?_
  refine ⟨s1.heap.objs.size, [s1.heap.objs.size], _, _, H1, rfl, I1.kept (t' := s1.toks) fun b o e => Heap.get?_push_of_some _ e, turn_list a _, ⟨_, Heap.get?_push_size _ rfl, rfl, rfl⟩, fun b hb => ?_, q⟩
  have e : b = s1.heap.objs.size := by simpa using hb
  subst e
  exact I1.fpOk (Nat.le_refl _) (I1.hok.fresh (Nat.le_refl _))
theorem pi_tup {l : Expr} {tl : TE} (hl : PE X l tl) : PI X tg l (iTup X.K tl) := by
  intro pins s σ H R I h
  refine thn (hl pins s σ H _ I h) fun v s1 ⟨x, H1, I1, r1, q1⟩ => ?_
  obtain ⟨a, e, ⟨xs, hq⟩, q⟩ := q1
  subst e
  cases r1
  obtain ⟨its, rv, p, hz⟩ := I1.tuple hq
  refine wpAny_pyIter_tuple (show s1.heap.IsTuple a its.toArray from p) ?_
  refine ⟨s1.heap.objs.size, [s1.heap.objs.size], _, _, H1, rfl, I1.kept (t' := s1.toks) fun b o e => Heap.get?_push_of_some _ e, turn_tuple a _, ⟨_, Heap.get?_push_size _ rfl, rfl, rfl⟩, fun b hb => ?_, q⟩
  have e : b = s1.heap.objs.size := by simpa using hb
  subst e
  exact I1.fpOk (Nat.le_refl _) (I1.hok.fresh (Nat.le_refl _))
/-- a range object just made, walked -/
theorem range_it {pins : List (Addr × Obj)} {σ : St} {H : Hp} {s : Shared} {R : It → Hp → Prop} {E : Value → Shared → Prop} {lo hi : Int} {t u v : Tok} {tk : Nat} (I : Inv X pins σ H s) (h1 : -(2 ^ 62) ≤ lo) (h2 : lo < 2 ^ 62) (h3 : -(2 ^ 62) ≤ hi) (h4 : hi < 2 ^ 62)
    (q : R (Itr lo (hi - lo).toNat) H) : wpAny (model X.prog X.w) X.A (pyIter (.ref s.heap.objs.size)) (PIE X pins σ tg R) E { s with heap := s.heap.push { cls := .type "range", data := .fields #[.int lo t, .int hi u, .int 1 v] }, toks := tk } := by
  refine wpAny_pyIter_range (IsRange.new ..) (small_one h1 h2 h3 h4) ?_
  have I1 : Inv X pins σ H { s with heap := s.heap.push { cls := .type "range", data := .fields #[.int lo t, .int hi u, .int 1 v] }, toks := tk } := I.kept fun b o e => Heap.get?_push_of_some _ e
  refine ⟨(s.heap.push { cls := .type "range", data := .fields #[.int lo t, .int hi u, .int 1 v] }).objs.size, [(s.heap.push { cls := .type "range", data := .fields #[.int lo t, .int hi u, .int 1 v] }).objs.size], _, _, H, rfl,
    I1.kept (t' := tk) fun b o e => Heap.get?_push_of_some _ e, turn_range _ lo (hi - lo).toNat, ?_, fun b hb => ?_, q⟩
  · have e1 : lo + ((0 : Nat) : Int) * 1 = lo := by simp
    have e2 : (((hi - lo).toNat : Nat) : Int) - ((0 : Nat) : Int) = Builtin.Range.rangeSize lo hi 1 := by rw [rangeSize_one]; split <;> omega
    show IsRangeIter _ _ (lo + ((0 : Nat) : Int) * 1) ((((hi - lo).toNat : Nat) : Int) - ((0 : Nat) : Int)) 1
    rw [e1, e2]
    exact Heap.get?_push_size _ rfl
  · have e : b = (s.heap.push { cls := .type "range", data := .fields #[.int lo t, .int hi u, .int 1 v] }).objs.size := by simpa using hb
    subst e
    exact I1.fpOk (Nat.le_refl _) (I1.hok.fresh (Nat.le_refl _))
def iRng1 (ta : TA) : TI := fun σ H R => ta σ H fun vs H1 => ∃ j : Int, vs = [.int j] ∧ -(2 ^ 62) ≤ j ∧ j < 2 ^ 62 ∧ R (Itr 0 j.toNat) H1
def iRng2 (ta : TA) : TI := fun σ H R => ta σ H fun vs H1 => ∃ i j : Int, vs = [.int i, .int j] ∧ (-(2 ^ 62) ≤ i ∧ i < 2 ^ 62 ∧ -(2 ^ 62) ≤ j ∧ j < 2 ^ 62) ∧ R (Itr i (j - i).toNat) H1
theorem pi_range1 {a : Expr} {ta : TA} {p pos : Pos} (hg : Gl X "range") (hm : X.mg "range" = none) (ha : PA X [a] ta) (hs : starEach [a] X.env = [(false, eval a X.env)] := by rfl) : PI X tg (.Call (.Name "range" p) [a] [] pos) (iRng1 ta) := by
  intro pins s σ H R I h
  refine Call_ (ld_blt I hg hm boot_range (PyProof.Rows.callWith_type1 (thn (ha pos pins s σ H _ I h) fun us s1 ⟨vs, H1, I1, r1, q1⟩ => ?_) hs rfl))
  obtain ⟨j, e, q1, q2, q⟩ := q1
  subst e
  cases r1 with
  | cons r rr =>
    cases rr
    obtain ⟨t, rfl⟩ := r
    exact call_range_1 (range_it I1 (by omega) (by omega) q1 q2 (by simpa using q))
theorem pi_range2 {a b : Expr} {ta : TA} {p pos : Pos} (hg : Gl X "range") (hm : X.mg "range" = none) (ha : PA X [a, b] ta) (hs : starEach [a, b] X.env = [(false, eval a X.env), (false, eval b X.env)] := by rfl) (hs2 : starEach [b] X.env = [(false, eval b X.env)] := by rfl) :
    PI X tg (.Call (.Name "range" p) [a, b] [] pos) (iRng2 ta) := by
  intro pins s σ H R I h
  refine Call_ (ld_blt I hg hm boot_range (PyProof.Rows.callWith_type1 (thn (ha pos pins s σ H _ I h) fun us s1 ⟨vs, H1, I1, r1, q1⟩ => ?_) (by rw [hs, hs2]) (by rw [hs2]; rfl)))
  obtain ⟨i, j, e, ⟨q1, q2, q3, q4⟩, q⟩ := q1
  subst e
  cases r1 with
  | cons r rr =>
    cases rr with
    | cons r' rr =>
      cases rr
      obtain ⟨t, rfl⟩ := r
      obtain ⟨t', rfl⟩ := r'
      exact call_range_2 (range_it I1 q1 q2 q3 q4 q)
/-! ### for -/
/-- W: the invariant by the turn and a measure; N: what the body is to reach -/
def tFor (wi : TI) (g : TG) (tb : TS) : TS := fun D σ H => wi σ H fun J H1 => ∃ W : Nat → Nat → St → Hp → Prop, (∃ m, W 0 m σ H1) ∧ ∀ i m σ H, W i m σ H →
  (J.stop i H ∧ D.nx σ H) ∨ (J.go i H ∧ ∃ N : St → Hp → Prop, (∀ σ' H', N σ' H' → ∃ m', m' < m ∧ W (i + 1) m' σ' H') ∧ ∀ x H', J.yld i H x H' → g x σ H' fun σ2 H2 => tb { D with nx := N, ct := N, bk := D.nx } σ2 H2)
/-- the records at fp as they stand -/
def pinsAt (fp : List Addr) (h : Heap) : List (Addr × Obj) := fp.filterMap fun b => (h.get? b).map fun o => (b, o)
theorem mem_pinsAt {fp : List Addr} {h : Heap} {b : Addr} {o : Obj} (hb : b ∈ fp) (e : h.get? b = some o) : (b, o) ∈ pinsAt fp h := List.mem_filterMap.mpr ⟨b, hb, by rw [e]; rfl⟩
theorem of_pinsAt {fp : List Addr} {h : Heap} {p : Addr × Obj} (hp : p ∈ pinsAt fp h) : p.1 ∈ fp ∧ h.get? p.1 = some p.2 := by
  obtain ⟨b, hb, e⟩ := List.mem_filterMap.mp hp
  cases q : h.get? b with
  | none => rw [q] at e; cases e
  | some o =>
    rw [q] at e
    have e' : (b, o) = p := Option.some.inj e
    subst e'
    exact ⟨hb, q⟩
theorem Inv.pinned {pins : List (Addr × Obj)} {σ : St} {H : Hp} {s : Shared} {fp : List Addr} (I : Inv X pins σ H s) (hf : ∀ b ∈ fp, FpOk X pins H b) (ho : ∀ b ∈ fp, ∃ o, s.heap.get? b = some o ∧ ∀ v, o.data ≠ .cell v) : Inv X (pins ++ pinsAt fp s.heap) σ H s :=
  I.pins_of fun p hp => (List.mem_append.mp hp).elim (fun z => I.pin p (List.mem_append_right _ z)) fun z => by
    obtain ⟨hb, e⟩ := of_pinsAt z
    obtain ⟨f0, f1, f2, _⟩ := hf p.1 hb
    obtain ⟨o, e', d⟩ := ho p.1 hb
    rw [e] at e'; cases e'
    exact ⟨e, f0, f1, f2, d⟩
theorem Inv.unpinned {pins pl : List (Addr × Obj)} {σ : St} {H : Hp} {s : Shared} (I : Inv X (pins ++ pl) σ H s) : Inv X pins σ H s := I.pins_of fun p hp => I.pin p (List.mem_append_right _ (List.mem_append_left _ hp))
theorem ps_for {iter : Expr} {body : List Stmt} {wi : TI} {g : TG} {tb : TS} {pos : Pos} (hp : PassesOwn (model X.prog X.w) X.A X.env X.xe) (hc : X.calm = true) (hi : PI X tg iter wi) (hg : PG X tg g) (hb : PSs X body tb)
    (hs : ∀ x, foldedSetIterable iter X.env x = pure x := by intro _; rfl) : PS X (.For tg iter body [] pos) (tFor wi g tb) := by
  intro pins s σ H D I h
  refine wpAny_For (thn (hi pins s σ H _ I h) fun v s1 h1 => thn h1 fun itv s2 h2 => ?_) hs
  obtain ⟨it, fp, tn, J, H2, e, I2, T, st2, f2, W, ⟨m0, w0⟩, turn⟩ := h2
  subst e
  -- what stays true of the iterator's objects through the loop
  have stat : ∀ {H' : Hp}, (∀ b ∈ fp, H' b = none) → ∀ b ∈ fp, FpOk X pins H' b := fun hn b hb => ⟨hn b hb, (f2 b hb).2⟩
  refine codeAny_forLoop_any (fun n s' => ∃ i σ' H', Inv X pins σ' H' s' ∧ tn i s'.heap ∧ (∀ b ∈ fp, H' b = none) ∧ W i n σ' H') ?_ m0 ⟨0, σ, H2, I2, st2, fun b hb => (f2 b hb).1, w0⟩
  rintro n s3 ⟨i, σ3, H3, I3, st3, fr3, w3⟩
  rcases turn i n σ3 H3 w3 with ⟨stop, qn⟩ | ⟨go, N, hN, step⟩
  · refine wpAny_passesOwn hp (thn (T.done X rfl rfl rfl hc i pins s3 σ3 H3 X.xe I3 (stat fr3) st3 stop) fun r s4 ⟨hr, I4⟩ => ?_)
    subst hr
    exact wpAny_execs_nil ⟨σ3, H3, I4, qn⟩
  · refine wpAny_passesOwn hp (thn (T.item X rfl rfl rfl hc i pins s3 σ3 H3 X.xe I3 (stat fr3) st3 go) fun r s4 ⟨u, hr, h4⟩ => ?_)
    subst hr
    refine wpAny_passesOwn hp (thn h4 fun _ s5 ⟨x, H5, I5, r5, y5, st5, fr5⟩ => ?_)
    have I5' := I5.pinned (stat fr5) (T.obj _ _ st5)
    refine wpAny_passesOwn hp (thn (hg _ s5 σ3 H5 x u _ I5' r5 (step x H5 y5)) fun _ s6 ⟨σ6, H6, I6, q6⟩ => ?_)
    refine wpAny_passesOwn hp (thn (hb _ s6 σ6 H6 _ I6 q6) fun f s7 q7 => ?_)
    have again : ∀ {σ7 : St} {H7 : Hp}, Inv X (pins ++ pinsAt fp s5.heap) σ7 H7 s7 → N σ7 H7 → ∃ m, m < n ∧ ∃ i σ' H', Inv X pins σ' H' s7 ∧ tn i s7.heap ∧ (∀ b ∈ fp, H' b = none) ∧ W i m σ' H' := fun {σ7 H7} I7 n7 => by
      obtain ⟨m', hm, w7⟩ := hN σ7 H7 n7
      refine ⟨m', hm, i + 1, σ7, H7, I7.unpinned, T.keep _ _ _ st5 fun b hb o e => (I7.pin (b, o) (List.mem_append_right _ (List.mem_append_right _ (mem_pinsAt hb e)))).1, fun b hb => ?_, w7⟩
      obtain ⟨o, e, d⟩ := T.obj _ _ st5 b hb
      exact (I7.pin (b, o) (List.mem_append_right _ (List.mem_append_right _ (mem_pinsAt hb e)))).2.1
    cases f with
    | next => obtain ⟨σ7, H7, I7, n7⟩ := q7; exact again I7 n7
    | cont => obtain ⟨σ7, H7, I7, n7⟩ := q7; exact again I7 n7
    | brk => obtain ⟨σ7, H7, I7, q7⟩ := q7; exact ⟨σ7, H7, I7.unpinned, q7⟩
    | ret v => exact q7
end
end L2
namespace L2
open PySem PySem.Spec PyProof.Rows
abbrev R2 := V → V → Hp → VK → Prop
/-- a two-place operation on values: f is binaryOp op, inplaceOp op or compareOp op -/
def OpR (X : Cx) (f : Value → Value → Sem Value) (r : R2) : Prop :=
  ∀ (pins : List (Addr × Obj)) (s : Shared) (σ : St) (H : Hp) (x y : V) (v u : Value) (Q : VK), Inv X pins σ H s → RelV x v → RelV y u → r x y H Q →
    wpAny (model X.prog X.w) X.A (f v u) (EP X pins σ Q) X.xe s
/-- a call of a value that is known (a builtin, a type) with values -/
def CallR (X : Cx) (f : Value) (r : List V → Hp → VK → Prop) : Prop :=
  ∀ (pins : List (Addr × Obj)) (s : Shared) (σ : St) (H : Hp) (xs : List V) (us : List Value) (Q : VK), Inv X pins σ H s → Vals xs us → r xs H Q →
    wpAny (model X.prog X.w) X.A (call f us) (EP X pins σ Q) X.xe s
def tOp (r : R2) (ta tb : TE) : TE := fun σ H Q => ta σ H fun x H1 => tb σ H1 fun y H2 => r x y H2 Q
/-- ints in, under C, and a value out -/
def rI (C : Int → Int → Prop) (g : Int → Int → V) : R2 := fun x y H Q => ∃ i j, x = .int i ∧ y = .int j ∧ C i j ∧ Q (g i j) H
def rI0 (g : Int → Int → V) : R2 := fun x y H Q => ∃ i j, x = .int i ∧ y = .int j ∧ Q (g i j) H
section
variable {X : Cx} {a b c : Expr} {ta tb tc : TE} {pos : Pos}
theorem binT (ha : PE X a ta) (hb : PE X b tb) {pins : List (Addr × Obj)} {s : Shared} {σ : St} {H : Hp} {R : V → V → Hp → Prop} (I : Inv X pins σ H s)
    (h : ta σ H fun x H1 => tb σ H1 fun y H2 => R x y H2) {Q : Value → Shared → Prop} {f : Value → Value → Sem Value}
    (hf : ∀ v u s2 x y H2, Inv X pins σ H2 s2 → RelV x v → RelV y u → R x y H2 → wpAny (model X.prog X.w) X.A (f v u) Q X.xe s2) :
    wpAny (model X.prog X.w) X.A (eval a X.env) (fun v s₁ => wpAny (model X.prog X.w) X.A (eval b X.env) (fun u s₂ => wpAny (model X.prog X.w) X.A (f v u) Q X.xe s₂) X.xe s₁) X.xe s := by
  refine thn (ha pins s σ H _ I h) fun v s1 ⟨x, H1, I1, r1, q1⟩ => ?_
  refine thn (hb pins s1 σ H1 _ I1 q1) fun u s2 ⟨y, H2, I2, r2, q2⟩ => ?_
  exact hf v u s2 x y H2 I2 r1 r2 q2
theorem pe_op {op : Operator} {r : R2} (ho : OpR X (binaryOp op) r) (ha : PE X a ta) (hb : PE X b tb) : PE X (.BinOp a op b pos) (tOp r ta tb) := by
  intro pins s σ H Q I h
  exact wpAny_BinOp (binT ha hb I h fun v u s2 x y H2 I2 rx ry q => ho pins s2 σ H2 x y v u Q I2 rx ry q)
/-! ### ints -/
theorem opI {f : Value → Value → Sem Value} {C : Int → Int → Prop} {g : Int → Int → Int}
    (rule : ∀ (i j : Int) (t u : Tok) (s : Shared) (Q : Value → Shared → Prop) (E : Value → Shared → Prop), C i j → Q (.int (g i j) s.toks) { s with toks := s.toks + 1 } → wpAny (model X.prog X.w) X.A (f (.int i t) (.int j u)) Q E s) :
    OpR X f (rI C fun i j => .int (g i j)) := by
  intro pins s σ H x y v u Q I rx ry h
  obtain ⟨i, j, rfl, rfl, hc, q⟩ := h
  obtain ⟨t, rfl⟩ := rx
  obtain ⟨t', rfl⟩ := ry
  exact rule i j t t' s _ _ hc ⟨.int (g i j), H, I.tok _, ⟨_, rfl⟩, q⟩
theorem opI0 {f : Value → Value → Sem Value} {g : Int → Int → Int}
    (rule : ∀ (i j : Int) (t u : Tok) (s : Shared) (Q : Value → Shared → Prop) (E : Value → Shared → Prop), Q (.int (g i j) s.toks) { s with toks := s.toks + 1 } → wpAny (model X.prog X.w) X.A (f (.int i t) (.int j u)) Q E s) :
    OpR X f (rI0 fun i j => .int (g i j)) := by
  intro pins s σ H x y v u Q I rx ry h
  obtain ⟨i, j, rfl, rfl, q⟩ := h
  obtain ⟨t, rfl⟩ := rx
  obtain ⟨t', rfl⟩ := ry
  exact rule i j t t' s _ _ ⟨.int (g i j), H, I.tok _, ⟨_, rfl⟩, q⟩
theorem opB0 {f : Value → Value → Sem Value} {g : Int → Int → Bool}
    (rule : ∀ (i j : Int) (t u : Tok) (s : Shared) (Q : Value → Shared → Prop) (E : Value → Shared → Prop), Q (.bool (g i j)) s → wpAny (model X.prog X.w) X.A (f (.int i t) (.int j u)) Q E s) :
    OpR X f (rI0 fun i j => .bl (g i j)) := by
  intro pins s σ H x y v u Q I rx ry h
  obtain ⟨i, j, rfl, rfl, q⟩ := h
  obtain ⟨t, rfl⟩ := rx
  obtain ⟨t', rfl⟩ := ry
  exact rule i j t t' s _ _ ⟨.bl (g i j), H, I, rfl, q⟩
def CDiv (i j : Int) : Prop := 0 < j ∧ j < 1073741824
def CPow (i j : Int) : Prop := 0 ≤ j ∧ j ≤ 1000000 ∧ i.natAbs < 2 ^ 64
def CMul (i j : Int) : Prop := (-(2 ^ 64) < i ∧ i < 2 ^ 64) ∨ (-(2 ^ 64) < j ∧ j < 2 ^ 64)
theorem CMul.ok {i j : Int} (h : CMul i j) : IntMulOk i j := by
  rcases h with ⟨h1, h2⟩ | ⟨h1, h2⟩
  · exact .of_left (intBits_le_64 h1 h2)
  · exact .of_right (intBits_le_64 h1 h2)
theorem op_add : OpR X (binaryOp .Add) (rI0 fun i j => .int (i + j)) := opI0 fun _ _ _ _ _ _ _ q => add_int q
theorem op_sub : OpR X (binaryOp .Sub) (rI0 fun i j => .int (i - j)) := opI0 fun _ _ _ _ _ _ _ q => sub_int q
theorem op_mul : OpR X (binaryOp .Mult) (rI CMul fun i j => .int (i * j)) := opI fun _ _ _ _ _ _ _ hc q => mul_int q hc.ok
/-- // by a positive divisor -/
theorem op_fdiv : OpR X (binaryOp .FloorDiv) (rI CDiv fun i j => .int (i / j)) := opI fun i j _ _ _ _ _ hc q => by
  have h1 : (0 : Int) < j := hc.1
  have h2 : j < 1073741824 := hc.2
  exact floordiv_int (by omega) (by rw [Int.fdiv_eq_ediv_of_nonneg i (by omega)]; exact q) (.inl (PyProof.noPylong_small (by omega)))
/-- % by a positive divisor of any size -/
theorem op_mod : OpR X (binaryOp .Mod) (rI (fun _ j => 0 < j) fun i j => .int (i % j)) := opI fun i j _ _ _ _ _ hc q => by
  have h1 : (0 : Int) < j := hc
  exact mod_int' (by omega) (by rw [Int.fmod_eq_emod_of_nonneg i (by omega)]; exact q)
theorem op_pow : OpR X (binaryOp .Pow) (rI CPow fun i j => .int (i ^ j.toNat)) := opI fun _ _ _ _ _ _ _ hc q => pow_int_small hc.1 hc.2.1 hc.2.2 q
end
section
variable {X : Cx} {a b c : Expr} {ta tb tc : TE} {pos : Pos}
theorem op_lt : OpR X (compareOp .Lt) (rI0 fun i j => .bl (decide (i < j))) := opB0 fun _ _ _ _ _ _ _ q => lt_int q
theorem op_le : OpR X (compareOp .LtE) (rI0 fun i j => .bl (decide (i ≤ j))) := opB0 fun _ _ _ _ _ _ _ q => le_int q
theorem op_gt : OpR X (compareOp .Gt) (rI0 fun i j => .bl (decide (j < i))) := opB0 fun _ _ _ _ _ _ _ q => gt_int q
/-- two rules for one operation: by cases -/
theorem OpR.or {f : Value → Value → Sem Value} {r r' : R2} (h : OpR X f r) (h' : OpR X f r') : OpR X f (fun x y H Q => r x y H Q ∨ r' x y H Q) := by
  intro pins s σ H x y v u Q I rx ry q
  rcases q with q | q
  · exact h pins s σ H x y v u Q I rx ry q
  · exact h' pins s σ H x y v u Q I rx ry q
theorem nomark (b : Expr) {op : CmpOp} (h : op ≠ .In := by decide) (h2 : op ≠ .NotIn := by decide) : behindInMarks op b = false := by
  have e1 : (op == CmpOp.In) = false := by cases op <;> first | rfl | exact absurd rfl h
  have e2 : (op == CmpOp.NotIn) = false := by cases op <;> first | rfl | exact absurd rfl h2
  cases b <;> simp [behindInMarks, e1, e2]
/-- a comparison as a value; hm: nomark b, or (for in, not in) by with_unfolding_all rfl -/
theorem pe_cmpR {op : CmpOp} {r : R2} (ho : OpR X (compareOp op) r) (ha : PE X a ta) (hb : PE X b tb) (hm : behindInMarks op b = false) : PE X (.Compare a [op] [b] pos) (tOp r ta tb) := by
  intro pins s σ H Q I h
  exact wpAny_Compare1 (binT ha hb I h fun v u s2 x y H2 I2 rx ry q => ho pins s2 σ H2 x y v u Q I2 rx ry q) hm
/-- a reading of a value as a test -/
def tTest (t : TE) : TT := fun σ H Q => t σ H fun x H' => ∃ k, x = .bl k ∧ Q k H'
theorem pt_cmpR {op : CmpOp} {r : R2} (ho : OpR X (compareOp op) r) (ha : PE X a ta) (hb : PE X b tb) (hm : behindInMarks op b = false) : PT X (.Compare a [op] [b] pos) (tTest (tOp r ta tb)) := by
  intro pins s σ H Q I h
  refine wpAny_isTrue_Compare1 (thn (ha pins s σ H _ I h) fun v s1 ⟨x, H1, I1, r1, q1⟩ => thn (hb pins s1 σ H1 _ I1 q1) fun u s2 ⟨y, H2, I2, r2, q2⟩ =>
    thn (ho pins s2 σ H2 x y v u _ I2 r1 r2 q2) fun c s3 ⟨z, H3, I3, r3, k, e, q3⟩ => ?_) hm
  subst e
  cases r3
  exact wpAny_truthy_bool ⟨H3, I3, q3⟩
/-- a op1 b op2 c -/
def tChain (r r' : R2) (ta tb tc : TE) : TE := fun σ H Q => ta σ H fun x H1 => tb σ H1 fun y H2 => r x y H2 fun z H3 => ∃ k, z = .bl k ∧
  (if k = true then tc σ H3 fun w' H4 => r' y w' H4 Q else Q (.bl false) H3)
theorem pe_chain {op op' : CmpOp} {r r' : R2} (ho : OpR X (compareOp op) r) (ho' : OpR X (compareOp op') r') (ha : PE X a ta) (hb : PE X b tb) (hc : PE X c tc)
    (hm : lastMarks [op, op'] [b, c] = false := by with_unfolding_all rfl) : PE X (.Compare a [op, op'] [b, c] pos) (tChain r r' ta tb tc) := by
  intro pins s σ H Q I h
  refine Compare_chain (thn (ha pins s σ H _ I h) fun v s1 ⟨x, H1, I1, r1, q1⟩ => chain_link (thn (hb pins s1 σ H1 _ I1 q1) fun u s2 ⟨y, H2, I2, r2, q2⟩ =>
    thn (ho pins s2 σ H2 x y v u _ I2 r1 r2 q2) fun d s3 ⟨z, H3, I3, r3, k, e, q3⟩ => ?_)) hm
  subst e
  cases r3
  refine wpAny_truthy_bool ?_
  cases k with
  | false => exact ite_ff ⟨.bl false, H3, I3, rfl, q3⟩
  | true => exact ite_tt (chain_last (thn (hc pins s3 σ H3 _ I3 q3) fun w' s4 ⟨z', H4, I4, r4, q4⟩ => ho' pins s4 σ H4 y z' u w' Q I4 r2 r4 q4))
theorem line63 : (sizeLine : Nat) < 2 ^ 63 := by rw [sizeLine_eq]; decide
/-! ### scalar builtins, by CallR -/
theorem vals1 {x : V} {us : List Value} (r : Vals [x] us) : ∃ u, us = [u] ∧ RelV x u := by
  cases r with
  | cons r1 r2 => cases r2; exact ⟨_, rfl, r1⟩
theorem vals2 {x y : V} {us : List Value} (r : Vals [x, y] us) : ∃ u w', us = [u, w'] ∧ RelV x u ∧ RelV y w' := by
  cases r with
  | cons r1 r2 =>
    cases r2 with
    | cons r3 r4 => cases r4; exact ⟨_, _, rfl, r1, r3⟩
/-- len of a str, a bytes, a list, a tuple -/
def LenV (K : PySem.W.Frag) (x : V) (H : Hp) (n : Nat) : Prop :=
  match x with
  | .str y => y.length ≤ sizeLine ∧ n = y.length
  | .byt y => y.size ≤ sizeLine ∧ n = y.size
  | .ref p => (∃ xs, SqL K H p xs ∧ n = xs.length) ∨ ∃ xs, SqT K H p xs ∧ n = xs.length
  | _ => False
theorem call_len : CallR X (.builtin "len") (fun xs H Q => ∃ x n, xs = [x] ∧ LenV X.K x H n ∧ Q (.int n) H) := by
  intro pins s σ H xs us Q I r h
  obtain ⟨x, n, rfl, e, q⟩ := h
  obtain ⟨u, rfl, rx⟩ := vals1 r
  have hl := line63
  have hs : sizeLine = 16777216 := sizeLine_eq
  cases x with
  | str y =>
    obtain ⟨t, rfl⟩ := rx
    obtain ⟨hy, e'⟩ : y.length ≤ sizeLine ∧ n = y.length := e
    subst e'
    exact len_str (by omega) ⟨.int _, H, I.tok _, ⟨_, rfl⟩, q⟩
  | byt y =>
    obtain ⟨t, rfl⟩ := rx
    obtain ⟨hy, e'⟩ : y.size ≤ sizeLine ∧ n = y.size := e
    subst e'
    exact PySem.W.len_bytes (by omega) ⟨.int _, H, I.tok _, ⟨_, rfl⟩, q⟩
  | ref p =>
    cases rx
    have e' : (∃ xs, SqL X.K H p xs ∧ n = xs.length) ∨ ∃ xs, SqT X.K H p xs ∧ n = xs.length := e
    rcases e' with ⟨xs, hx, e'⟩ | ⟨xs, hx, e'⟩
    · subst e'
      obtain ⟨its, r', pl, hz⟩ := I.list hx
      have hlen := r'.length
      exact Calls.call_len_list pl.isList (by simp only [List.size_toArray]; omega) ⟨.int xs.length, H, I.tok _, ⟨_, by simp only [List.size_toArray]; rw [hlen]⟩, q⟩
    · subst e'
      obtain ⟨its, r', pl, hz⟩ := I.tuple hx
      have hlen := r'.length
      exact len_tuple pl (by simp only [List.size_toArray]; omega) ⟨.int xs.length, H, I.tok _, ⟨_, by simp only [List.size_toArray]; rw [hlen]⟩, q⟩
  | _ => exact (show False from e).elim
end
end L2
namespace L2
open PySem PySem.Spec PyProof.Rows
/-! ### an instance, its attributes a map -/
structure ObjM (h : Heap) (x dx C : Addr) (mA : Str → Option Value) : Prop where
  obj : h.get? x = some (PySem.W.instObj C dx)
  ns : h.Ns1 dx mA
  ne : dx ≠ x
theorem lookIn_ns {h : Heap} {dx : Addr} {mA : Str → Option Value} (n : h.Ns1 dx mA) : ∃ od, h.get? dx = some od ∧ ∀ name, PySem.W.lookIn name od = some (mA name) := by
  obtain ⟨o, es, ep, ho, hd, hk, _, hm⟩ := n
  refine ⟨o, ho, fun name => ?_⟩
  have e := hm name
  unfold nsFind findBy at e
  rw [← Array.find?_toList] at e
  unfold PySem.W.lookIn
  rw [hd]
  dsimp only
  split
  · rename_i y q
    rw [q] at e
    exact congrArg some e
  · rename_i q
    rw [q] at e
    have a : es.toList.any (·.refKey) = false := by
      rw [List.any_eq_false]
      intro y hy
      obtain ⟨z, t, hkey⟩ := hk y (Array.mem_toList_iff.mp hy)
      simp [DictEntry.refKey, hkey]
    have a' : ¬ es.toList.any (·.refKey) = true := by rw [a]; exact Bool.false_ne_true
    rw [if_neg a']
    exact congrArg some e
theorem ObjM.look {h : Heap} {x dx C : Addr} {mA : Str → Option Value} (I : ObjM h x dx C mA) : ∃ od, PySem.W.InstAt h x (PySem.W.instObj C dx) C (some od) ∧ ∀ name, PySem.W.lookIn name od = some (mA name) :=
  let ⟨od, ho, hl⟩ := lookIn_ns I.ns
  ⟨od, ⟨I.obj, rfl, rfl, ho⟩, hl⟩
section
variable {prog : Program} {w : World} {A : Around} {E : Value → Shared → Prop} {s : Shared} {K : PySem.W.Frag} {x dx C f : Addr} {mA : Str → Option Value} {name : Str} {v : Value}
theorem get_map {expr : Bool} {Q : Value → Shared → Prop} (X : K.In s.heap) (I : ObjM s.heap x dx C mA) (hg : PySem.W.plainGet K C name = true) (hh : PySem.W.hasDictIn K C = true)
    (ha : PySem.W.findIn K (.ref C) name = some none) (hv : mA name = some v) (hv' : PySem.W.handedIn v = true) (h : Q v { s with toks := s.toks + 1 }) :
    wpAny (model prog w) A (getAttr (.ref x) name expr) Q E s := by
  obtain ⟨od, J, hl⟩ := I.look
  exact PySem.W.get_value X J (PySem.W.plainGet_of hg).1 (PySem.W.findObj_own hh ha rfl (by rw [hl, hv])) hv' h
theorem get_meth {pl : Sem Bool} {Q : Value × List Value → Shared → Prop} (X : K.In s.heap) (I : ObjM s.heap x dx C mA) (hg : PySem.W.plainGet K C name = true)
    (hf : PySem.W.findIn K (.ref C) name = some (some (.ref f))) (ht : PySem.W.isFn K (.ref f) = true) (hv : mA name = none) (h : Q (.ref f, [.ref x]) s) :
    wpAny (model prog w) A (getMethod (.ref x) name pl) Q E s := by
  obtain ⟨od, J, hl⟩ := I.look
  exact PySem.W.method_fn X J (PySem.W.plainGet_of hg).1 (PySem.W.plainGet_of hg).2 hf (beq_iff_eq.mp ht) (by show (PySem.W.lookIn name od).map (·.isSome) = some false; rw [hl, hv]; rfl) h
theorem set_map {ns : List Str} {Q : Unit → Shared → Prop} (X : K.In s.heap) (I : ObjM s.heap x dx C mA)
    (hs : PySem.W.findIn K (.ref C) "__setattr__" = some (some (.builtin "object.__setattr__"))) (hp : PySem.W.plainOver K C = true) (ht : PySem.W.takerIn K C name = some none) (hh : PySem.W.hasDictIn K C = true)
    (hw : PySem.Within mA ns) (hsz : ns.length ≤ sizeLine)
    (h : ∀ h', ObjM h' x dx C (fun y => if y = name then some v else mA y) → Heap.SameBut dx s.heap h' → Q () { s with heap := h', toks := s.toks + 2 }) :
    wpAny (model prog w) A (setAttr (.ref x) name v) Q E s := by
  obtain ⟨od, J, hl⟩ := I.look
  refine PySem.W.set_plain X J hs (PySem.W.osa_open (s := { s with toks := s.toks + 1 }) (r := none) X J hp ht fun b => ?_)
  obtain ⟨cd, hc, hd'⟩ := PySem.W.any_some hh
  have hx : s.heap.get? x = some ⟨.ref C, some dx, .plain, #[]⟩ := I.obj
  refine wpAny_bind (wpAny_pure (wpAny_bind (wpAny_bind (wpAny_loadPart hx (wpAny_bind (PySem.W.Looks.here (s := { s with toks := s.toks + 1 }) (PySem.W.looks_clsIn X hc) ?_))))))
  rw [hd']
  refine wpAny_pure (a := some dx) (wpAny_bind (wpAny_pure (wpAny_bind ?_)))
  refine wpAny_nsSet1 (s := { s with toks := s.toks + 1 }) I.ns fun h' hn2 hs2 => ?_
  obtain ⟨oD, esD, epD, hoD, hdD, hcD⟩ := hn2.count (PySem.Within.cons name v hw)
  refine wpAny_bind (wpAny_lookBehind hoD (by rw [hdD]; exact pastItsLine_dict (Nat.le_trans hcD (by rw [List.length_cons]; omega))) ?_)
  exact wpAny_pure (h _ ⟨(hs2.2 _ (Ne.symm I.ne)).trans I.obj, hn2, I.ne⟩ hs2)
/-- C(..): the dict at the heap's end, the instance behind it; then its __init__ -/
theorem make_map {R : Result → Shared → Prop} {vs : List Value} {kw : List (Str × Value)} (X : K.In s.heap) (hm : PySem.W.makesIn K C = true)
    (hi : PySem.W.findIn K (.ref C) "__init__" = some (some (.ref f))) (hf : PySem.W.typeIn K (.ref f) = some (.type "function"))
    (h : codeAny (model prog w) (A.under (.builtin "type.__call__" ⟨.ref C :: vs, kw⟩)) (.call (.ref f) ⟨.ref (s.heap.objs.size + 1) :: vs, kw⟩) (PySem.W.InitBack (s.heap.objs.size + 1) R)
      { s with heap := (s.heap.push PySem.W.emptyDict).push (PySem.W.instObj C s.heap.objs.size) }) :
    codeAny (model prog w) A (.call (.ref C) ⟨vs, kw⟩) R s := by
  obtain ⟨hh, g, d, t, os⟩ := s
  exact PySem.W.make_core (PySem.W.makes_of X hm) (PySem.W.looks_findIn X hi) (fun self => PySem.W.bind_fn X self hf) (.inl rfl) h
end
/-! ### the attributes as a list of pairs -/
def putF (f : Str) (v : V) : List (Str × V) → List (Str × V)
  | [] => [(f, v)]
  | (g, x) :: r => if g = f then (g, v) :: r else (g, x) :: putF f v r
theorem lookup_putF (f g : Str) (v : V) : ∀ fs : List (Str × V), (putF f v fs).lookup g = if g = f then some v else fs.lookup g
  | [] => by
    show List.lookup g [(f, v)] = _
    by_cases h : g = f
    · have hb : (g == f) = true := beq_iff_eq.mpr h
      simp only [List.lookup, hb, if_pos h]
    · have hb : (g == f) = false := beq_eq_false_iff_ne.mpr h
      simp only [List.lookup, hb, if_neg h]
  | (k, x) :: r => by
    have ih := lookup_putF f g v r
    rw [show putF f v ((k, x) :: r) = (if k = f then (k, v) :: r else (k, x) :: putF f v r) from rfl]
    by_cases hk : k = f
    · rw [if_pos hk]
      by_cases h : g = k
      · have hb : (g == k) = true := beq_iff_eq.mpr h
        simp only [List.lookup, hb, if_pos (h.trans hk)]
      · have hb : (g == k) = false := beq_eq_false_iff_ne.mpr h
        simp only [List.lookup, hb, if_neg (fun e : g = f => h (e.trans hk.symm))]
    · rw [if_neg hk]
      by_cases h : g = k
      · have hb : (g == k) = true := beq_iff_eq.mpr h
        simp only [List.lookup, hb, if_neg (fun e : g = f => hk (h.symm.trans e))]
      · have hb : (g == k) = false := beq_eq_false_iff_ne.mpr h
        simp only [List.lookup, hb]
        exact ih
theorem keys_putF (f : Str) (v : V) : ∀ fs : List (Str × V), f ∈ (putF f v fs).map (·.1) ∧ ∀ g, g ∈ fs.map (·.1) → g ∈ (putF f v fs).map (·.1)
  | [] => ⟨by simp [putF], fun g h => by simp at h⟩
  | (k, x) :: r => by
    obtain ⟨i1, i2⟩ := keys_putF f v r
    rw [show putF f v ((k, x) :: r) = (if k = f then (k, v) :: r else (k, x) :: putF f v r) from rfl]
    by_cases hk : k = f
    · rw [if_pos hk]
      subst hk
      exact ⟨by simp, fun g h => by simpa using h⟩
    · rw [if_neg hk]
      refine ⟨?_, fun g h => ?_⟩
      · rw [List.map_cons]
        exact List.mem_cons_of_mem _ i1
      · rw [List.map_cons] at h ⊢
        rcases List.mem_cons.mp h with e | e
        · exact List.mem_cons.mpr (.inl e)
        · exact List.mem_cons_of_mem _ (i2 g e)
theorem length_putF (f : Str) (v : V) : ∀ fs : List (Str × V), (putF f v fs).length ≤ fs.length + 1
  | [] => by simp [putF]
  | (k, x) :: r => by
    have ih := length_putF f v r
    rw [show putF f v ((k, x) :: r) = (if k = f then (k, v) :: r else (k, x) :: putF f v r) from rfl]
    by_cases hk : k = f
    · rw [if_pos hk, List.length_cons, List.length_cons]; omega
    · rw [if_neg hk, List.length_cons, List.length_cons]; omega
theorem RelO.some_of {v : V} {o : Option Value} (r : RelO (some v) o) : ∃ u, o = some u ∧ RelV v u := by
  cases o with
  | none => exact (show False from r).elim
  | some u => exact ⟨u, rfl, r⟩
theorem RelO.none_of {o : Option Value} (r : RelO none o) : o = none := by
  cases o with
  | none => rfl
  | some u => exact (show False from r).elim
theorem handed_of {v : V} {u : Value} (r : RelV v u) : PySem.W.handedIn u = true := by
  cases v with
  | non => cases (show u = Value.none from r); rfl
  | bl b => cases (show u = Value.bool b from r); rfl
  | int i => obtain ⟨t, e⟩ := (show ∃ t, u = Value.int i t from r); cases e; rfl
  | str x => obtain ⟨t, e⟩ := (show ∃ t, u = Value.str x t from r); cases e; rfl
  | byt b => obtain ⟨t, e⟩ := (show ∃ t, u = Value.bytes b t from r); cases e; rfl
  | flt b => obtain ⟨t, e⟩ := (show ∃ t, u = Value.float b t from r); cases e; rfl
  | ref a => cases (show u = Value.ref a from r); rfl
  | ty n => cases (show u = Value.type n from r); rfl
section
variable {P : Program} {w : World} {H H' : Hp} {h h' : Heap} {a C dx : Addr} {fs fs' : List (Str × V)}
theorem ins_get (hok : HOk P w H h) (e : H a = some (.ins C dx fs)) : ∃ mA, ObjM h a dx C mA ∧ (∀ f, RelO (fs.lookup f) (mA f)) ∧ PySem.Within mA (fs.map (·.1)) ∧ fs.length ≤ 1000 ∧ H dx = some (.own a) := by
  obtain ⟨d, z, ne, ob, mA, n, r, q⟩ := (show ObjOk P w H h a (.ins C dx fs) from hok a _ e)
  exact ⟨mA, ⟨ob, n, ne⟩, r, q, z, d⟩
end
/-! ### what of the text a class must have -/
structure Cls (K : PySem.W.Frag) (C : Addr) : Prop where
  pg : PySem.W.plainGet K C Str.empty = true
  hd : PySem.W.hasDictIn K C = true
  po : PySem.W.plainOver K C = true
  sa : PySem.W.findIn K (.ref C) "__setattr__" = some (some (.builtin "object.__setattr__"))
theorem Cls.get {K : PySem.W.Frag} {C : Addr} (c : Cls K C) (f : Str) : PySem.W.plainGet K C f = true := c.pg
/-- no class of it has the name -/
def NoAttr (K : PySem.W.Frag) (C : Addr) (f : Str) : Prop := PySem.W.findIn K (.ref C) f = some none
theorem NoAttr.taker {K : PySem.W.Frag} {C : Addr} {f : Str} (n : NoAttr K C f) : PySem.W.takerIn K C f = some none := by
  unfold PySem.W.takerIn
  rw [show PySem.W.findIn K (.ref C) f = some none from n]
  rfl
/-- a constant of the class -/
structure Con (K : PySem.W.Frag) (C : Addr) (f : Str) (v : V) (u : Value) : Prop where
  at_ : PySem.W.findIn K (.ref C) f = some (some u)
  rel : RelV v u
  get : PySem.W.specialIn K u "__get__" = some none
  cp : PySem.W.copiedNames.contains f = false
/-- a method: a plain def of the class or of one above it -/
structure Meth (K : PySem.W.Frag) (C : Addr) (m : Str) (f : Addr) : Prop where
  at_ : PySem.W.findIn K (.ref C) m = some (some (.ref f))
  fn : PySem.W.isFn K (.ref f) = true
  kp : PySem.W.keepIn K (.ref f) = true
section
variable {X : Cx} {pins : List (Addr × Obj)} {σ : St} {H : Hp} {s : Shared} {a C dx : Addr} {fs : List (Str × V)} {f : Str} {v : V} {A : Around} {E : Value → Shared → Prop}
theorem getattr_ok {b : Bool} {Q : Value → Shared → Prop} (I : Inv X pins σ H s) (e : H a = some (.ins C dx fs)) (c : Cls X.K C) (n : NoAttr X.K C f) (l : fs.lookup f = some v)
    (h : ∀ u s', Inv X pins σ H s' → RelV v u → Q u s') : wpAny (model X.prog X.w) A (getAttr (.ref a) f b) Q E s := by
  obtain ⟨mA, O, r, _, _, _⟩ := ins_get I.hok e
  obtain ⟨u, hu, ru⟩ := RelO.some_of (v := v) (o := mA f) (by rw [← l]; exact r f)
  exact get_map I.kIn O (c.get f) c.hd n hu (handed_of ru) (h u _ (I.tok _) ru)
theorem getmeth_ok {m : Str} {g : Addr} {pl : Sem Bool} {Q : Value × List Value → Shared → Prop} (I : Inv X pins σ H s) (e : H a = some (.ins C dx fs)) (c : Cls X.K C) (k : Meth X.K C m g) (l : fs.lookup m = none)
    (h : Q (.ref g, [.ref a]) s) : wpAny (model X.prog X.w) A (getMethod (.ref a) m pl) Q E s := by
  obtain ⟨mA, O, r, _, _, _⟩ := ins_get I.hok e
  have hn : mA m = none := RelO.none_of (by rw [← l]; exact r m)
  exact get_meth I.kIn O (c.get m) k.at_ k.fn hn h
theorem setattr_ok {y : V} {u : Value} {Q : Unit → Shared → Prop} (I : Inv X pins σ H s) (e : H a = some (.ins C dx fs)) (c : Cls X.K C) (n : NoAttr X.K C f) (hl : fs.length < 1000) (ry : RelV y u)
    (h : ∀ s', Inv X pins σ (upd H a (.ins C dx (putF f y fs))) s' → Q () s') : wpAny (model X.prog X.w) A (setAttr (.ref a) f u) Q E s := by
  obtain ⟨mA, O, r, wi, _, ho⟩ := ins_get I.hok e
  have hz : (fs.map (·.1)).length ≤ sizeLine := by rw [List.length_map, sizeLine_eq]; omega
  refine set_map I.kIn O c.sa c.po n.taker c.hd wi hz fun h' O' sb => h _ ?_
  have hd : ∃ o, h'.get? dx = some o := let ⟨o, _, _, e', _⟩ := O'.ns; ⟨o, e'⟩
  refine I.write (x := a) (e := dx) (by rw [e]; exact True.intro) (.inr ho) (fun b q hb z => (sb.2 b hb).trans z) hd ?_
  refine ⟨by rw [upd_ne O.ne]; exact ho, ?_, O.ne, O'.obj, _, O'.ns, fun g => ?_, fun g hg => ?_⟩
  · have := length_putF f y fs; omega
  · show RelO ((putF f y fs).lookup g) (if g = f then some u else mA g)
    rw [lookup_putF]
    by_cases q : g = f
    · rw [if_pos q, if_pos q]; exact ry
    · rw [if_neg q, if_neg q]; exact r g
  · by_cases q : g = f
    · rw [q]; exact (keys_putF f y fs).1
    · refine (keys_putF f y fs).2 g (wi g fun z => hg ?_)
      show (if g = f then some u else mA g) = none
      rw [if_neg q]; exact z
/-- a new instance, tracked, without attributes -/
theorem Inv.made (I : Inv X pins σ H s) : Inv X pins σ (upd (upd H s.heap.objs.size (.own (s.heap.objs.size + 1))) (s.heap.objs.size + 1) (.ins C s.heap.objs.size []))
    { s with heap := (s.heap.push PySem.W.emptyDict).push (PySem.W.instObj C s.heap.objs.size) } := by
  have e1 : (s.heap.push PySem.W.emptyDict).get? s.heap.objs.size = some PySem.W.emptyDict := Heap.get?_push_size s.heap rfl
  have e2 : ((s.heap.push PySem.W.emptyDict).push (PySem.W.instObj C s.heap.objs.size)).get? (s.heap.objs.size + 1) = some (PySem.W.instObj C s.heap.objs.size) := by
    have := Heap.get?_push_size (s.heap.push PySem.W.emptyDict) (o := PySem.W.instObj C s.heap.objs.size) rfl
    rwa [Heap.size_push] at this
  have e3 : (s.heap.push PySem.W.emptyDict).Ns s.heap.objs.size (fun _ => none) := ⟨PySem.W.emptyDict, #[], _, e1, rfl, (fun e he => absurd he (by simp)), fun _ => rfl⟩
  have I1 := I.laid (a := s.heap.objs.size) (o := .own (s.heap.objs.size + 1)) (h' := s.heap.push PySem.W.emptyDict) (t' := s.toks) (fun b u q => Heap.get?_push_of_some _ q) (Nat.le_refl _) ⟨_, e1⟩
  refine I1.laid (a := s.heap.objs.size + 1) (o := .ins C s.heap.objs.size []) (t' := s.toks) (fun b u q => Heap.get?_push_of_some _ q) (Nat.le_of_eq (Heap.size_push _ _)) ?_
  have ne : s.heap.objs.size ≠ s.heap.objs.size + 1 := Nat.ne_of_lt (Nat.lt_succ_self _)
  refine ⟨by rw [upd_ne ne, upd_same], Nat.zero_le _, ne, e2, fun _ => none, (Heap.Ns1.of_empty e3).at fun o q => Heap.get?_push_of_some _ q, fun _ => True.intro, fun y hy => absurd rfl hy⟩
end
/-- e.f = value -/
def sFld (K : PySem.W.Frag) (ta tv : TE) (f : Str) : TS := fun D σ H => tv σ H fun y H1 => ta σ H1 fun x H2 => ∃ a C dx fs, x = .ref a ∧ H2 a = some (.ins C dx fs) ∧ Cls K C ∧ NoAttr K C f ∧ fs.length < 1000 ∧
  D.nx σ (upd H2 a (.ins C dx (putF f y fs)))
section
variable {X : Cx} {o e value : Expr} {f : Str} {pos pos' tpos : Pos} {ta tv : TE}
theorem ps_fld (ha : PE X o ta) (hv : PE X value tv) (hs : swapsWith value (some (.Attribute o f pos')) pos.line X.env = pure false) : PS X (.Assign [.Attribute o f pos'] value pos) (sFld X.K ta tv f) := by
  intro pins s σ H D I h
  refine plainObj_wpAny_Assign_Attribute (thn (hv pins s σ H _ I h) fun u s1 ⟨y, H1, I1, ry, q⟩ => thn (ha pins s1 σ H1 _ I1 q) fun ov s2 ⟨x, H2, I2, rx, a, C, dx, fs, ex, ea, c, n, l, q2⟩ => ?_) hs
  subst ex
  obtain rfl : ov = Value.ref a := rx
  exact setattr_ok I2 ea c n l ry fun s3 I3 => ⟨σ, _, I3, q2⟩
end
/-! ### isinstance -/
section
variable {X : Cx} {pins : List (Addr × Obj)} {σ : St} {H : Hp} {s : Shared} {A : Around} {E : Value → Shared → Prop} {Q : Value → Shared → Prop} {c : Value} {b : Bool}
/-- the type of a value, as the fragment's deciders take it; for an instance its class -/
inductive TyOf (K : PySem.W.Frag) (H : Hp) : V → Value → Prop where
  | non : TyOf K H .non (.type "NoneType")
  | bl (x : Bool) : TyOf K H (.bl x) (.type "bool")
  | int (i : Int) : TyOf K H (.int i) (.type "int")
  | str (x : Str) : TyOf K H (.str x) (.type "str")
  | flt (x : UInt64) : TyOf K H (.flt x) (.type "float")
  | lst {a : Addr} {xs : List V} (e : H a = some (.lst xs)) : TyOf K H (.ref a) (.type "list")
  | frz {a : Addr} {o : Obj} {xs : List V} (e : H a = some (.frz o (.lst xs))) : TyOf K H (.ref a) (.type "list")
  | tup {a : Addr} {xs : List V} (e : H a = some (.tup xs)) : TyOf K H (.ref a) (.type "tuple")
  | dK {a : Addr} {kvs : List (Key × V)} {ep : Nat} (e : H a = some (.dK kvs ep)) : TyOf K H (.ref a) (.type "dict")
  | dT {a : Addr} {kvs : List (List Key × V)} {ep : Nat} (e : H a = some (.dT kvs ep)) : TyOf K H (.ref a) (.type "dict")
  | ins {a C dx : Addr} {fs : List (Str × V)} (e : H a = some (.ins C dx fs)) (cl : Cls K C) (ha : PySem.W.findIn K (.ref C) "__class__" = some (some (.builtin "object.__class__")))
      (hn : PySem.W.specialIn K (.builtin "object.__class__") "__get__" = some (some (.builtin "getset_descriptor.__get__"))) (htk : PySem.W.takesIn K (.builtin "object.__class__") = some true)
      (hm : PySem.W.mroIn K C (.type "object") = some true) : TyOf K H (.ref a) (.ref C)
/-- isinstance(x, c) for one class c, a built-in or an own one: kitOne's answer -/
theorem isinst_ok {x : V} {u t : Value} (I : Inv X pins σ H s) (rx : RelV x u) (ty : TyOf X.K H x t) (e : PySem.W.kitOne X.K t c = some b) (h : ∀ tk, Q (.bool b) { s with toks := tk }) :
    wpAny (model X.prog X.w) A (call (.builtin "isinstance") [u, c]) Q E s := by
  cases ty with
  | non => cases (show u = Value.none from rx); exact PySem.W.kia_one PySem.W.kitx_none I.kIn True.intro e (fun z => nomatch z) h
  | bl y => cases (show u = Value.bool y from rx); exact PySem.W.kia_one PySem.W.kitx_bool I.kIn True.intro e (fun z => nomatch z) h
  | int i => obtain ⟨t, q⟩ := (show ∃ t, u = Value.int i t from rx); cases q; exact PySem.W.kia_one PySem.W.kitx_int I.kIn True.intro e (fun z => nomatch z) h
  | str y => obtain ⟨t, q⟩ := (show ∃ t, u = Value.str y t from rx); cases q; exact PySem.W.kia_one PySem.W.kitx_str I.kIn True.intro e (fun z => nomatch z) h
  | flt y => obtain ⟨t, q⟩ := (show ∃ t, u = Value.float y t from rx); cases q; exact PySem.W.kia_one PySem.W.kitx_float I.kIn True.intro e (fun z => nomatch z) h
  | @lst a xs ea =>
    cases (show u = Value.ref a from rx)
    obtain ⟨_, _, n, _, h1⟩ := (show ObjOk X.prog X.w H s.heap a (.lst xs) from I.hok a _ ea)
    exact PySem.W.kia_one PySem.W.kitx_list I.kIn ⟨_, h1, rfl⟩ e (fun z => nomatch z) h
  | @frz a ob xs ea =>
    cases (show u = Value.ref a from rx)
    obtain ⟨_, _, _, n, _, h1⟩ := (show ObjOk X.prog X.w H s.heap a (.frz ob (.lst xs)) from I.hok a _ ea)
    exact PySem.W.kia_one PySem.W.kitx_list I.kIn ⟨_, h1, rfl⟩ e (fun z => nomatch z) h
  | @tup a xs ea =>
    cases (show u = Value.ref a from rx)
    obtain ⟨_, _, _, p⟩ := (show ObjOk X.prog X.w H s.heap a (.tup xs) from I.hok a _ ea)
    obtain ⟨o, h1, h2, _⟩ := p
    exact PySem.W.kia_one PySem.W.kitx_tuple I.kIn ⟨o, h1, h2⟩ e (fun z => nomatch z) h
  | @dK a kvs ep ea =>
    cases (show u = Value.ref a from rx)
    obtain ⟨_, _, vs, _, p⟩ := (show ObjOk X.prog X.w H s.heap a (.dK kvs ep) from I.hok a _ ea)
    obtain ⟨o, es, h1, h2, _⟩ := p
    exact PySem.W.kia_one PySem.W.kitx_dict I.kIn ⟨o, h1, h2.1⟩ e (fun z => nomatch z) h
  | @dT a kvs ep ea =>
    cases (show u = Value.ref a from rx)
    obtain ⟨_, _, xs, _, o, es, h1, h2, _⟩ := (show ObjOk X.prog X.w H s.heap a (.dT kvs ep) from I.hok a _ ea)
    exact PySem.W.kia_one PySem.W.kitx_dict I.kIn ⟨o, h1, h2.1⟩ e (fun z => nomatch z) h
  | @ins a C dx fs ea cl ha hn htk hm =>
    cases (show u = Value.ref a from rx)
    obtain ⟨mA, O, _⟩ := ins_get I.hok ea
    obtain ⟨od, J, _⟩ := O.look
    exact PySem.W.kia_one (PySem.W.kitx_own (cl.get _) cl.hd ha hn htk hm) I.kIn J e (fun z => nomatch z) h
end
end L2
namespace L2
open PySem PySem.Spec PyProof.Rows
/-! ### room -/
structure Room (k : Nat) (A : Around) : Prop where
  hd : A.handled = none
  dp : A.depth + 3 * k + 5 < recursionLimit
  un : A.units + 16 * k + 200 < cLine
theorem Room.mono {j k : Nat} {A : Around} (r : Room k A) (h : j ≤ k) : Room j A := ⟨r.hd, by have := r.dp; omega, by have := r.un; omega⟩
theorem Room.deeper {k : Nat} {A : Around} (r : Room (k + 1) A) (env : Env) : Room k (A.deeper env) :=
  ⟨r.hd, by have := r.dp; show A.depth + 1 + 3 * k + 5 < _; omega, by have := r.un; show A.units + 3 + 16 * k + 200 < _; omega⟩
theorem Room.in1 {k : Nat} {A : Around} (r : Room (k + 1) A) : Room k A.in1 :=
  ⟨r.hd, by have := r.dp; show A.depth + 3 * k + 5 < _; omega, by have := r.un; show A.units + 1 + 16 * k + 200 < _; omega⟩
theorem make_depth {A : Around} {C : Addr} {us : List Value} {kw : List (Str × Value)} : (A.under (.builtin "type.__call__" ⟨.ref C :: us, kw⟩)).depth = A.depth + 1 := by
  first | rfl | simp [Around.under, Code.weight, Code.isCreation, Code.isGuard, Code.isCaller, Code.frames, Code.isFrame, guardIds]
theorem make_units {A : Around} {C : Addr} {us : List Value} {kw : List (Str × Value)} : (A.under (.builtin "type.__call__" ⟨.ref C :: us, kw⟩)).units = A.units + 1 := by
  first | rfl | simp [Around.under, Code.cUnits, Code.frames, Code.isFrame]
theorem Room.make {k : Nat} {A : Around} (r : Room (k + 1) A) (C : Addr) (us : List Value) (kw : List (Str × Value)) : Room k (A.under (.builtin "type.__call__" ⟨.ref C :: us, kw⟩)) :=
  ⟨r.hd, by have := r.dp; rw [make_depth]; omega, by have := r.un; rw [make_units]; omega⟩
theorem Room.depth {k : Nat} {A : Around} (r : Room k A) : A.depth < recursionLimit := by have := r.dp; omega
theorem Room.units {k : Nat} {A : Around} (r : Room k A) : A.units + 64 < cLine := by have := r.un; omega
/-! ### argument lists and displays -/
def tNil : TA := fun _ H Q => Q [] H
def tCons (ta : TE) (tr : TA) : TA := fun σ H Q => ta σ H fun x H1 => tr σ H1 fun xs H2 => Q (x :: xs) H2
section
variable {X : Cx} {e : Expr} {es : List Expr} {te : TE} {t : TA} {pos : Pos}
theorem pa_nil : PA X [] tNil := fun _ _ _ _ H Q I h => Calls.spliced_nil ⟨[], H, I, .nil, h⟩
theorem pa_cons (ha : PE X e te) (hr : PA X es t) (hs : starEach (e :: es) X.env = (false, eval e X.env) :: starEach es X.env := by rfl) : PA X (e :: es) (tCons te t) := by
  intro pos pins s σ H Q I h
  rw [hs]
  show wpAny _ _ (spliced ((false, eval e X.env) :: backTo pos (starEach es X.env))) _ _ s
  refine Calls.spliced_cons (thn (ha pins s σ H _ I h) fun u s1 ⟨x, H1, I1, r1, q1⟩ => ?_)
  exact thn (hr pos pins s1 σ H1 _ I1 q1) fun us s2 ⟨xs, H2, I2, r2, q2⟩ => ⟨x :: xs, H2, I2, .cons r1 r2, q2⟩
/-- a tuple, a list of written items -/
def tTup (t : TA) : TE := fun σ H Q => t σ H fun xs H1 => xs.length ≤ sizeLine ∧ ∀ p, H1 p = none → Q (.ref p) (upd H1 p (.tup xs))
theorem pe_tup {x1} (h : PA X es t) : PE X (.Tuple es x1 pos) (tTup t) := by
  intro pins s σ H Q I hq
  refine wpAny_Tuple_spliced (thn (h pos pins s σ H _ I hq) fun us s1 ⟨xs, H1, I1, r, z, q⟩ => ⟨by rw [← r.length]; exact z, ?_⟩)
  have hf : H1 s1.heap.objs.size = none := I1.hok.fresh (Nat.le_refl _)
  refine ⟨.ref s1.heap.objs.size, upd H1 s1.heap.objs.size (.tup xs), I1.laid (t' := s1.toks) (fun b u e => Heap.get?_push_of_some _ e) (Nat.le_refl _) ?_, rfl, q _ hf⟩
  exact ⟨z, us, r, ⟨_, Heap.get?_push_size _ rfl, rfl, _, rfl⟩⟩
end
/-! ### what a def promises -/
/-- a def's promise: the bound arguments in the parameters' order, the heap, the wanted end, the wanted exception -/
abbrev Sp := List V → Hp → VK → XK → Prop
/-- how an exception lies behind a call (file 08 gives it): the callers' frames, abstract heap and state ahead of the call, the wish, the exception, the state -/
abbrev CXT := List Env → Hp → Shared → XK → Value → Shared → Prop
/-- the state at a call -/
structure Env0 (P : Program) (w : World) (K : PySem.W.Frag) (mg : Str → Option Value) (base : Bs) (A : Around) (outer : List Env) (s : Shared) (H : Hp) : Prop where
  frames : A.frames = some outer
  mod : Mod K mg base
  bs : ∀ b o, base.get? b = some o → s.heap.get? b = some o ∧ H b = none
  bsz : base.objs.size ≤ s.heap.objs.size
  funs : s.heap.FunFrames base outer
  frf : ∀ b ∈ frs outer, H b = none
  hok : HOk P w H s.heap
  bare : AllBare s.gens
  tab : ∀ P ∈ base.tabs, H P = some (.tbl 0)
/-- a call's end -/
def CE (outer : List Env) (P : Program) (w : World) (H : Hp) (s : Shared) (Q : VK) (u : Value) (s' : Shared) : Prop :=
  ∃ v H', s'.os = s.os ∧ AllBare s'.gens ∧ Un (frs outer) [] H H' s.heap s'.heap ∧ HOk P w H' s'.heap ∧ RelV v u ∧ Q v H'
def CR (CX : CXT) (outer : List Env) (P : Program) (w : World) (H : Hp) (s : Shared) (Q : VK) (E : XK) (r : Result) (s' : Shared) : Prop :=
  match r with
  | .ok (.ret u) => CE outer P w H s Q u s'
  | .ok _ => False
  | .error e => CX outer H s E e s'
structure FnOk (P : Program) (w : World) (K : PySem.W.Frag) (mg : Str → Option Value) (base : Bs) (CX : CXT) (k : Nat) (f : Addr) (fd : FuncData) (ps : List Str) (sp : Sp) : Prop where
  len : ∀ vs H Q E, sp vs H Q E → vs.length = ps.length
  run : ∀ (A : Around) (outer : List Env) (s : Shared) (H : Hp) (args : Args) (us : List Value) (vs : List V) (Q : VK) (E : XK), Room k A → Env0 P w K mg base A outer s H → BindsTo s fd args (ps.zip us) → Vals vs us → sp vs H Q E →
    codeAny (model P w) A (.call (.ref f) args) (CR CX outer P w H s Q E) s
theorem FnOk.mono {P : Program} {w : World} {K : PySem.W.Frag} {mg : Str → Option Value} {base : Bs} {CX : CXT} {j k : Nat} {f : Addr} {fd : FuncData} {ps : List Str} {sp : Sp} (F : FnOk P w K mg base CX j f fd ps sp) (h : j ≤ k) :
    FnOk P w K mg base CX k f fd ps sp := ⟨F.len, fun A outer s H args us vs Q E hr => F.run A outer s H args us vs Q E (hr.mono h)⟩
/-- a weaker promise -/
theorem FnOk.imp {P : Program} {w : World} {K : PySem.W.Frag} {mg : Str → Option Value} {base : Bs} {CX : CXT} {k : Nat} {f : Addr} {fd : FuncData} {ps : List Str} {sp sp' : Sp} (F : FnOk P w K mg base CX k f fd ps sp)
    (h : ∀ vs H Q E, sp' vs H Q E → sp vs H Q E) : FnOk P w K mg base CX k f fd ps sp' :=
  ⟨fun vs H Q E q => F.len vs H Q E (h _ _ _ _ q), fun A outer s H args us vs Q E hr he hb hv hs => F.run A outer s H args us vs Q E hr he hb hv (h _ _ _ _ hs)⟩
theorem Env0.make {P : Program} {w : World} {K : PySem.W.Frag} {mg : Str → Option Value} {base : Bs} {A : Around} {outer : List Env} {s : Shared} {H : Hp} (e : Env0 P w K mg base A outer s H) (C : Addr) (us : List Value) (kw : List (Str × Value)) :
    Env0 P w K mg base (A.under (.builtin "type.__call__" ⟨.ref C :: us, kw⟩)) outer s H := ⟨by first | exact e.frames | (simpa [Around.under, Code.envs, Code.isFrame, pushEnvs] using e.frames), e.mod, e.bs, e.bsz, e.funs, e.frf, e.hok, e.bare, e.tab⟩
theorem Env0.in1 {P : Program} {w : World} {K : PySem.W.Frag} {mg : Str → Option Value} {base : Bs} {A : Around} {outer : List Env} {s : Shared} {H : Hp} (e : Env0 P w K mg base A outer s H) :
    Env0 P w K mg base A.in1 outer s H := ⟨e.frames, e.mod, e.bs, e.bsz, e.funs, e.frf, e.hok, e.bare, e.tab⟩
section
variable {X : Cx} {pins : List (Addr × Obj)} {σ : St} {H : Hp} {s s' : Shared}
/-- from a body: what a callee wants -/
theorem Inv.env0 (I : Inv X pins σ H s) : Env0 X.prog X.w X.K X.mg X.base X.A X.stack s H :=
  ⟨I.ok.frames, I.ok.mod, I.bs, Nat.le_trans I.ok.bsz I.sz, I.stack, I.stkFree, I.hok, I.bare, fun P z => I.base.tbls P 0 (I.ok.tab P z)⟩
/-- behind a call -/
theorem Inv.after {Q : VK} {u : Value} (I : Inv X pins σ H s) (h : CE X.stack X.prog X.w H s Q u s') : EP X pins σ Q u s' := by
  obtain ⟨v, H', os, bare, un, hok, r, q⟩ := h
  obtain ⟨hh, g, d, t, os'⟩ := s'
  obtain rfl : os' = s.os := os
  exact ⟨v, H', I.call (h' := hh) (g' := g) (d' := d) (t' := t) (ch := []) un hok bare (fun b z => absurd z (by simp)), r, q⟩
end
/-! ### calls -/
/-- f(..): the written arguments, then the defaults dvs; E: what is wanted of an exception -/
def tCall (sp : Sp) (dvs : List V) (E : XK) (t : TA) : TE := fun σ H Q => t σ H fun vs H1 => sp (vs ++ dvs) H1 Q E
/-- how the parameters are bound: us the positional arguments, kw the keywords' values by name, ds the defaults that fill up -/
def Binds (K : PySem.W.Frag) (fd : FuncData) (ps : List Str) (ds : List Value) : Prop :=
  ∀ (s : Shared) (us : List Value), K.In s.heap → (us ++ ds).length = ps.length → BindsTo s fd ⟨us, []⟩ (ps.zip (us ++ ds))
/-- every parameter is given -/
theorem Binds.all {K : PySem.W.Frag} {fd : FuncData} {ps : List Str} (h : ∀ us : List Value, us.length = ps.length → bindArgs fd ⟨us, []⟩ = pure (ps.zip us)) : Binds K fd ps [] := fun s us _ hl => by
  rw [List.append_nil] at hl ⊢
  exact .of_eq (h us hl)
/-- an exception of a callee reaches what this body wants of exceptions -/
def Passes (CX : CXT) (X : Cx) (E : XK) : Prop := ∀ (pins : List (Addr × Obj)) (σ : St) (H : Hp) (s : Shared) (e : Value) (s' : Shared), Inv X pins σ H s → CX X.stack H s E e s' → X.xe e s'
section
variable {X : Cx} {CX : CXT} {k : Nat} {f C : Addr} {fd : FuncData} {ps : List Str} {sp : Sp} {dvs : List V} {ds : List Value} {E : XK} {x m : Str} {p pos apos : Pos} {e o : Expr} {es : List Expr} {ta : TE} {t : TA}
/-- the callee runs -/
theorem run_fn {pins : List (Addr × Obj)} {σ : St} {H : Hp} {s : Shared} {Q : VK} {us : List Value} {vs : List V} (F : FnOk X.prog X.w X.K X.mg X.base CX k f fd ps sp) (hr : Room k X.A) (hb : Binds X.K fd ps ds) (hd : Vals dvs ds) (hx : Passes CX X E)
    (I : Inv X pins σ H s) (r : Vals vs us) (h : sp (vs ++ dvs) H Q E) : wpAny (model X.prog X.w) X.A (call (.ref f) us) (EP X pins σ Q) X.xe s := by
  have r2 : Vals (vs ++ dvs) (us ++ ds) := r.append hd
  have hl : (us ++ ds).length = ps.length := by rw [← r2.length]; exact F.len _ _ _ _ h
  refine wpAny_call (codeAny_mono (F.run X.A X.stack s H ⟨us, []⟩ (us ++ ds) (vs ++ dvs) Q E hr I.env0 (hb s us I.kIn hl) r2 h) fun r s' hq => ?_)
  cases r with
  | error e => exact hx pins σ H s e s' I hq
  | ok fl =>
    cases fl with
    | ret u => exact I.after hq
    | next => exact False.elim hq
    | brk => exact False.elim hq
    | cont => exact False.elim hq
theorem pe_call (F : FnOk X.prog X.w X.K X.mg X.base CX k f fd ps sp) (hr : Room k X.A) (hg : Gl X x) (hm : X.mg x = some (.ref f)) (hk : PySem.W.keepIn X.K (.ref f) = true) (hb : Binds X.K fd ps ds) (hd : Vals dvs ds) (hx : Passes CX X E)
    (ha : PA X (e :: es) t) (hdb : (x == ("__debug__" : Str)) = false := by decide) (he : starEach (e :: es) X.env = (false, eval e X.env) :: starEach es X.env := by rfl) (hpl : (backTo pos (starEach es X.env)).any (·.1) = false := by rfl) :
    PE X (.Call (.Name x p) (e :: es) [] pos) (tCall sp dvs E t) := by
  intro pins s σ H Q I h
  refine wpAny_Call_Name_kw (ld_glob I hg hm ?_ hdb)
  refine PySem.W.callWith_K (h₀ := X.base) I.ok.mod.kin hk (thn (ha pos pins s σ H _ I h) fun us s1 ⟨vs, H1, I1, r, q⟩ => ⟨I1.kIn, ?_⟩) he hpl
  exact run_fn F hr hb hd hx I1 r q
/-- what a class must have to be made -/
structure Mk (K : PySem.W.Frag) (C f : Addr) : Prop where
  makes : PySem.W.makesIn K C = true
  init : PySem.W.findIn K (.ref C) "__init__" = some (some (.ref f))
  fn : PySem.W.isFn K (.ref f) = true
  kp : PySem.W.keepIn K (.ref C) = true
theorem run_make {pins : List (Addr × Obj)} {σ : St} {H : Hp} {s : Shared} {Q : VK} {us : List Value} {vs : List V} (M : Mk X.K C f) (F : FnOk X.prog X.w X.K X.mg X.base CX k f fd ps sp) (hr : Room (k + 1) X.A) (hb : Binds X.K fd ps ds) (hd : Vals dvs ds)
    (hx : Passes CX X E) (I : Inv X pins σ H s) (r : Vals vs us)
    (h : ∀ x dx, H x = none → H dx = none → dx ≠ x → sp (.ref x :: (vs ++ dvs)) (upd (upd H dx (.own x)) x (.ins C dx [])) (fun v H2 => v = .non ∧ Q (.ref x) H2) E) :
    wpAny (model X.prog X.w) X.A (call (.ref C) us) (EP X pins σ Q) X.xe s := by
  have hq := h (s.heap.objs.size + 1) s.heap.objs.size (I.hok.fresh (Nat.le_succ _)) (I.hok.fresh (Nat.le_refl _)) (Nat.ne_of_lt (Nat.lt_succ_self _))
  have I2 := Inv.made (C := C) I
  have r2 : Vals (V.ref (s.heap.objs.size + 1) :: (vs ++ dvs)) (Value.ref (s.heap.objs.size + 1) :: (us ++ ds)) := .cons rfl (r.append hd)
  have hl : (Value.ref (s.heap.objs.size + 1) :: us ++ ds).length = ps.length := by
    have e := r2.length
    rw [F.len _ _ _ _ hq] at e
    exact e.symm
  refine wpAny_call (make_map (f := f) I.kIn M.makes M.init (beq_iff_eq.mp M.fn) (codeAny_mono (F.run _ X.stack _ _ ⟨Value.ref (s.heap.objs.size + 1) :: us, []⟩ (Value.ref (s.heap.objs.size + 1) :: (us ++ ds)) _ _ E (hr.make C us [])
    (I2.env0.make C us []) (hb _ (Value.ref (s.heap.objs.size + 1) :: us) I2.kIn hl) r2 hq) fun r s' hq' => ?_))
  cases r with
  | error e => exact hx pins σ _ _ e s' I2 hq'
  | ok fl =>
    cases fl with
    | ret u =>
      obtain ⟨v, H', I3, rv, ev, q3⟩ := I2.after hq'
      subst ev
      exact ⟨rv, ⟨V.ref (s.heap.objs.size + 1), H', I3, rfl, q3⟩⟩
    | next => exact False.elim hq'
    | brk => exact False.elim hq'
    | cont => exact False.elim hq'
end
section
variable {X : Cx} {CX : CXT} {k : Nat} {f C : Addr} {fd : FuncData} {ps ks : List Str} {sp : Sp} {E : XK} {x m : Str} {p pos apos kpos : Pos} {e o : Expr} {es : List Expr} {kws : List Keyword} {te ta : TE} {t tk : TA} {nm : Option Str}
/-- how a call with keywords binds: g puts the positional values us and the keywords' values ws (names ks) in the parameters' order, defaults among them -/
structure KBinds (K : PySem.W.Frag) (fd : FuncData) (ps ks : List Str) (g : List Value → List Value → List Value) (gV : List V → List V → List V) : Prop where
  to : ∀ (s : Shared) (us ws : List Value), K.In s.heap → (g us ws).length = ps.length → BindsTo s fd ⟨us, ks.zip ws⟩ (ps.zip (g us ws))
  rel : ∀ {vs : List V} {us : List Value} {zs : List V} {ws : List Value}, Vals vs us → Vals zs ws → Vals (gV vs zs) (g us ws)
variable {g : List Value → List Value → List Value} {gV : List V → List V → List V}
end
/-! ### a def's body keeps its promise -/
/-- names: the parameters first -/
structure FnScope (N P : List Str) (sc : Scope) : Prop where
  kind : sc.kind = .function
  co : sc.isCoroutine = false
  gen : sc.isGenerator = false
  nd : N.Nodup
  pre : N.take P.length = P
  par : ∀ x ∈ P, sc.names.lookup x = some .local ∨ sc.names.lookup x = some .cell
  nofree : ∀ y ∈ sc.names, y.2 ≠ .free
theorem bindL_out {kindOf : Str → Option NameKind} {x : Str} : ∀ {binds : List (Str × Value)} {m : Str → Option Value}, (∀ v, (x, v) ∉ binds) → bindL kindOf binds m x = m x
  | [], _, _ => rfl
  | (n, v) :: r, m, h => by
    unfold bindL
    rw [bindL_out fun w hw => h w (List.mem_cons_of_mem _ hw)]
    split
    · have : x ≠ n := by rintro rfl; exact h v List.mem_cons_self
      simp [this]
    · rfl
theorem bindC_out {kindOf : Str → Option NameKind} {x : Str} : ∀ {binds : List (Str × Value)} {m : Str → Option Value}, (∀ v, (x, v) ∉ binds) → bindC kindOf binds m x = m x
  | [], _, _ => rfl
  | (n, v) :: r, m, h => by
    unfold bindC
    rw [bindC_out fun w hw => h w (List.mem_cons_of_mem _ hw)]
    split
    · rfl
    · have : x ≠ n := by rintro rfl; exact h v List.mem_cons_self
      simp [this]
theorem bindL_get {kindOf : Str → Option NameKind} {x : Str} {v : Value} : ∀ {P : List Str} {vs : List Value} {i : Nat} {m : Str → Option Value}, P.Nodup → P[i]? = some x → vs[i]? = some v → kindOf x = some .local →
    bindL kindOf (P.zip vs) m x = some v
  | [], _, _, _, _, h, _, _ => by simp at h
  | _ :: _, [], _, _, _, _, h, _ => by simp at h
  | p :: P, w :: vs, 0, m, nd, h1, h2, hk => by
    simp at h1 h2; subst h1; subst h2
    show bindL kindOf ((p, w) :: P.zip vs) m p = _
    unfold bindL
    rw [bindL_out fun v hv => (List.nodup_cons.mp nd).1 (List.of_mem_zip hv).1, if_pos hk]
    simp
  | p :: P, w :: vs, i + 1, m, nd, h1, h2, hk => by
    show bindL kindOf ((p, w) :: P.zip vs) m x = _
    unfold bindL
    exact bindL_get (i := i) (List.nodup_cons.mp nd).2 (by simpa using h1) (by simpa using h2) hk
theorem bindC_get {kindOf : Str → Option NameKind} {x : Str} {v : Value} : ∀ {P : List Str} {vs : List Value} {i : Nat} {m : Str → Option Value}, P.Nodup → P[i]? = some x → vs[i]? = some v → kindOf x ≠ some .local →
    bindC kindOf (P.zip vs) m x = some v
  | [], _, _, _, _, h, _, _ => by simp at h
  | _ :: _, [], _, _, _, _, h, _ => by simp at h
  | p :: P, w :: vs, 0, m, nd, h1, h2, hk => by
    simp at h1 h2; subst h1; subst h2
    show bindC kindOf ((p, w) :: P.zip vs) m p = _
    unfold bindC
    rw [bindC_out fun v hv => (List.nodup_cons.mp nd).1 (List.of_mem_zip hv).1, if_neg hk]
    simp
  | p :: P, w :: vs, i + 1, m, nd, h1, h2, hk => by
    show bindC kindOf ((p, w) :: P.zip vs) m x = _
    unfold bindC
    exact bindC_get (i := i) (List.nodup_cons.mp nd).2 (by simpa using h1) (by simpa using h2) hk
/-- the names' values at the entry -/
def start (N : List Str) (vs : List V) : St := vs.map some ++ List.replicate (N.length - vs.length) none
/-- the context of a def's body, at its entry; an exception leaves the frame, then lies as CX says -/
def cxOf (CX : CXT) (P : Program) (w : World) (K : PySem.W.Frag) (mg : Str → Option Value) (base : Bs) (N : List Str) (qual : Str) (scope : Scope) (f : Addr) (cd : Value) (A : Around) (outer : List Env) (s : Shared) (H : Hp) (E : XK) : Cx where
  prog := P
  w := w
  K := K
  mg := mg
  base := base
  A := A.deeper (envOfC qual scope s.heap.objs.size f cd)
  N := N
  s₀ := s
  H₀ := H
  env := envOfC qual scope s.heap.objs.size f cd
  outer := outer
  stack := envOfC qual scope s.heap.objs.size f cd :: outer
  ex := []
  calm := true
  fn := fun _ => true
  cw := fun _ => true
  pn := []
  xe := fun e s' => wpAny (model P w) (A.deeper (envOfC qual scope s.heap.objs.size f cd)) (leaving (envOfC qual scope s.heap.objs.size f cd) e) (fun _ s'' => CX outer H s E e s'') (fun e' s'' => CX outer H s E e' s'') s'
theorem cell_has {sc : Scope} {n : Nat} {x : Str} (h : sc.names.lookup x = some .cell) : ∃ c, (cellsFrom n sc.names []).lookup x = some c := by
  have q := PySem.W.cellsFrom_some sc.names n [] (.inl h)
  exact Option.isSome_iff_exists.mp q
theorem inv_start {CX : CXT} {P : Program} {w : World} {K : PySem.W.Frag} {mg : Str → Option Value} {base : Bs} {N ps : List Str} {qual : Str} {scope : Scope} {f : Addr} {cd : Value} {A : Around} {outer : List Env} {s s1 : Shared} {H : Hp} {E : XK} {us : List Value} {vs : List V}
    (S : FnScope N ps scope) (hd : A.handled = none) (e0 : Env0 P w K mg base A outer s H) (hl : vs.length = ps.length) (r : Vals vs us)
    (x : InCallC s s.heap.objs.size (bindL (envOfC qual scope s.heap.objs.size f cd).kindOf (ps.zip us) fun _ => none) (cellsFrom (s.heap.objs.size + 1) scope.names []) (bindC (envOfC qual scope s.heap.objs.size f cd).kindOf (ps.zip us) fun _ => none) s1) :
    Inv (cxOf CX P w K mg base N qual scope f cd A outer s H E) [] (start N vs) H s1 := by
  have hpl : ps.length ≤ N.length := by have := congrArg List.length S.pre; rw [List.length_take] at this; omega
  obtain ⟨h1, tk, rfl, hk⟩ := x.done
  have noA : ∀ b : Addr, b ∉ (cxOf CX P w K mg base N qual scope f cd A outer s H E).ex := fun b z => absurd (show b ∈ ([] : List Addr) from z) (by simp)
  refine ⟨⟨e0.mod, S.kind, rfl, rfl, Nat.le_refl _, fun y z c h1 h2 => ?_, fun y hy => ?_, fun y c _ h => ?_, fun _ => hd, Around.frames_deeper e0.frames, .inr ⟨rfl, rfl⟩, fun b z => absurd z (noA b), e0.bs, e0.bsz, fun b _ _ => noA b, fun b z => absurd z (noA b), e0.funs, e0.frf, e0.tab, fun _ z => z⟩,
    rfl, e0.bare, Un.kept hk, ⟨_, x.toInCall.ns, fun i y v h1 h2 h3 => ?_⟩, fun y c h => ⟨_, x.cell y c h⟩, e0.hok.fresh (Nat.le_refl _), fun y c h => ?_, fun p hp => absurd (show p ∈ ([] : List (Addr × Obj)) from hp) (by simp), e0.hok.kept hk, ?_⟩
  · exact name_of_addr x.apart (PySem.mem_of_lookup h1) (PySem.mem_of_lookup h2)
  · have hy : scope.names.lookup y = some .cell ∨ scope.names.lookup y = some .free := hy
    rcases hy with hy | hy
    · exact cell_has hy
    · exact absurd rfl (S.nofree _ (PySem.mem_of_lookup hy))
  · exact Nat.le_of_lt (x.above y c (PySem.mem_of_lookup h))
  · have hi : i < vs.length := by
      unfold start at h2
      by_cases hi : i < vs.length
      · exact hi
      · rw [List.getElem?_append_right (by simpa using hi)] at h2
        rw [List.getElem?_replicate] at h2
        split at h2 <;> cases h2
    have ha : vs[i]? = some v := by
      unfold start at h2
      rw [List.getElem?_append_left (by simpa using hi), List.getElem?_map] at h2
      cases e : vs[i]? with
      | none => rw [e] at h2; cases h2
      | some a => rw [e] at h2; cases h2; rfl
    obtain ⟨u, hu, rv⟩ := r.get ha
    have hp : ps[i]? = some y := by
      rw [← S.pre, List.getElem?_take_of_lt (by omega)]; exact h1
    have ndP : ps.Nodup := by rw [← S.pre]; exact S.nd.sublist (List.take_sublist _ _)
    refine ⟨u, rv, ?_⟩
    rcases S.par y (List.mem_of_getElem? hp) with k | k
    · exact .inl ⟨k, bindL_get ndP hp hu k⟩
    · obtain ⟨c, e⟩ := cell_has (n := s.heap.objs.size + 1) k
      refine .inr ⟨.inl k, c, e, ?_⟩
      have q := x.cell y c e
      rw [bindC_get ndP hp hu (by show scope.names.lookup y ≠ _; rw [k]; decide)] at q
      exact q
  · exact .inl (e0.hok.fresh (Nat.le_of_lt (x.above y c (PySem.mem_of_lookup h))))
  · unfold start
    show _ = N.length
    rw [List.length_append, List.length_map, List.length_replicate]
    omega
/-- THE RULE: a def (or a method) of the text, by its body. The body's reading t is chosen for each entry; it is run at the parameters' values -/
theorem fn_of {CX : CXT} {P : Program} {w : World} {K : PySem.W.Frag} {mg : Str → Option Value} {base : Bs} {k : Nat} {f : Addr} {name qual : Str} {params : Arguments} {body : List Stmt} {scope : Scope} {dV kV doc pm cdv ct oc : Value} {an od : Option Addr}
    {osl : Array (Option Value)} {N ps : List Str} {sp : Sp} (lk : K.lookup f = some ⟨oc, od, .func (PySem.W.fnOf name qual params body scope dV kV doc pm an cdv ct), osl⟩) (hcd : PySem.W.codeIn K cdv qual = true) (S : FnScope N ps scope)
    (len : ∀ vs H Q E, sp vs H Q E → vs.length = ps.length)
    (hbody : ∀ (A : Around) (outer : List Env) (s : Shared) (H : Hp) (vs : List V) (Q : VK) (E : XK), Room k (A.deeper (envOfC qual scope s.heap.objs.size f cdv)) → sp vs H Q E →
      ∃ t, PSs (cxOf CX P w K mg base N qual scope f cdv A outer s H E) body t ∧ t { nx := fun _ H' => Q .non H', rt := Q } (start N vs) H) :
    FnOk P w K mg base CX (k + 1) f (PySem.W.fnOf name qual params body scope dV kV doc pm an cdv ct) ps sp := by
  refine ⟨len, fun A outer s H args us vs Q E hr e0 hb r hsp => ?_⟩
  have hl := len _ _ _ _ hsp
  have KX : K.In s.heap := e0.mod.kin.keeps fun b o e => (e0.bs b o e).1
  have lim : s.heap.NoLimit := e0.mod.nolimit.keeps fun b o e => (e0.bs b o e).1
  have hkind : ∀ y ∈ ps.zip us, scope.names.lookup y.1 = some .local ∨ (scope.names.lookup y.1 = some .cell ∧ ((cellsFrom (s.heap.objs.size + 1) scope.names []).lookup y.1).isSome = true) := fun ⟨n, v⟩ hy => by
    rcases S.par n (List.of_mem_zip hy).1 with q | q
    · exact .inl q
    · exact .inr ⟨q, PySem.W.cellsFrom_some _ _ _ (.inl q)⟩
  refine codeAny_call_function hr.depth (KX _ _ lk) rfl S.co S.gen rfl (PySem.W.codeRec_of KX hcd) (hb _ _ _ _ ?_)
  refine wpAny_newFunctionEnv_cells S.kind hkind fun env he s1 x => ?_
  subst he
  refine ⟨lim.keeps x.toInCall.keep, codeAny_func ?_⟩
  obtain ⟨t, ht, hq⟩ := hbody A outer s H vs Q E (hr.deeper _) hsp
  have I : Inv (cxOf CX P w K mg base N qual scope f cdv A outer s H E) [] (start N vs) H s1 := inv_start S hr.hd e0 hl r x
  refine wpAny_mono (ht [] s1 (start N vs) H _ I hq) (fun fl s' hs => ?_) fun e s' hs => hs
  have fin : ∀ {σ' : St} {H' : Hp} {v : V} {u : Value}, Inv (cxOf CX P w K mg base N qual scope f cdv A outer s H E) [] σ' H' s' → RelV v u → Q v H' → CE outer P w H s Q u s' :=
    fun {σ' H' v u} J rv q => ⟨v, H', J.os, J.bare, J.base, J.hok, rv, q⟩
  cases fl with
  | ret u =>
    obtain ⟨v, H', J, rv, q⟩ := hs
    exact ⟨v, H', J.os, J.bare, J.base, J.hok, rv, q⟩
  | next =>
    obtain ⟨σ', H', J, q⟩ := hs
    exact fin (v := V.non) (u := Value.none) J rfl q
  | brk =>
    obtain ⟨_, _, _, q⟩ := hs
    exact False.elim q
  | cont =>
    obtain ⟨_, _, _, q⟩ := hs
    exact False.elim q
end L2
namespace L2
open PySem PySem.Spec PyProof.Rows
section
variable {X : Cx} {x : Str} {p pos : Pos} {e : Expr} {es : List Expr} {t : TA} {id T : String} {r : List V → Hp → VK → Prop}
def tCB (r : List V → Hp → VK → Prop) (t : TA) : TE := fun σ H Q => t σ H fun vs H1 => r vs H1 Q
/-- f(e, ..), f a built-in function -/
theorem pe_callB (hc : CallR X (.builtin id) r) (hg : Gl X x) (hm : X.mg x = none) (hv : bootBuiltins x = some (.builtin id)) (ha : PA X (e :: es) t) (hn : x ≠ "__name__" := by decide) (hdb : (x == ("__debug__" : Str)) = false := by decide)
    (he : starEach (e :: es) X.env = (false, eval e X.env) :: starEach es X.env := by rfl) (hpl : (backTo pos (starEach es X.env)).any (·.1) = false := by rfl) : PE X (.Call (.Name x p) (e :: es) [] pos) (tCB r t) := by
  intro pins s σ H Q I h
  refine wpAny_Call_Name_kw (ld_blt I hg hm hv ?_ hn hdb)
  exact PyProof.Rows.callWith_builtin1 (thn (ha pos pins s σ H _ I h) fun us s1 ⟨vs, H1, I1, r1, q1⟩ => hc pins s1 σ H1 vs us Q I1 r1 q1) he hpl
/-- T(e, ..), T a built-in type -/
theorem pe_callTy (hc : CallR X (.type T) r) (hg : Gl X x) (hm : X.mg x = none) (hv : bootBuiltins x = some (.type T)) (ha : PA X (e :: es) t) (hn : x ≠ "__name__" := by decide) (hdb : (x == ("__debug__" : Str)) = false := by decide)
    (he : starEach (e :: es) X.env = (false, eval e X.env) :: starEach es X.env := by rfl) (hpl : (backTo pos (starEach es X.env)).any (·.1) = false := by rfl) : PE X (.Call (.Name x p) (e :: es) [] pos) (tCB r t) := by
  intro pins s σ H Q I h
  refine wpAny_Call_Name_kw (ld_blt I hg hm hv ?_ hn hdb)
  exact PyProof.Rows.callWith_type1 (thn (ha pos pins s σ H _ I h) fun us s1 ⟨vs, H1, I1, r1, q1⟩ => hc pins s1 σ H1 vs us Q I1 r1 q1) he hpl
end
end L2
namespace HT
open PySem PyProof.Rows
section
open PySem.SeqAt
open PySem.AutoSeq1 (wpAny_loadPart')
open PySem.MeetsSeq PySem.MeetsSeq2 PySem.MeetsSeq3
end
section
variable {prog : Program} {w : World} {A : Around} {E : Value → Shared → Prop} {s : Shared}
/-! ### t[a:b], not the whole -/
/-- a slice's bound as a place among n (d where it is left out) -/
def sIx (n d : Nat) : Option Int → Nat
  | none => d
  | some v => if v < 0 then (v + (n : Int)).toNat else min v.toNat n
end
end HT
namespace L2
open PySem PySem.Spec PyProof.Rows
/-! ### the parts of a slice -/
abbrev TO := St → Hp → (Option Int → Hp → Prop) → Prop
section
variable {X : Cx} {e : Expr} {te : TE} {lo hi : Option Expr} {tl th : TO} {pos p2 : Pos}
/-- what a slice of a value is, by values: the slice object stands at sl -/
def SlR (X : Cx) (r : V → Option Int → Option Int → Hp → VK → Prop) : Prop :=
  ∀ (pins : List (Addr × Obj)) (s : Shared) (σ : St) (H : Hp) (x : V) (v vl vu : Value) (lo hi : Option Int) (sl : Addr) (Q : VK), Inv X pins σ H s → RelV x v → s.heap.IsSliceOf sl vl vu .none → IsPart vl lo → IsPart vu hi → r x lo hi H Q →
    ∃ T id, typeLookup (.type T) "__getitem__" = pure (some (.builtin id)) ∧ s.TypeIs v T ∧ wpAny (model X.prog X.w) X.A (getItem v (.ref sl)) (EP X pins σ Q) X.xe s
theorem SlR.or {r r' : V → Option Int → Option Int → Hp → VK → Prop} (h : SlR X r) (h' : SlR X r') : SlR X (fun x lo hi H Q => r x lo hi H Q ∨ r' x lo hi H Q) := by
  intro pins s σ H x v vl vu lo hi sl Q I rx hs pl pu q
  rcases q with q | q
  · exact h pins s σ H x v vl vu lo hi sl Q I rx hs pl pu q
  · exact h' pins s σ H x v vl vu lo hi sl Q I rx hs pl pu q
end
end L2
namespace L2
open PySem PySem.Spec PyProof.Rows
/-! ### places -/
/-- the place that an index of any sign means -/
def ixN (n : Nat) (i : Int) : Option Nat := if 0 ≤ i then (if i < n then some i.toNat else none) else if -(n : Int) ≤ i then some (i + n).toNat else none
def atI {α : Type} (xs : List α) (i : Int) : Option α := (ixN xs.length i).bind fun j => xs[j]?
theorem ixN_seq {n : Nat} {i : Int} {j : Nat} (h : ixN n i = some j) : seqIndex? i n = some j ∧ j < n ∧ -(n : Int) ≤ i ∧ i < n := by
  unfold ixN at h
  by_cases h0 : 0 ≤ i
  · rw [if_pos h0] at h
    by_cases h1 : i < n
    · rw [if_pos h1] at h
      have e : i.toNat = j := Option.some.inj h
      exact ⟨by rw [seqIndex_of h0 h1, e], by omega, by omega, h1⟩
    · rw [if_neg h1] at h; cases h
  · rw [if_neg h0] at h
    by_cases h1 : -(n : Int) ≤ i
    · rw [if_pos h1] at h
      have e : (i + n).toNat = j := Option.some.inj h
      exact ⟨by rw [seqIndex_neg (by omega) h1, e], by omega, h1, by omega⟩
    · rw [if_neg h1] at h; cases h
theorem atI_get {α : Type} {xs : List α} {i : Int} {v : α} (h : atI xs i = some v) : ∃ j, seqIndex? i xs.length = some j ∧ xs[j]? = some v ∧ j < xs.length ∧ -(xs.length : Int) ≤ i ∧ i < xs.length := by
  unfold atI at h
  cases e : ixN xs.length i with
  | none => rw [e] at h; cases h
  | some j =>
    rw [e] at h
    obtain ⟨h1, h2, h3, h4⟩ := ixN_seq e
    exact ⟨j, h1, h, h2, h3, h4⟩
theorem atI_nat {α : Type} {xs : List α} {j : Nat} {v : α} (h : xs[j]? = some v) : atI xs (j : Int) = some v := by
  have hj : j < xs.length := (List.getElem?_eq_some_iff.mp h).1
  have e : ixN xs.length (j : Int) = some j := by
    unfold ixN
    rw [if_pos (by omega), if_pos (by omega)]; simp
  unfold atI; rw [e]; exact h
/-! ### what may be subscripted -/
/-- what stands as an index of a plain subscript -/
def PlainIx (b : Expr) : Prop := ∀ o i, subscripted b false o i = operate [o, i] (getItem o i)
/-- a subscript by values -/
def IxR (X : Cx) (r : R2) : Prop :=
  ∀ (value slice : Expr) (pins : List (Addr × Obj)) (s : Shared) (σ : St) (H : Hp) (x y : V) (v u : Value) (Q : VK), Inv X pins σ H s → RelV x v → RelV y u → r x y H Q →
    subscripted slice false v u = operate [v, u] (getItem v u) → wpAny (model X.prog X.w) X.A (subscriptTail value slice v u) (EP X pins σ Q) X.xe s
/-- a call of a builtin's method by values: the receiver, the arguments -/
def MtR (X : Cx) (id : String) (r : V → List V → Hp → VK → Prop) : Prop :=
  ∀ (pins : List (Addr × Obj)) (s : Shared) (σ : St) (H : Hp) (x : V) (xs : List V) (v : Value) (us : List Value) (Q : VK), Inv X pins σ H s → RelV x v → Vals xs us → r x xs H Q →
    wpAny (model X.prog X.w) X.A (call (.builtin id) (v :: us)) (EP X pins σ Q) X.xe s
section
variable {X : Cx} {a b : Expr} {ta tb : TE} {pos : Pos}
theorem IxR.or {r r' : R2} (h : IxR X r) (h' : IxR X r') : IxR X (fun x y H Q => r x y H Q ∨ r' x y H Q) := by
  intro value slice pins s σ H x y v u Q I rx ry q hs
  rcases q with q | q
  · exact h value slice pins s σ H x y v u Q I rx ry q hs
  · exact h' value slice pins s σ H x y v u Q I rx ry q hs
theorem MtR.or {id : String} {r r' : V → List V → Hp → VK → Prop} (h : MtR X id r) (h' : MtR X id r') : MtR X id (fun x xs H Q => r x xs H Q ∨ r' x xs H Q) := by
  intro pins s σ H x xs v us Q I rx rs q
  rcases q with q | q
  · exact h pins s σ H x xs v us Q I rx rs q
  · exact h' pins s σ H x xs v us Q I rx rs q
/-- a[b] -/
theorem pe_ix {r : R2} (hr : IxR X r) (ha : PE X a ta) (hb : PE X b tb) (hs : PlainIx b) : PE X (.Subscript a b pos) (tOp r ta tb) := by
  intro pins s σ H Q I h
  exact Subscript_ (binT ha hb I h fun v u s2 x y H2 I2 rx ry q => hr a b pins s2 σ H2 x y v u Q I2 rx ry q (hs _ _))
def rIxL (K : PySem.W.Frag) : R2 := fun x y H Q => ∃ p xs i v, x = .ref p ∧ y = .int i ∧ SqL K H p xs ∧ atI xs i = some v ∧ Q v H
def rIxT (K : PySem.W.Frag) : R2 := fun x y H Q => ∃ p xs i v, x = .ref p ∧ y = .int i ∧ SqT K H p xs ∧ atI xs i = some v ∧ Q v H
def rIxS : R2 := fun x y H Q => ∃ z i c, x = .str z ∧ y = .int i ∧ z.length ≤ sizeLine ∧ atI z.cps.toList i = some c ∧ Q (.str ⟨#[c]⟩) H
theorem ix_list : IxR X (rIxL X.K) := by
  intro value slice pins s σ H x y v u Q I rx ry h hs
  obtain ⟨p, xs, i, z, rfl, rfl, hq, he, q⟩ := h
  cases rx
  obtain ⟨t, rfl⟩ := ry
  obtain ⟨its, r, pl, hz⟩ := I.list hq
  obtain ⟨j, h1, h2, h3, h4, h5⟩ := atI_get he
  obtain ⟨w, ew, rw'⟩ := r.get h2
  have hl := r.length
  have hn := line63
  have fin : EP X pins σ Q w s := ⟨z, H, I, rw', q⟩
  by_cases h0 : 0 ≤ i
  · have hj : i.toNat = j := by
      rw [seqIndex_of h0 h5] at h1
      exact Option.some.inj h1
    exact item_listR pl.isList h0 (by omega) (by rw [hj]; simpa using ew) fin hs
  · have hj : (i + (its.toArray.size : Int)).toNat = j := by
      rw [seqIndex_neg (by omega) h4] at h1
      rw [List.size_toArray, ← hl]
      exact Option.some.inj h1
    exact subscriptTail_builtinR (x := w) pl.isList.typeIs slot_list_getitem.lookup
      (wpAny_getItem_list_neg (Q := fun r s' => r = w ∧ EP X pins σ Q r s') pl.isList (by omega) (by rw [List.size_toArray] <;> omega) (by omega) (by rw [hj]; simpa using ew) ⟨rfl, fin⟩) hs
theorem ix_tup : IxR X (rIxT X.K) := by
  intro value slice pins s σ H x y v u Q I rx ry h hs
  obtain ⟨p, xs, i, z, rfl, rfl, hq, he, q⟩ := h
  cases rx
  obtain ⟨t, rfl⟩ := ry
  obtain ⟨its, r, pl, hz⟩ := I.tuple hq
  obtain ⟨j, h1, h2, h3, h4, h5⟩ := atI_get he
  obtain ⟨w, ew, rw'⟩ := r.get h2
  have hl := r.length
  have hn := line63
  have fin : EP X pins σ Q w s := ⟨z, H, I, rw', q⟩
  exact subscriptTail_builtinR (x := w) pl.typeIs slot_tuple_getitem.lookup
    (getItem_tuple (j := j) (Q := fun r s' => r = w ∧ EP X pins σ Q r s') pl (by omega) (by omega) (by rw [List.size_toArray, ← hl]; exact h1) (by simpa using ew) ⟨rfl, fin⟩) hs
theorem ix_str : IxR X rIxS := by
  intro value slice pins s σ H x y v u Q I rx ry h hs
  obtain ⟨z, i, c, rfl, rfl, hz, he, q⟩ := h
  obtain ⟨t, rfl⟩ := rx
  obtain ⟨t', rfl⟩ := ry
  obtain ⟨j, h1, h2, h3, h4, h5⟩ := atI_get he
  have hl : z.cps.toList.length = z.length := by simp [Str.length]
  rw [hl] at h1 h4 h5
  have hn := line63
  exact tail_any (typeIs_str s z t) slot_str_getitem.lookup (getItem_str (c := c) (by
    have e1 : decide (i < -(2 ^ 63 : Int)) = false := decide_eq_false (by omega)
    have e2 : decide (i ≥ 2 ^ 63) = false := decide_eq_false (by omega)
    rw [e1, e2, Bool.or_false]) (by rw [h1]; simpa using h2) ⟨.str ⟨#[c]⟩, H, I.tok _, ⟨_, rfl⟩, q⟩) hs
/-- list, tuple or str -/
def rIx (K : PySem.W.Frag) : R2 := fun x y H Q => rIxL K x y H Q ∨ rIxT K x y H Q ∨ rIxS x y H Q
theorem ix_seq : IxR X (rIx X.K) := ix_list.or (ix_tup.or ix_str)
theorem Inv.lst {pins : List (Addr × Obj)} {σ : St} {H : Hp} {s : Shared} {p : Addr} {xs : List V} (I : Inv X pins σ H s) (h : H p = some (.lst xs)) :
    ∃ (its : List Value) (n : Nat), Vals xs its ∧ s.heap.get? p = some { cls := .type "list", data := .seq its.toArray n } ∧ xs.length ≤ sizeLine := by
  obtain ⟨z, its, n, r, e⟩ := I.hok p _ h
  exact ⟨its, n, r, e, z⟩
/-! ### in, not in: flat items -/
def flatV : V → Bool
  | .non => true
  | .bl _ => true
  | .int _ => true
  | .str _ => true
  | _ => false
/-- == of flat values -/
def eqV : V → V → Bool
  | .non, .non => true
  | .bl a, .bl b => a == b
  | .bl a, .int b => (if a then 1 else 0) == b
  | .int a, .bl b => a == (if b then 1 else 0)
  | .int a, .int b => a == b
  | .str a, .str b => a == b
  | _, _ => false
theorem eqAt_V {A : Around} {s : Shared} {y x : V} {u v : Value} (ry : RelV y u) (rx : RelV x v) (fy : flatV y = true) (fx : flatV x = true) : SeqAt.EqAt A s u v (eqV y x) := by
  cases y with
  | non =>
    cases ry
    cases x with
    | non => cases rx; exact SeqAt.EqAt.same _
    | bl b => cases rx; exact SeqAt.EqAt.none_bool b
    | int b => obtain ⟨t, rfl⟩ := rx; exact SeqAt.EqAt.none_int b t
    | str b => obtain ⟨t, rfl⟩ := rx; exact SeqAt.EqAt.none_str b t
    | _ => exact absurd (show false = true from fx) Bool.false_ne_true
  | bl a =>
    cases ry
    cases x with
    | non => cases rx; exact SeqAt.EqAt.bool_none a
    | bl b => cases rx; exact SeqAt.EqAt.bool_bool a b
    | int b => obtain ⟨t, rfl⟩ := rx; exact SeqAt.EqAt.bool_int a b t
    | str b => obtain ⟨t, rfl⟩ := rx; exact SeqAt.EqAt.bool_str a b t
    | _ => exact absurd (show false = true from fx) Bool.false_ne_true
  | int a =>
    obtain ⟨t', rfl⟩ := ry
    cases x with
    | non => cases rx; exact SeqAt.EqAt.int_none a t'
    | bl b => cases rx; exact SeqAt.EqAt.int_bool a t' b
    | int b => obtain ⟨t, rfl⟩ := rx; exact SeqAt.EqAt.int_int a t' b t
    | str b => obtain ⟨t, rfl⟩ := rx; exact SeqAt.EqAt.int_str a t' b t
    | _ => exact absurd (show false = true from fx) Bool.false_ne_true
  | str a =>
    obtain ⟨t', rfl⟩ := ry
    cases x with
    | non => cases rx; exact SeqAt.EqAt.str_none a t'
    | bl b => cases rx; exact SeqAt.EqAt.str_bool a t' b
    | int b => obtain ⟨t, rfl⟩ := rx; exact SeqAt.EqAt.str_int a t' b t
    | str b => obtain ⟨t, rfl⟩ := rx; exact SeqAt.EqAt.str_str a t' b t
    | _ => exact absurd (show false = true from fx) Bool.false_ne_true
  | _ => exact absurd (show false = true from fy) Bool.false_ne_true
/-! ### len, list(x), tuple(x) of any list or tuple that is read -/
theorem call_len_seq : CallR X (.builtin "len") (fun xs H Q => ∃ p ys, xs = [.ref p] ∧ (SqL X.K H p ys ∨ SqT X.K H p ys) ∧ Q (.int ys.length) H) := by
  intro pins s σ H xs us Q I r h
  obtain ⟨p, ys, rfl, hq, q⟩ := h
  obtain ⟨u, rfl, rx⟩ := vals1 r
  cases rx
  have hn := line63
  rcases hq with hq | hq
  · obtain ⟨its, r', pl, hz⟩ := I.list hq
    have hlen := r'.length
    exact Calls.call_len_list pl.isList (by simp only [List.size_toArray] <;> omega) ⟨.int ys.length, H, I.tok _, ⟨s.toks + 1, by rw [List.size_toArray, hlen]⟩, q⟩
  · obtain ⟨its, r', pl, hz⟩ := I.tuple hq
    have hlen := r'.length
    exact len_tuple pl (by simp only [List.size_toArray] <;> omega) ⟨.int ys.length, H, I.tok _, ⟨s.toks + 1, by rw [List.size_toArray, hlen]⟩, q⟩
theorem CallR.or {f : Value} {r r' : List V → Hp → VK → Prop} (h : CallR X f r) (h' : CallR X f r') : CallR X f (fun xs H Q => r xs H Q ∨ r' xs H Q) := by
  intro pins s σ H xs us Q I rs q
  rcases q with q | q
  · exact h pins s σ H xs us Q I rs q
  · exact h' pins s σ H xs us Q I rs q
theorem call_list_of : CallR X (.type "list") (fun xs H Q => ∃ p ys, xs = [.ref p] ∧ (SqL X.K H p ys ∨ SqT X.K H p ys) ∧ ∀ l, H l = none → Q (.ref l) (upd H l (.lst ys))) := by
  intro pins s σ H xs us Q I r h
  obtain ⟨p, ys, rfl, hq, q⟩ := h
  obtain ⟨u, rfl, rx⟩ := vals1 r
  cases rx
  have fin : ∀ (its : List Value), Vals ys its → ys.length ≤ sizeLine → ∀ (h' : Heap) (c' : Nat), (∀ b o', s.heap.get? b = some o' → h'.get? b = some o') →
      h'.get? s.heap.objs.size = some { cls := .type "list", dict := none, data := .seq its.toArray c', slots := #[] } → EP X pins σ Q (.ref s.heap.objs.size) { s with heap := h' } := fun its r' hz h' c' kp e =>
    ⟨.ref s.heap.objs.size, _, I.laid (t' := s.toks) kp (Nat.le_refl _) (show ObjOk X.prog X.w _ h' _ (.lst ys) from ⟨hz, its, c', r', e⟩), rfl, q _ (I.hok.fresh (Nat.le_refl _))⟩
  rcases hq with hq | hq
  · obtain ⟨its, r', pl, hz⟩ := I.list hq
    have hlen := r'.length
    obtain ⟨o, ho, hc, n, hd⟩ := pl.isList
    exact call_list_seq p (.inl rfl) ho hc hd (fun h' c' kp e => fin its r' hz h' c' kp e) (by simp only [List.size_toArray] <;> omega)
  · obtain ⟨its, r', pl, hz⟩ := I.tuple hq
    have hlen := r'.length
    obtain ⟨o, ho, hc, n, hd⟩ := pl
    exact call_list_seq p (.inr rfl) ho hc hd (fun h' c' kp e => fin its r' hz h' c' kp e) (by simp only [List.size_toArray] <;> omega)
/-! ### the call of a builtin's method: o.m(..) -/
/-- the value is of that builtin type -/
def tyV (K : PySem.W.Frag) (T : String) (x : V) (H : Hp) : Prop := match x with
  | .str _ => T = "str"
  | .int _ => T = "int"
  | .ref p => (T = "list" ∧ ∃ xs, SqL K H p xs) ∨ (T = "tuple" ∧ ∃ o, K.lookup p = some o ∧ o.cls = .type "tuple" ∧ o.dict = none) ∨
      (T = "dict" ∧ ((∃ kvs ep, H p = some (.dK kvs ep)) ∨ ∃ kvs ep, H p = some (.dT kvs ep))) ∨ (T = "set" ∧ ∃ S n, H p = some (.set S n))
  | _ => False
theorem tyV_is {pins : List (Addr × Obj)} {σ : St} {H : Hp} {s : Shared} {T : String} {x : V} {v : Value} (I : Inv X pins σ H s) (r : RelV x v) (ty : tyV X.K T x H) :
    s.TypeIs v T ∧ ∀ a, v = .ref a → ∃ ob, s.heap.get? a = some ob ∧ ob.dict = none := by
  cases x with
  | str z =>
    obtain ⟨t, rfl⟩ := r
    cases (show T = "str" from ty)
    exact ⟨typeIs_str s z t, fun _ e => nomatch e⟩
  | int i =>
    obtain ⟨t, rfl⟩ := r
    cases (show T = "int" from ty)
    exact ⟨typeIs_int s i t, fun _ e => nomatch e⟩
  | ref p =>
    cases r
    rcases ty with ⟨rfl, xs, hq⟩ | ⟨rfl, o, hk, hc, hd⟩ | ⟨rfl, hk⟩ | ⟨rfl, S, n, hk⟩
    · obtain ⟨its, _, pl, _⟩ := I.list hq
      refine ⟨pl.isList.typeIs, fun a e => ?_⟩
      cases e
      obtain ⟨o, n, e, c, hd, _⟩ := pl
      exact ⟨o, e, hd⟩
    · refine ⟨⟨o, I.kIn p o hk, hc⟩, fun a e => ?_⟩
      cases e
      exact ⟨o, I.kIn _ o hk, hd⟩
    · have z : ∃ o, s.heap.get? p = some o ∧ o.ExactDict := by
        rcases hk with ⟨kvs, ep, hk⟩ | ⟨kvs, ep, hk⟩
        · obtain ⟨_, _, _, _, o, _, e, ex, _⟩ := I.hok p _ hk
          exact ⟨o, e, ex⟩
        · obtain ⟨_, _, _, _, o, _, e, ex, _⟩ := I.hok p _ hk
          exact ⟨o, e, ex⟩
      obtain ⟨o, e, ex⟩ := z
      refine ⟨⟨o, e, ex.1⟩, fun a e2 => ?_⟩
      cases e2
      exact ⟨o, e, ex.2.1⟩
    · obtain ⟨o, _, _, _, e, ex, _⟩ := I.hok p _ hk
      refine ⟨⟨o, e, ex.1⟩, fun a e2 => ?_⟩
      cases e2
      exact ⟨o, e, ex.2.1⟩
  | _ => exact False.elim ty
def tBM0 (K : PySem.W.Frag) (T : String) (r : V → List V → Hp → VK → Prop) (to : TE) : TE := fun σ H Q => to σ H fun x H1 => tyV K T x H1 ∧ r x [] H1 Q
def tBM (K : PySem.W.Frag) (T : String) (r : V → List V → Hp → VK → Prop) (to : TE) (t : TA) : TE := fun σ H Q => to σ H fun x H1 => tyV K T x H1 ∧ t σ H1 fun xs H2 => r x xs H2 Q
variable {o e : Expr} {es : List Expr} {to : TE} {t : TA} {name : Str} {apos cpos : Pos} {T id : String} {r : V → List V → Hp → VK → Prop}
theorem pe_bm0 (pa : PlainAttrs T) (slot : Slot T name id) (hty : typeOf (.builtin id) = pure (.type "method_descriptor")) (hm : MtR X id r) (ho : PE X o to)
    (hbase : attributeBase o name X.env (eval o X.env) = eval o X.env := by rfl) (hline : (apos.endLine == cpos.line) = true := by rfl) : PE X (.Call (.Attribute o name apos) [] [] cpos) (tBM0 X.K T r to) := by
  intro pins s σ H Q I h
  refine wpAny_Call_method0_late hbase hline (thn (ho pins s σ H _ I h) fun v s1 ⟨x, H1, I1, r1, ty, q1⟩ => ?_)
  obtain ⟨h1, h2⟩ := tyV_is I1 r1 ty
  exact ⟨T, id, pa, slot, hty, h1, h2, Calls.callWith_builtin rfl (PySem.evalArgs_none (hm pins s1 σ H1 x [] v [] Q I1 r1 .nil q1))⟩
theorem pe_bm (pa : PlainAttrs T) (slot : Slot T name id) (hty : typeOf (.builtin id) = pure (.type "method_descriptor")) (hm : MtR X id r) (ho : PE X o to) (ha : PA X (e :: es) t)
    (hbase : attributeBase o name X.env (eval o X.env) = eval o X.env := by rfl)
    (hfew : ((backTo cpos (starEach (e :: es) X.env)).all (fun x => !x.1) && (backToKw cpos (keywordEach [] X.env)).all (fun x => x.1.isSome)
      && decide ((e :: es).length + ([] : List Keyword).length + (if ([] : List Keyword).isEmpty then 0 else 1) < 30)) = true := by rfl)
    (hline : (apos.endLine == cpos.line) = true := by rfl) (hs : starEach (e :: es) X.env = (false, eval e X.env) :: starEach es X.env := by rfl) (hplain : (backTo cpos (starEach es X.env)).any (·.1) = false := by rfl) :
    PE X (.Call (.Attribute o name apos) (e :: es) [] cpos) (tBM X.K T r to t) := by
  intro pins s σ H Q I h
  refine wpAny_Call_method_late hbase hfew hline rfl (thn (ho pins s σ H _ I h) fun v s1 ⟨x, H1, I1, r1, ty, q1⟩ => ?_)
  obtain ⟨h1, h2⟩ := tyV_is I1 r1 ty
  refine ⟨T, id, pa, slot, hty, h1, h2, ?_⟩
  have hA := ha cpos pins s1 σ H1 _ I1 q1
  rw [hs] at hA ⊢
  refine Calls.callWith_builtin (by show (false || (backTo cpos (starEach es X.env)).any (·.1)) = false; rw [hplain] <;> rfl) (Calls.evalArgs_plain ?_)
  exact thn hA fun us s2 ⟨vs, H2, I2, r2, q2⟩ => hm pins s2 σ H2 x vs v us Q I2 r1 r2 q2
/- xs.append(e), list.index on a module's tuple .. are MtR facts of 06m -/
end
end L2
namespace L2
open PySem PySem.Spec PyProof.Rows
def MtM (X : Cx) (id : String) (r : V → List V → Hp → VK → Prop) : Prop :=
  ∀ (pins : List (Addr × Obj)) (s : Shared) (σ : St) (H : Hp) (x : V) (xs : List V) (v : Value) (us : List Value) (Q : VK), Inv X pins σ H s → RelV x v → Vals xs us → r x xs H Q →
    wpAny (model X.prog X.w) X.A (call (.builtin id) (v :: us)) (EP X pins σ Q) X.xe s
/-! ### lists of values -/
theorem Vals.one : ∀ {x : V} {us : List Value}, Vals [x] us → ∃ u, us = [u] ∧ RelV x u
  | _, _, .cons r .nil => ⟨_, rfl, r⟩
theorem Vals.two : ∀ {x y : V} {us : List Value}, Vals [x, y] us → ∃ u v, us = [u, v] ∧ RelV x u ∧ RelV y v
  | _, _, _, .cons r (.cons q .nil) => ⟨_, _, rfl, r, q⟩
theorem Vals.zero : ∀ {us : List Value}, Vals [] us → us = []
  | _, .nil => rfl
theorem Vals.dropLast {xs : List V} {us : List Value} (h : Vals xs us) : Vals xs.dropLast us.dropLast := by
  induction h with
  | nil => exact .nil
  | cons r t ih =>
    cases t with
    | nil => exact .nil
    | cons q t' => exact .cons r ih
theorem Vals.reverse {xs : List V} {us : List Value} (h : Vals xs us) : Vals xs.reverse us.reverse := by
  induction h with
  | nil => exact .nil
  | cons r t ih => rw [List.reverse_cons, List.reverse_cons]; exact Vals.append ih (.cons r .nil)
theorem Vals.rep {xs : List V} {us : List Value} (h : Vals xs us) : ∀ k : Nat, Vals (List.replicate k xs).flatten (List.replicate k us).flatten
  | 0 => .nil
  | k + 1 => by
    rw [List.replicate_succ, List.replicate_succ, List.flatten_cons, List.flatten_cons]
    exact Vals.append h (Vals.rep h k)
section
variable {X : Cx} {pins : List (Addr × Obj)} {σ : St} {H : Hp} {s : Shared} {l b : Addr} {xs ys zs : List V}
/-! ### the two steps: a tracked list is rewritten, a new list is laid -/
theorem Inv.lset {its its' : List Value} {n : Nat} {f : Array Value → Array Value} {t' : Nat} (I : Inv X pins σ H s) (hH : H l = some (.lst xs))
    (e : s.heap.get? l = some { cls := .type "list", data := .seq its.toArray n }) (hf : f its.toArray = its'.toArray) (hv : Vals ys its') (hz : ys.length ≤ sizeLine) :
    Inv X pins σ (upd H l (.lst ys)) { s with heap := s.heap.update l (Obj.mapSeq f), toks := t' } := by
  have q := PySem.IsL.update e f
  rw [hf] at q
  refine I.write (x := l) (e := l) (by rw [hH]; exact trivial) (.inl rfl) (fun b' u hb hu => (Heap.get?_update_other s.heap (Obj.mapSeq f) (Ne.symm hb)).trans hu) ⟨_, q⟩ ?_
  exact ⟨hz, its', _, hv, q⟩
theorem Inv.lnew {its : List Value} {t' : Nat} (I : Inv X pins σ H s) (hv : Vals ys its) (hz : ys.length ≤ sizeLine) :
    Inv X pins σ (upd H s.heap.objs.size (.lst ys)) { s with heap := s.heap.push { cls := .type "list", data := .seq its.toArray }, toks := t' } :=
  I.laid (fun _ _ q => Heap.get?_push_of_some _ q) (Nat.le_refl _) ⟨hz, its, 0, hv, Heap.get?_push_size _ rfl⟩
theorem Inv.fresh (I : Inv X pins σ H s) : H s.heap.objs.size = none := I.hok.fresh (Nat.le_refl _)
theorem Inv.lstM (I : Inv X pins σ H s) (hH : H l = some (.lst xs)) : xs.length ≤ sizeLine ∧ ∃ (its : List Value) (n : Nat), Vals xs its ∧ xs.length = its.length ∧ s.heap.get? l = some { cls := .type "list", data := .seq its.toArray n } := by
  obtain ⟨z, its, n, r, e⟩ := I.hok l _ hH
  exact ⟨z, its, n, r, r.length, e⟩
end
section
variable {X : Cx}
/-! ### methods -/
def rAppend : V → List V → Hp → VK → Prop := fun x vs H Q => ∃ l xs y, x = .ref l ∧ vs = [y] ∧ H l = some (.lst xs) ∧ xs.length < sizeLine ∧ Q .non (upd H l (.lst (xs ++ [y])))
theorem mt_append : MtM X "list.append" rAppend := by
  intro pins s σ H x vs v us Q I rx rv h
  obtain ⟨l, xs, y, rfl, rfl, hH, hz, q⟩ := h
  cases rx
  obtain ⟨u, rfl, ru⟩ := rv.one
  obtain ⟨z, its, n, r, hl, e⟩ := I.lstM hH
  refine call_meets F.slot_list_append ⟨_, e, rfl⟩ F.entry_list_append (F.args_list_append_2 _ _) (PySem.list_append l its.toArray n u (by rw [List.size_toArray]; omega)) ⟨e, ?_⟩
  refine ⟨.non, _, I.lset (its' := its ++ [u]) hH e (by simp) (r.append (.cons ru .nil)) ?_, rfl, q⟩
  rw [List.length_append, List.length_singleton]
  omega
def rClear : V → List V → Hp → VK → Prop := fun x vs H Q => ∃ l xs, x = .ref l ∧ vs = [] ∧ H l = some (.lst xs) ∧ Q .non (upd H l (.lst []))
theorem mt_clear : MtM X "list.clear" rClear := by
  intro pins s σ H x vs v us Q I rx rv h
  obtain ⟨l, xs, rfl, rfl, hH, q⟩ := h
  cases rx
  have hus := rv.zero
  subst hus
  obtain ⟨z, its, n, r, hl, e⟩ := I.lstM hH
  refine call_meets F.slot_list_clear ⟨_, e, rfl⟩ F.entry_list_clear (F.args_list_clear_1 _) (AutoSeq1.list_clear_list_0 l its.toArray n (by rw [List.size_toArray]; omega)) ⟨e, ?_⟩
  exact ⟨.non, _, I.lset (its' := []) (ys := []) hH e rfl .nil (Nat.zero_le _), rfl, q⟩
end
/-! ### xs[a:b] = ys -/
section
variable {prog : Program} {w : World} {A : Around} {E : Value → Shared → Prop} {s : Shared}
end
section
variable {X : Cx}
end
end L2
namespace Att
open PySem PySem.W PySem.Calls PyProof.Rows
/-! ### the script -/
theorem ints_of_wellAll {P : Params} {h : Heap} : ∀ (ns : List Int) (vs : List Value), WellAll P h vs (ns.map WData.int) → IntsAre vs ns := by
  intro ns
  induction ns with
  | nil =>
    intro vs w
    rw [List.map_nil] at w
    cases w
    exact .nil
  | cons n ns ih =>
    intro vs w
    rw [List.map_cons] at w
    cases w with
    | cons a b =>
      cases a
      exact .cons _ _ (ih _ b)
theorem script_of {l : OpenLaw} {n : Nat} (hn : l.most = some n) {P : Params} {h : Heap} {args : List WData} {vals : List Value}
    (hpre : l.row.toRowW.claim.pre args = true) (hwl : WellAll P h vals args) :
    ∃ a vs ns, vals = [Value.ref a] ∧ args = [WData.list (ns.map WData.int)] ∧ h.get? a = some { cls := .type "list", data := .seq vs.toArray } ∧ IntsAre vs ns ∧ ns.length ≤ n := by
  have hsh : WShape.hasAll [] args [.list .int] = true := (pre_splitW hpre).1
  have hc : l.pre.holds [] { args := args } = true := (pre_splitW hpre).2
  obtain ⟨d, r, rfl, h1, h2⟩ := hasAllW_cons hsh
  obtain rfl := hasAllW_nil h2
  obtain ⟨xs, rfl, h3⟩ := hasW_list h1
  obtain ⟨ns, rfl⟩ := items_int h3
  have hlen : ns.length ≤ n := by
    unfold OpenLaw.pre at hc
    have h4 : (WTm.not (.lt (.lit (.int (n : Int))) (.len (.arg 0)))).holds [] { args := [.list (ns.map .int)] } = true := by
      have h4 := (holds_andW hc).1
      rw [hn] at h4
      exact h4
    have h5 := condW_of h4 (w_not (w_lt w_lit (w_len_list (w_arg rfl))))
    rw [List.length_map] at h5
    refine Nat.le_of_not_lt fun q => ?_
    have q' : (n : Int) < ((ns.length : Nat) : Int) := by omega
    first
      | (rw [decide_eq_true q'] at h5; exact absurd h5 (by decide))
      | (simp at h5; omega)
  cases hwl with
  | cons w1 w2 =>
    cases w2
    cases w1 with
    | list ho hall => exact ⟨_, _, ns, rfl, rfl, ho, ints_of_wellAll ns _ hall, hlen⟩
theorem post_true (l : OpenLaw) (args : List WData) : l.row.toRowW.claim.post args (.bool true) args = true :=
  postW_of (r := l.row.toRowW) (X := (true == true))
    (show WShape.has [] (.bool true) .bool = true by first | rfl | decide | simp [WShape.has, WShape.arms, WShape.armsAll])
    (show (WTm.eq .res (.lit (.bool true))).value [] { args := args, res := some (.bool true), after := args } = some (.bool (true == true)) from w_eq_bool (w_res rfl) w_lit) rfl
/-- the same from a codeAny of the CALL (for a layer whose function contracts speak of calls) -/
theorem attach_call {l : OpenLaw} {n : Nat} {q : Program} {loose : List Str} {XP : (Str → Option Value) → Heap → Prop} {YP : World → Heap → Prop} {d : DefRec}
    (hn : l.most = some n) (hdf : d.params.defaults = [])
    (call : ∀ (w : World) (s₀ s₁ : Shared) (mg mb : Str → Option Value) (fa : Addr) (o : Obj) (pm cd doc : Value) (a : Addr) (vs : List Value) (ns : List Int),
      Ground q loose [] XP w s₀ mg mb s₁.heap → YP w s₁.heap →
      s₁.heap.get? fa = some o → o.data = .func (docDef d.name d.params d.body d.scope pm cd doc) → s₁.heap.CodeRec cd d.name → mg d.name = some (.ref fa) →
      s₁.heap.get? a = some { cls := .type "list", data := .seq vs.toArray } → IntsAre vs ns → ns.length ≤ n → s₁.gens = #[] →
      codeAny (model l.prog w) callerA (.call (.ref fa) ⟨[.ref a], []⟩) (fun r s' => r = .ok (.ret (.bool true)) ∧ OldK s₁.heap s'.heap ∧ s'.os = s₁.os ∧ AllBare s'.gens) s₁) :
    WalkO q loose XP YP l.row.toRowW d [] (fun f vs => PySem.call f vs) := by
  intro w s₀ s₁ mg mb G Y fa o pm cd doc dV kV ho hd hcd hD hmg hg args vals as hpre hlay hrd hwl hlo
  obtain rfl : dV = .none := Dflts.none hD hdf
  obtain rfl : kV = .none := Dflts.noKw hD
  obtain ⟨a, vs, ns, rfl, rfl, hobj, hints, hlen⟩ := script_of hn hpre hwl
  refine enter_call (codeAny_mono (call w s₀ s₁ mg mb fa o pm cd doc a vs ns G Y ho (fd_plain hd) hcd hmg hobj hints hlen hg) fun r s' hq => ?_)
  obtain ⟨rfl, h2, h3, h4⟩ := hq
  exact ⟨.inl ⟨.bool true, .bool true, [], rfl, fun _ => rfl, .bool true, post_true l _, fun _ => ⟨List.Pairwise.nil, fun _ hm => (nomatch hm)⟩⟩, h2, h3, h4⟩
/-! ### rules over ANY heap (no ledger) from facts about the written part K: the library's own take a ledger (News) for what they write -/
section
variable {prog : Program} {w : World} {A : Around} {E : Value → Shared → Prop} {s : Shared} {K : Frag}
def ledger (h : Heap) (L d : Addr) : List (Addr × Obj) := (List.range h.objs.size).filterMap fun a => if a = L ∨ a = d then none else (h.get? a).map fun o => (a, o)
end
end Att
namespace L2
open PySem PySem.Spec PyProof.Rows
theorem vals_ints : ∀ {vs : List Value} {ns : List Int}, IntsAre vs ns → Vals (ns.map V.int) vs
  | _, _, .nil => .nil
  | _, _, .cons n t h => .cons ⟨t, rfl⟩ (vals_ints h)
/-- nothing is tracked but the script, known to the object (or it is an object of the module) -/
def Only (H : Hp) : Prop := ∀ b, H b = none ∨ (∃ o xs, H b = some (.frz o (.lst xs))) ∨ H b = some (.tbl 0)
theorem trip0 : TriplesOk [] := by first | trivial | constructor | simp [TriplesOk]
theorem among0 (pos : Pos) : codeAmong pos [] = none := by first | rfl | simp [codeAmong]
theorem old_of {h₀ h : Heap} (k : ∀ b o, h₀.get? b = some o → h.get? b = some o ∨ (isCodeTable h₀ b ∧ o = PySem.W.tabObj #[] ∧ ∃ ps, h.get? b = some (PySem.W.tabObj ps))) : OldK h₀ h :=
  ⟨fun b o e => by
    rcases k b o e with z | ⟨ht, rfl, ps, hP⟩
    · exact .inl z
    · exact .inr (.inl ⟨ht, rfl, #[], ps, rfl, by rw [Array.empty_append]; exact hP⟩), fun b o e => by
    rcases k b o e with z | ⟨_, _, ps, hP⟩
    · exact ⟨o, z⟩
    · exact ⟨_, hP⟩⟩
open Classical in
/-- the script as it is tracked, and the tables -/
noncomputable def withT (ts : List Addr) (H : Hp) : Hp := fun b => if b ∈ ts then some (.tbl 0) else H b
theorem withT_in {ts : List Addr} {H : Hp} {b : Addr} (h : b ∈ ts) : withT ts H b = some (.tbl 0) := if_pos h
theorem withT_out {ts : List Addr} {H : Hp} {b : Addr} (h : b ∉ ts) : withT ts H b = H b := if_neg h
/-- THE HEAD: the law's promise, at the heap behind the top. F, the promise of the law's def, may use that base is part of the heap (so K.In base, base.Ns mainGlobals mg stand in Mod) -/
theorem law_call {P : Program} {w : World} {K : PySem.W.Frag} {mg mb : Str → Option Value} {CX : CXT} {k : Nat} {fa a : Addr} {fd : FuncData} {x : Str} {sp : Sp} {s₁ : Shared} {vs : List Value} {ns : List Int}
    (KX : K.In s₁.heap) (hns : s₁.heap.Ns mainGlobals mg) (hb : s₁.heap.Ns builtinsNs mb) (hbb : ∀ x : Str, x ≠ "__name__" → mb x = bootBuiltins x) (hlim : s₁.heap.NoLimit) (hbm : ∃ bm ob, mg "__builtins__" = some (.ref bm) ∧ bm ≠ builtinsNs ∧ s₁.heap.get? bm = some ob ∧ ob.cls = .type "module" ∧ ob.dict = some builtinsNs ∧ ob.data = .plain) (hg : s₁.gens = #[])
    (ha : s₁.heap.get? a = some { cls := .type "list", data := .seq vs.toArray }) (hi : IntsAre vs ns) (hl : ns.length ≤ sizeLine) (hr : Room k callerA)
    {ts : List Addr} (hts : ∀ P ∈ ts, s₁.heap.get? P = some (PySem.W.tabObj #[]) ∧ isCodeTable s₁.heap P ∧ K.lookup P = none)
    (F : ∀ base : Bs, K.In base → base.Ns mainGlobals mg → base.tabs = ts → FnOk P w K mg base CX k fa fd [x] sp) (hbind : ∀ (s : Shared) (u : Value), BindsTo s fd ⟨[u], []⟩ [(x, u)])
    (hsp : ∀ H : Hp, Only H → SqL K H a (ns.map V.int) → sp [.ref a] H (fun v _ => v = .bl true) fun _ _ _ => False)
    (hCX : ∀ H e s', CX [] H s₁ (fun _ _ _ => False) e s' → False) :
    codeAny (model P w) callerA (.call (.ref fa) ⟨[.ref a], []⟩) (fun r s' => r = .ok (.ret (.bool true)) ∧ OldK s₁.heap s'.heap ∧ s'.os = s₁.os ∧ AllBare s'.gens) s₁ := by
  have rv := vals_ints hi
  have lenV := hi.length
  -- from an abstract heap in which nothing but the script may be tracked
  have core : ∀ H : Hp, Only H → SqL K H a (ns.map V.int) → HOk P w H s₁.heap → (∀ b, H b ≠ none → b = a ∨ b ∈ ts) → (H a ≠ none → K.lookup a = none) → (∀ P ∈ ts, H P = some (.tbl 0)) →
      codeAny (model P w) callerA (.call (.ref fa) ⟨[.ref a], []⟩) (fun r s' => r = .ok (.ret (.bool true)) ∧ OldK s₁.heap s'.heap ∧ s'.os = s₁.os ∧ AllBare s'.gens) s₁ := by
    intro H hO hS hok hA hK hTb
    have base_of : ∀ {b : Addr} {o : Obj}, s₁.heap.get? b = some o → H b = none → (hidT s₁.heap H).get? b = some o := fun e n => hidT_get e n
    have noA : ∀ {b : Addr} {o : Obj} {es : Array DictEntry} {ep : Nat}, s₁.heap.get? b = some o → o.data = .dict es ep → H b = none := fun {b o es ep} e d => by
      cases q : H b with
      | none => rfl
      | some u =>
        rcases hA b (by rw [q]; simp) with e' | e'
        case inr => rw [(hts b e').1] at e; cases e; cases d
        subst e'
        rw [ha] at e; cases e
        have d' : Data.seq vs.toArray _ = Data.dict es ep := d
        cases d'
    have nsK : ∀ {b : Addr} {m : Str → Option Value}, s₁.heap.Ns b m → (hidT s₁.heap H).Ns b m := fun {b m} ⟨o, es, ep, e, d, r⟩ => ⟨o, es, ep, base_of e (noA e d), d, r⟩
    have hKb : K.In (hidT s₁.heap H) := fun b o e => base_of (KX b o e) (by
      cases q : H b with
      | none => rfl
      | some u =>
        rcases hA b (by rw [q]; simp) with e' | e'
        case inr => rw [(hts b e').2.2] at e; cases e
        subst e'
        rw [hK (by rw [q]; simp)] at e; cases e)
    have hM : Mod K mg (⟨hidT s₁.heap H, ts⟩ : Bs) := ⟨hKb, nsK hns, ⟨mb, nsK hb, hbb⟩, let ⟨mc, h1, h2⟩ := hlim; ⟨mc, nsK h1, h2⟩, let ⟨bm, ob, a1, a2, a3, a4, a5, a6⟩ := hbm; ⟨bm, ob, a1, a2, base_of a3 (by
      cases q : H bm with
      | none => rfl
      | some u =>
        rcases hA bm (by rw [q]; simp) with e' | e'
        · rw [e', ha] at a3; cases a3; exact absurd a6 (by simp)
        · rw [(hts bm e').1] at a3; cases a3; exact absurd a6 (by simp)), a4, a5, a6⟩⟩
    have e0 : Env0 P w K mg (⟨hidT s₁.heap H, ts⟩ : Bs) callerA [] s₁ H := ⟨rfl, hM, fun b o e => of_hidT e, Nat.le_of_eq (hidT_size _ _), trivial, fun b hb => absurd (show b ∈ ([] : List Addr) from hb) (by simp), hok, .of_eq hg, hTb⟩
    refine codeAny_mono ((F ⟨hidT s₁.heap H, ts⟩ hKb (nsK hns) rfl).run callerA [] s₁ H ⟨[.ref a], []⟩ [.ref a] [.ref a] _ _ hr e0 (hbind s₁ (.ref a)) (.cons rfl .nil) (hsp H hO hS)) fun r s' h => ?_
    cases r with
    | error e => exact (hCX H e s' h).elim
    | ok fl =>
      cases fl with
      | next => exact False.elim h
      | brk => exact False.elim h
      | cont => exact False.elim h
      | ret u =>
        obtain ⟨v, H', os, bare, un, hok', r', q⟩ := h
        have q' : v = .bl true := q
        subst q'
        obtain rfl : u = Value.bool true := r'
        refine ⟨rfl, old_of fun b o e => ?_, os, bare⟩
        cases q : H b with
        | none => exact .inl (un.keep b o e q (by intro z; exact absurd (show b ∈ ([] : List Addr) from z) (by simp)) (by simp))
        | some u =>
          rcases hO b with z | ⟨ob, xs, z⟩ | z
          case inr.inr =>
            rcases hA b (by rw [q]; simp) with e' | e'
            case inl =>
              subst e'
              obtain ⟨ps, e1, _⟩ := hok _ _ z
              rw [ha] at e1; cases e1
            obtain ⟨ps, e2, _⟩ := hok' b _ (un.tbls b 0 z)
            rw [(hts b e').1] at e; cases e
            exact .inr ⟨(hts b e').2.1, rfl, ps, e2⟩
          · rw [q] at z; cases z
          · have z2 := un.frzs b ob _ z
            obtain ⟨e1, _⟩ := hok b _ z
            obtain ⟨e2, _⟩ := hok' b _ z2
            rw [e] at e1; cases e1
            exact .inl e2
  have haT : a ∉ ts := fun z => by have := (hts a z).1; rw [ha] at this; cases this
  have okT : ∀ b ∈ ts, ∀ H : Hp, ObjOk P w H s₁.heap b (.tbl 0) := fun b hb H => ⟨#[], (hts b hb).1, trip0, fun pos cv z => by rw [show (#[] : Array Value).toList = [] from rfl, among0] at z; cases z⟩
  cases hk : K.lookup a with
  | some o =>
    have e := KX a o hk
    rw [ha] at e
    cases e
    refine core (withT ts fun _ => none) (fun b => ?_) (.inr ⟨_, vs.toArray, _, hk, rfl, rfl, rfl, by rw [List.size_toArray, lenV]; exact hl, by simpa using rv⟩) (fun b u z => ?_) (fun b z => ?_) (fun z => ?_) fun P hP => withT_in hP
    · by_cases hb : b ∈ ts
      · exact .inr (.inr (withT_in hb))
      · exact .inl (withT_out hb)
    · by_cases hb : b ∈ ts
      · rw [withT_in hb] at z; cases z; exact okT b hb _
      · rw [withT_out hb] at z; cases z
    · by_cases hb : b ∈ ts
      · exact .inr hb
      · exact absurd (withT_out hb) z
    · exact absurd (withT_out haT) z
  | none =>
    refine core (withT ts fun b => if b = a then some (.frz { cls := .type "list", data := .seq vs.toArray } (.lst (ns.map V.int))) else none) (fun b => ?_) (.inl (.inr ⟨{ cls := .type "list", data := .seq vs.toArray }, by rw [withT_out haT]; exact if_pos rfl⟩)) (fun b u z => ?_) (fun b z => ?_) (fun _ => hk) fun P hP => withT_in hP
    · by_cases hb : b ∈ ts
      · exact .inr (.inr (withT_in hb))
      · rw [withT_out hb]
        by_cases hb : b = a
        · exact .inr (.inl ⟨_, _, if_pos hb⟩)
        · exact .inl (if_neg hb)
    · by_cases hT : b ∈ ts
      · rw [withT_in hT] at z; cases z; exact okT b hT _
      · rw [withT_out hT] at z
        by_cases hb : b = a
        · have z' := (if_pos hb).symm.trans z
          cases z'
          subst hb
          exact ⟨ha, by rw [List.length_map]; exact hl, vs, _, rv, ha⟩
        · have z' := (if_neg hb).symm.trans z
          cases z'
    · by_cases hT : b ∈ ts
      · exact .inr hT
      · rw [withT_out hT] at z
        by_cases hb : b = a
        · exact .inl hb
        · exact absurd (if_neg hb) z
end L2
namespace L2
open PySem PySem.Spec PyProof.Rows
/-- the goal that k_head leaves (case hc), from the law's promise. F gives the function object fd (K's own) once, then the promise over every base -/
theorem walk_of {l : PySem.W.OpenLaw} {n k : Nat} {q : Program} {loose : List Str} {XP : (Str → Option Value) → Heap → Prop} {YP : World → Heap → Prop} {d : DefRec} {K : Params → PySem.W.Frag} {CX : World → CXT} {sp : World → Sp} {x : Str}
    (hn : l.most = some n) (hn2 : n ≤ sizeLine) (hdf : d.params.defaults = []) (hr : Room k callerA)
    (hY : ∀ (w : World) (h : Heap), YP w h → (K w.params).In h) {ts : List Addr} (hts : ∀ (w : World) (h : Heap), YP w h → ∀ P ∈ ts, h.get? P = some (PySem.W.tabObj #[]) ∧ isCodeTable h P ∧ (K w.params).lookup P = none)
    (F : ∀ (w : World) (mg : Str → Option Value) (fa : Addr) (h : Heap), (K w.params).In h → h.Ns mainGlobals mg → mg d.name = some (.ref fa) →
      ∃ fd : FuncData, (∀ (s : Shared) (u : Value), BindsTo s fd ⟨[u], []⟩ [(x, u)]) ∧
        ∀ base : Bs, (K w.params).In base → base.Ns mainGlobals mg → base.tabs = ts → FnOk l.prog w (K w.params) mg base (CX w) k fa fd [x] (sp w))
    (hsp : ∀ (w : World) (H : Hp) (a : Addr) (ns : List Int), ns.length ≤ n → Only H → SqL (K w.params) H a (ns.map V.int) → sp w [.ref a] H (fun v _ => v = .bl true) fun _ _ _ => False)
    (hCX : ∀ (w : World) (H : Hp) (s : Shared) (e : Value) (s' : Shared), CX w [] H s (fun _ _ _ => False) e s' → False) :
    PySem.W.WalkO q loose XP YP l.row.toRowW d [] (fun f vs => PySem.call f vs) := by
  refine Att.attach_call hn hdf fun w s₀ s₁ mg mb fa o pm cd doc a vs ns G Y ho hd hcd hmg hobj hints hlen hg => ?_
  have KX := hY w _ Y
  obtain ⟨fd, hb, hF⟩ := F w mg fa _ KX G.T.g hmg
  exact law_call KX G.T.g G.T.b G.T.builtins G.T.nolimit G.T.bmain hg hobj hints (Nat.le_trans hlen hn2) hr (hts w _ Y) hF hb (fun H hO hS => hsp w H a ns hlen hO hS) fun H e s' => hCX w H s₁ e s'
/-- the same where the promise hangs on the written part alone: (sp := My.sp_law), no hole under a binder -/
theorem walk_ofK {l : PySem.W.OpenLaw} {n k : Nat} {q : Program} {loose : List Str} {XP : (Str → Option Value) → Heap → Prop} {YP : World → Heap → Prop} {d : DefRec} {K : Params → PySem.W.Frag} {CX : CXT} {sp : PySem.W.Frag → Sp} {x : Str}
    (hn : l.most = some n) (hn2 : n ≤ sizeLine) (hdf : d.params.defaults = []) (hr : Room k callerA)
    (hY : ∀ (w : World) (h : Heap), YP w h → (K w.params).In h) {ts : List Addr} (hts : ∀ (w : World) (h : Heap), YP w h → ∀ P ∈ ts, h.get? P = some (PySem.W.tabObj #[]) ∧ isCodeTable h P ∧ (K w.params).lookup P = none)
    (F : ∀ (w : World) (mg : Str → Option Value) (fa : Addr) (h : Heap), (K w.params).In h → h.Ns mainGlobals mg → mg d.name = some (.ref fa) →
      ∃ fd : FuncData, (∀ (s : Shared) (u : Value), BindsTo s fd ⟨[u], []⟩ [(x, u)]) ∧
        ∀ base : Bs, (K w.params).In base → base.Ns mainGlobals mg → base.tabs = ts → FnOk l.prog w (K w.params) mg base CX k fa fd [x] (sp (K w.params)))
    (hsp : ∀ (K : PySem.W.Frag) (H : Hp) (a : Addr) (ns : List Int), ns.length ≤ n → Only H → SqL K H a (ns.map V.int) → sp K [.ref a] H (fun v _ => v = .bl true) fun _ _ _ => False)
    (hCX : ∀ (H : Hp) (s : Shared) (e : Value) (s' : Shared), CX [] H s (fun _ _ _ => False) e s' → False) :
    PySem.W.WalkO q loose XP YP l.row.toRowW d [] (fun f vs => PySem.call f vs) :=
  walk_of (K := K) (CX := fun _ => CX) (sp := fun w => sp (K w.params)) hn hn2 hdf hr hY hts F (fun w H a ns h1 h2 h3 => hsp (K w.params) H a ns h1 h2 h3) fun _ H s e s' => hCX H s e s'
end L2
/-! SHORT WORDS over the layer: a def of the text, its body, what a loop and a test want. -/
namespace L2
open PySem PySem.Spec PyProof.Rows
/-! ### the text by places -/
/-- the j-th statement of a class's body -/
def inClass (s : Stmt) (j : Nat) : Stmt := match s with
  | .ClassDef _ _ _ body _ _ _ _ _ _ _ => body.getD j (.Pass ⟨0, 0, 0, 0⟩)
  | _ => .Pass ⟨0, 0, 0, 0⟩
def defArgs (s : Stmt) : Arguments := match s with
  | .FunctionDef _ a _ _ _ _ _ _ _ _ => a
  | _ => { posonlyargs := [], args := [], vararg := none, kwonlyargs := [], kw_defaults := [], kwarg := none, defaults := [] }
def defBody (s : Stmt) : List Stmt := match s with
  | .FunctionDef _ _ b _ _ _ _ _ _ _ => b
  | _ => []
def defScope (s : Stmt) : Scope := match s with
  | .FunctionDef _ _ _ _ _ _ sc _ _ _ => sc
  | _ => { kind := .function, names := [], isGenerator := false, isCoroutine := false }
/-! ### no exception leaves a def -/
abbrev CX0 : CXT := fun _ _ _ _ _ _ => False
abbrev E0 : XK := fun _ _ _ => False
theorem pass0 {X : Cx} : Passes CX0 X E0 := fun _ _ _ _ _ _ _ h => h.elim
/-! ### a def (or method) of the text as it stands behind the top -/
structure Fun (K : PySem.W.Frag) (x qual : Str) (st : Stmt) (f : Addr) (fd : FuncData) : Prop where
  ex : ∃ (oc : Value) (od : Option Addr) (kV doc pm : Value) (an : Option Addr) (cdv ct : Value) (osl : Array (Option Value)),
    fd = PySem.W.fnOf x qual (defArgs st) (defBody st) (defScope st) .none kV doc pm an cdv ct ∧ K.lookup f = some ⟨oc, od, .func fd, osl⟩ ∧ PySem.W.codeIn K cdv qual = true
  kp : PySem.W.keepIn K (.ref f) = true
section
variable {P : Program} {w : World} {K : PySem.W.Frag} {mg : Str → Option Value} {base : Bs}
/-- THE RULE for a def: its body as a term of rules, and the reading of that term -/
theorem Fun.ok {x qual : Str} {st : Stmt} {f : Addr} {fd : FuncData} {N ps : List Str} {k : Nat} {sp : Sp} (F : Fun K x qual st f fd) (S : FnScope N ps (defScope st)) (len : ∀ vs H Q E, sp vs H Q E → vs.length = ps.length)
    (hbody : ∀ (cdv : Value) (A : Around) (outer : List Env) (s : Shared) (H : Hp) (vs : List V) (Q : VK) (E : XK), Room k (A.deeper (envOfC qual (defScope st) s.heap.objs.size f cdv)) → sp vs H Q E →
      ∃ t, PSs (cxOf CX0 P w K mg base N qual (defScope st) f cdv A outer s H E).nox (defBody st) t ∧ t { nx := fun _ H' => Q .non H', rt := Q } (start N vs) H) : FnOk P w K mg base CX0 (k + 1) f fd ps sp := by
  obtain ⟨oc, od, kV, doc, pm, an, cdv, ct, osl, rfl, lk, hcd⟩ := F.ex
  refine fn_of lk hcd S len fun A outer s H vs Q E hr hsp => ?_
  obtain ⟨t, h, q⟩ := hbody cdv A outer s H vs Q E hr hsp
  exact ⟨t, h.nox, q⟩
/-- how its arguments bind (no defaults): h is «fun _ _ _ _ _ _ us hl => match us, hl with | [_, _], _ => rfl», one _ a parameter -/
theorem Fun.binds {x qual : Str} {st : Stmt} {f : Addr} {fd : FuncData} {ps : List Str} (F : Fun K x qual st f fd)
    (h : ∀ (kV doc pm : Value) (an : Option Addr) (cdv ct : Value) (us : List Value), us.length = ps.length → bindArgs (PySem.W.fnOf x qual (defArgs st) (defBody st) (defScope st) .none kV doc pm an cdv ct) ⟨us, []⟩ = pure (ps.zip us)) : Binds K fd ps [] := by
  obtain ⟨oc, od, kV, doc, pm, an, cdv, ct, osl, rfl, lk, hcd⟩ := F.ex
  exact .all (h kV doc pm an cdv ct)
theorem fun_mk {x qual : Str} {st : Stmt} {f : Addr} {oc : Value} {od an : Option Addr} {osl : Array (Option Value)} {kV doc pm cdv ct : Value} (l : K.lookup f = some ⟨oc, od, .func (PySem.W.fnOf x qual (defArgs st) (defBody st) (defScope st) .none kV doc pm an cdv ct), osl⟩)
    (c : PySem.W.codeIn K cdv qual = true) (k : PySem.W.keepIn K (.ref f) = true) : Fun K x qual st f (PySem.W.fnOf x qual (defArgs st) (defBody st) (defScope st) .none kV doc pm an cdv ct) := ⟨⟨oc, od, kV, doc, pm, an, cdv, ct, osl, rfl, l, c⟩, k⟩
end
theorem hu_of {A : Around} {k : Nat} (hr : Room k A) : A.units + 1 < cLine := Nat.lt_of_le_of_lt (Nat.add_le_add_left (by decide : 1 ≤ 64) _) hr.units
theorem small1000 {n : Nat} (h : n ≤ 1000) : n < sizeLine := Nat.lt_of_le_of_lt h (by decide)
/-! ### expressions in short: the name that stands in the i-th slot -/
section
variable {X : Cx}
theorem pv (i : Nat) {x : Str} {pos : Pos} (hN : X.N[i]? = some x := by rfl) (hv : Vis X.env.scope x := by first | exact Or.inl rfl | exact Or.inr (Or.inl rfl) | exact Or.inr (Or.inr rfl)) (hd : (x == ("__debug__" : Str)) = false := by decide)
    (hcd : (x == ("__classdict__" : Str)) = false := by decide) : PE X (.Name x pos) (tVar i) := pe_var hN hv hd hcd
end
/-! ### tests -/
theorem iteF {A B : Prop} (h : B) : if false = true then A else B := by
  rw [if_neg Bool.false_ne_true]
  exact h
theorem iteT {A B : Prop} (h : A) : if true = true then A else B := by
  rw [if_pos rfl]
  exact h
/-! ### heaps -/
/-- all that was tracked is as it was -/
def Same (H H' : Hp) : Prop := ∀ b o, H b = some o → H' b = some o
theorem Same.refl (H : Hp) : Same H H := fun _ _ h => h
theorem Same.trans {H H1 H2 : Hp} (a : Same H H1) (b : Same H1 H2) : Same H H2 := fun c o h => b c o (a c o h)
theorem Same.free {H H' : Hp} (e : Same H H') {l : Addr} (h : H' l = Option.none) : H l = Option.none := by
  cases q : H l with
  | none => rfl
  | some o =>
    rw [e l o q] at h
    cases h
theorem Same.seq {K : PySem.W.Frag} {H H' : Hp} {a : Addr} {xs : List V} (e : Same H H') (h : SqL K H a xs) : SqL K H' a xs := by
  rcases h with (h | ⟨o, h⟩) | h
  · exact .inl (.inl (e _ _ h))
  · exact .inl (.inr ⟨o, e _ _ h⟩)
  · exact .inr h
end L2
end
section
set_option Elab.async false
set_option linter.all false
set_option maxRecDepth 100000
namespace L2
open PySem PySem.Spec PyProof.Rows
/-! ### lists of pairs as tables -/
section
variable {κ : Type} [DecidableEq κ]
def valV (kvs : List (κ × V)) (k : κ) : Option V := (kvs.find? fun kv => decide (kv.1 = k)).map (·.2)
/-- in its place, or at the end -/
def putK (kvs : List (κ × V)) (k : κ) (v : V) : List (κ × V) :=
  if (kvs.any fun kv => decide (kv.1 = k)) = true then kvs.map (fun kv => if kv.1 = k then (kv.1, v) else kv) else kvs ++ [(k, v)]
def dropK (kvs : List (κ × V)) (k : κ) : List (κ × V) := kvs.filter fun kv => decide (kv.1 ≠ k)
theorem valV_pos {p : κ × V} {r : List (κ × V)} {k : κ} (e : p.1 = k) : valV (p :: r) k = some p.2 := by simp [valV, List.find?_cons, e]
theorem valV_neg {p : κ × V} {r : List (κ × V)} {k : κ} (e : ¬ p.1 = k) : valV (p :: r) k = valV r k := by simp [valV, List.find?_cons, e]
theorem valV_any (k : κ) : ∀ kvs : List (κ × V), (kvs.any fun kv => decide (kv.1 = k)) = (valV kvs k).isSome
  | [] => rfl
  | p :: r => by
    rw [List.any_cons]
    by_cases e : p.1 = k
    · simp only [valV_pos e, decide_eq_true e, Bool.true_or, Option.isSome_some]
    · rw [valV_neg e, decide_eq_false e, Bool.false_or]; exact valV_any k r
theorem length_putK (kvs : List (κ × V)) (k : κ) (v : V) : (putK kvs k v).length ≤ kvs.length + 1 := by
  unfold putK
  split
  · rw [List.length_map]; omega
  · rw [List.length_append, List.length_cons, List.length_nil]; omega
theorem RelO.isSome_eq {o : Option V} {u : Option Value} (r : RelO o u) : o.isSome = u.isSome := by
  cases o with
  | none => cases u with
    | none => rfl
    | some _ => exact (show False from r).elim
  | some _ => cases u with
    | none => exact (show False from r).elim
    | some _ => rfl
theorem RelO.getD {o : Option V} {u : Option Value} {d : V} {d' : Value} (r : RelO o u) (rd : RelV d d') : RelV (o.getD d) (u.getD d') := by
  cases o with
  | none => cases u with
    | none => exact rd
    | some _ => exact (show False from r).elim
  | some _ => cases u with
    | none => exact (show False from r).elim
    | some _ => exact r
/-- raw tables of the same keys -/
theorem KV.val {kvs : List (κ × V)} {vs : List (κ × Value)} (r : KV kvs vs) (k : κ) : RelO (valV kvs k) (valueAt vs k) := by
  unfold KV at r
  induction r with
  | nil => exact True.intro
  | @cons p q ps qs h t ih =>
    obtain ⟨h1, h2⟩ := h
    by_cases e : p.1 = k
    · have e' : q.1 = k := h1.symm.trans e
      have b : valueAt (q :: qs) k = some q.2 := by simp [valueAt, List.find?_cons, e']
      rw [valV_pos e, b]; exact h2
    · have e' : ¬ q.1 = k := fun z => e (h1.trans z)
      have b : valueAt (q :: qs) k = valueAt qs k := by simp [valueAt, List.find?_cons, e']
      rw [valV_neg e, b]; exact ih
theorem KV.any {kvs : List (κ × V)} {vs : List (κ × Value)} (r : KV kvs vs) (k : κ) : (kvs.any fun kv => decide (kv.1 = k)) = vs.any fun kv => decide (kv.1 = k) := by
  unfold KV at r
  induction r with
  | nil => rfl
  | cons h t ih => rw [List.any_cons, List.any_cons, ih, h.1]
theorem KV.repl {kvs : List (κ × V)} {vs : List (κ × Value)} (r : KV kvs vs) (k : κ) {y : V} {u : Value} (ry : RelV y u) :
    KV (kvs.map fun kv => if kv.1 = k then (kv.1, y) else kv) (vs.map fun kv => if kv.1 = k then (kv.1, u) else kv) := by
  unfold KV at r ⊢
  induction r with
  | nil => exact .nil
  | @cons p q ps qs h t ih =>
    rw [List.map_cons, List.map_cons]
    refine .cons ?_ ih
    obtain ⟨h1, h2⟩ := h
    by_cases e : p.1 = k
    · rw [if_pos e, if_pos (h1.symm.trans e)]; exact ⟨h1, ry⟩
    · rw [if_neg e, if_neg (fun z => e (h1.trans z))]; exact ⟨h1, h2⟩
theorem KV.put {kvs : List (κ × V)} {vs : List (κ × Value)} (r : KV kvs vs) (k : κ) {y : V} {u : Value} (ry : RelV y u) : KV (putK kvs k y) (stored vs k u) := by
  unfold putK stored
  rw [r.any k]
  by_cases e : (vs.any fun kv => decide (kv.1 = k)) = true
  · rw [if_pos e, if_pos e]; exact r.repl k ry
  · rw [if_neg e, if_neg e]; exact Paired.snoc r ⟨rfl, ry⟩
theorem KV.drop {kvs : List (κ × V)} {vs : List (κ × Value)} (r : KV kvs vs) (k : κ) : KV (dropK kvs k) (without vs k) := by
  unfold KV at r ⊢
  unfold dropK without
  induction r with
  | nil => exact .nil
  | @cons p q ps qs h t ih =>
    obtain ⟨h1, h2⟩ := h
    rw [List.filter_cons, List.filter_cons]
    by_cases e : p.1 = k
    · have a : ¬ decide (p.1 ≠ k) = true := by simp [e]
      have b : ¬ decide (q.1 ≠ k) = true := by simp [h1.symm.trans e]
      rw [if_neg a, if_neg b]; exact ih
    · have e' : ¬ q.1 = k := fun z => e (h1.trans z)
      have a : decide (p.1 ≠ k) = true := by simp [e]
      have b : decide (q.1 ≠ k) = true := by simp [e']
      rw [if_pos a, if_pos b]; exact .cons ⟨h1, h2⟩ ih
theorem KV.keys {kvs : List (κ × V)} {vs : List (κ × Value)} (r : KV kvs vs) : kvs.map (·.1) = vs.map (·.1) := by
  unfold KV at r
  induction r with
  | nil => rfl
  | cons h t ih => rw [List.map_cons, List.map_cons, ih, h.1]
theorem KV.length {kvs : List (κ × V)} {vs : List (κ × Value)} (r : KV kvs vs) : kvs.length = vs.length := Paired.length r
end
/-! ### a tracked dict, its keys ints and texts or tuples of these -/
theorem kV_is {P : Program} {w : World} {k : Key} {u : Value} (r : RelV (kV k) u) : (mixKind P w).is k u = true := by
  cases k with
  | inl i => obtain ⟨t, e⟩ := (show ∃ t, u = Value.int i t from r); subst e; exact mixKind_int P w i t
  | inr x => obtain ⟨t, e⟩ := (show ∃ t, u = Value.str x t from r); subst e; exact mixKind_str P w x t
theorem items_are {P : Program} {w : World} : ∀ {ks : List Key} {us : List Value}, Vals (ks.map kV) us → ItemsAre (mixKind P w) ks us
  | [], _, r => by rw [List.map_nil] at r; cases r; exact .nil
  | k :: ks, _, r => by
    rw [List.map_cons] at r
    cases r with
    | cons h t => exact .cons (kV_is h) (items_are t)
/-- raw entries of a dict with tuple keys -/
abbrev KT (H : Hp) : List (List Key × V) → List (List Key × Addr × Value) → Prop := Paired fun p q => p.1 = q.1 ∧ H q.2.1 = some (.tup (p.1.map kV)) ∧ RelV p.2 q.2.2
theorem KT.val {H : Hp} {kvs : List (List Key × V)} {xs : List (List Key × Addr × Value)} (r : KT H kvs xs) (k : List Key) : RelO (valV kvs k) ((atKey xs k).map (·.2)) := by
  induction r with
  | nil => exact True.intro
  | @cons p q ps qs h t ih =>
    obtain ⟨h1, _, h2⟩ := h
    by_cases e : p.1 = k
    · have e' : q.1 = k := h1.symm.trans e
      have b : atKey (q :: qs) k = some q.2 := by simp [atKey, List.find?_cons, e']
      rw [valV_pos e, b]; exact h2
    · have e' : ¬ q.1 = k := fun z => e (h1.trans z)
      have b : atKey (q :: qs) k = atKey qs k := by simp [atKey, List.find?_cons, e']
      rw [valV_neg e, b]; exact ih
theorem KT.repl {H : Hp} {kvs : List (List Key × V)} {xs : List (List Key × Addr × Value)} (r : KT H kvs xs) (k : List Key) {y : V} {u : Value} (ry : RelV y u) :
    KT H (kvs.map fun kv => if kv.1 = k then (kv.1, y) else kv) (xs.map (putAt k u)) := by
  induction r with
  | nil => exact .nil
  | @cons p q ps qs h t ih =>
    rw [List.map_cons, List.map_cons]
    refine .cons ?_ ih
    obtain ⟨h1, h2, h3⟩ := h
    unfold putAt
    by_cases e : p.1 = k
    · rw [if_pos e, if_pos (h1.symm.trans e)]; exact ⟨h1, h2, ry⟩
    · rw [if_neg e, if_neg (fun z => e (h1.trans z))]; exact ⟨h1, h2, h3⟩
theorem KT.put {H : Hp} {kvs : List (List Key × V)} {xs : List (List Key × Addr × Value)} (r : KT H kvs xs) (k : List Key) {b : Addr} {y : V} {u : Value} (hb : H b = some (.tup (k.map kV))) (ry : RelV y u) :
    KT H (putK kvs k y) (storedH xs k b u) := by
  have e : (kvs.any fun kv => decide (kv.1 = k)) = (atKey xs k).isSome := by
    rw [valV_any, (r.val k).isSome_eq, Option.isSome_map]
  unfold putK storedH
  rw [e]
  by_cases q : (atKey xs k).isSome = true
  · rw [if_pos q, if_pos q]; exact r.repl k ry
  · rw [if_neg q, if_neg q]; exact Paired.snoc r ⟨rfl, hb, ry⟩
theorem KT.keeps {H H' : Hp} {kvs : List (List Key × V)} {xs : List (List Key × Addr × Value)} (r : KT H kvs xs) (ht : ∀ b ys, H b = some (.tup ys) → H' b = some (.tup ys)) : KT H' kvs xs :=
  Paired.mapP r fun _ _ z => ⟨z.1, ht _ _ z.2.1, z.2.2⟩
section
variable {P : Program} {w : World} {H : Hp} {h : Heap} {a : Addr}
theorem rd_of {u : HO} (ok : HOk P w H h) (e : Rd H a u) : ObjOk P w H h a u := e.ok ok
theorem dk_rd {kvs : List (Key × V)} {ep : Nat} (ok : HOk P w H h) (e : Rd H a (.dK kvs ep)) : kvs.length ≤ sizeLine ∧ (a == sysModules) = false ∧ ∃ vs, KV kvs vs ∧ h.DictOf (mixKind P w) a vs :=
  let ⟨z, y, vs, r, d⟩ := (show ObjOk P w H h a (.dK kvs ep) from rd_of ok e); ⟨z, y, vs, r, d.dictOf⟩
theorem dk_of {kvs : List (Key × V)} {ep : Nat} (ok : HOk P w H h) (e : H a = some (.dK kvs ep)) : kvs.length ≤ sizeLine ∧ (a == sysModules) = false ∧ ∃ vs, KV kvs vs ∧ h.DictOf (mixKind P w) a vs := dk_rd ok (.inl e)
/-- a tracked tuple of ints and texts is a key -/
theorem key_of {ks : List Key} (ok : HOk P w H h) (e : H a = some (.tup (ks.map kV))) : (tupleKind (mixKind P w)).is h ks a := by
  obtain ⟨_, its, r, o, h1, h2, n, h3⟩ := (show ObjOk P w H h a (.tup (ks.map kV)) from ok a _ e)
  exact ⟨o, its.toArray, n, h1, h2, h3, by simpa using items_are r⟩
theorem dt_rd {kvs : List (List Key × V)} {ep : Nat} (ok : HOk P w H h) (e : Rd H a (.dT kvs ep)) : kvs.length ≤ sizeLine ∧ (a == sysModules) = false ∧
    ∃ xs, KT H kvs xs ∧ h.DictOfH (tupleKind (mixKind P w)) a xs := by
  obtain ⟨z, y, xs, r, o, es, h1, h2, h3, h4, h5⟩ := (show ObjOk P w H h a (.dT kvs ep) from rd_of ok e)
  refine ⟨z, y, xs, r, o, es, ep, h1, h2, h3, h4, fun x hx => ?_, h5⟩
  have all : ∀ {l : List (List Key × V)} {m : List (List Key × Addr × Value)}, KT H l m → ∀ x ∈ m, (tupleKind (mixKind P w)).is h x.1 x.2.1 := by
    intro l m q
    induction q with
    | nil => intro x hx; exact nomatch hx
    | @cons p q ps qs hq t ih =>
      intro x hx
      rcases List.mem_cons.mp hx with e | hx
      · subst e
        exact key_of ok (by rw [← hq.1]; exact hq.2.1)
      · exact ih x hx
  exact all r x hx
theorem dt_of {kvs : List (List Key × V)} {ep : Nat} (ok : HOk P w H h) (e : H a = some (.dT kvs ep)) : kvs.length ≤ sizeLine ∧ (a == sysModules) = false ∧
    ∃ xs, KT H kvs xs ∧ h.DictOfH (tupleKind (mixKind P w)) a xs := dt_rd ok (.inl e)
end
/-- what the dict at a holds at the key y -/
def DGet (H : Hp) (a : Addr) (y : V) (r : Option V) : Prop :=
  (∃ kvs k ep, Rd H a (.dK kvs ep) ∧ y = kV k ∧ r = valV kvs k) ∨ ∃ kvs k b ep, Rd H a (.dT kvs ep) ∧ y = .ref b ∧ H b = some (.tup (k.map kV)) ∧ r = valV kvs k
/-- the heap behind a[y] = v -/
def DPut (H : Hp) (a : Addr) (y v : V) (R : Hp → Prop) : Prop :=
  (∃ kvs k ep, H a = some (.dK kvs ep) ∧ y = kV k ∧ kvs.length < sizeLine ∧ ∀ ep', R (upd H a (.dK (putK kvs k v) ep'))) ∨
  ∃ kvs k b ep, H a = some (.dT kvs ep) ∧ y = .ref b ∧ H b = some (.tup (k.map kV)) ∧ kvs.length < sizeLine ∧ ∀ ep', R (upd H a (.dT (putK kvs k v) ep'))
theorem DGet.k {H : Hp} {a : Addr} {kvs : List (Key × V)} {k : Key} {ep : Nat} (e : H a = some (.dK kvs ep)) : DGet H a (kV k) (valV kvs k) := .inl ⟨kvs, k, ep, .inl e, rfl, rfl⟩
theorem DGet.t {H : Hp} {a b : Addr} {kvs : List (List Key × V)} {k : List Key} {ep : Nat} (e : H a = some (.dT kvs ep)) (eb : H b = some (.tup (k.map kV))) : DGet H a (.ref b) (valV kvs k) := .inr ⟨kvs, k, b, ep, .inl e, rfl, eb, rfl⟩
theorem DPut.k {H : Hp} {a : Addr} {kvs : List (Key × V)} {k : Key} {v : V} {ep : Nat} {R : Hp → Prop} (e : H a = some (.dK kvs ep)) (hl : kvs.length < sizeLine) (q : ∀ ep', R (upd H a (.dK (putK kvs k v) ep'))) : DPut H a (kV k) v R := .inl ⟨kvs, k, ep, e, rfl, hl, q⟩
theorem DPut.t {H : Hp} {a b : Addr} {kvs : List (List Key × V)} {k : List Key} {v : V} {ep : Nat} {R : Hp → Prop} (e : H a = some (.dT kvs ep)) (eb : H b = some (.tup (k.map kV))) (hl : kvs.length < sizeLine) (q : ∀ ep', R (upd H a (.dT (putK kvs k v) ep'))) :
    DPut H a (.ref b) v R := .inr ⟨kvs, k, b, ep, e, rfl, eb, hl, q⟩
section
variable {X : Cx} {pins : List (Addr × Obj)} {σ : St} {H : Hp} {s : Shared} {a : Addr} {y v : V} {u r : Value} {o : Option V} {A : Around} {E : Value → Shared → Prop}
theorem Inv.big (I : Inv X pins σ H s) : sysModules < s.heap.objs.size := by
  have h : mainGlobals < s.heap.objs.size := (I.mod.glob.keeps I.bk).lt
  exact Nat.lt_trans (by decide) h
/-- d[y], there -/
theorem d_getItem {Q : Value → Shared → Prop} (hu : A.units + 1 < cLine) (I : Inv X pins σ H s) (g : DGet H a y (some v)) (ry : RelV y u) (h : ∀ w' s', Inv X pins σ H s' → RelV v w' → Q w' s') :
    wpAny (model X.prog X.w) A (getItem (.ref a) u) Q E s := by
  rcases g with ⟨kvs, k, _, e, ey, l⟩ | ⟨kvs, k, b, _, e, ey, eb, l⟩
  · subst ey
    obtain ⟨z, hd, vs, rel, dd⟩ := dk_rd I.hok e
    obtain ⟨w', hw, rw'⟩ := RelO.some_of (v := v) (o := valueAt vs k) (by rw [l]; exact rel.val k)
    exact wpAny_getItem_of (kV_is ry) dd.mapOf hw (h w' _ (I.tok _) rw')
  · subst ey
    cases (show u = Value.ref b from ry)
    obtain ⟨z, hd, xs, rel, dd⟩ := dt_rd I.hok e
    obtain ⟨w', hw, rw'⟩ := RelO.some_of (v := v) (o := (atKey xs k).map (·.2)) (by rw [l]; exact rel.val k)
    obtain ⟨p, hp, hp2⟩ := Option.map_eq_some_iff.mp hw
    refine wpAny_getItem_heap (tupleKind_room_in1 hu) (key_of I.hok eb) dd hp ?_
    rw [hp2]
    exact h w' _ (I.tok _) rw'
theorem d_notIn {Q : Value → Shared → Prop} (hu : A.units + 1 < cLine) (I : Inv X pins σ H s) (g : DGet H a y o) (ry : RelV y u) (h : ∀ s', Inv X pins σ H s' → Q (.bool (!o.isSome)) s') :
    wpAny (model X.prog X.w) A (compareOp .NotIn u (.ref a)) Q E s := by
  rcases g with ⟨kvs, k, _, e, ey, l⟩ | ⟨kvs, k, b, _, e, ey, eb, l⟩
  · subst ey
    obtain ⟨z, hd, vs, rel, dd⟩ := dk_rd I.hok e
    refine wpAny_notIn_of (kV_is ry) hd dd.mapOf ?_
    rw [← (rel.val k).isSome_eq, ← l]
    exact h _ (I.tok _)
  · subst ey
    cases (show u = Value.ref b from ry)
    obtain ⟨z, hd, xs, rel, dd⟩ := dt_rd I.hok e
    refine wpAny_notIn_heap (tupleKind_room_in1 hu) (key_of I.hok eb) hd dd ?_
    have q := (rel.val k).isSome_eq
    rw [Option.isSome_map] at q
    rw [← q, ← l]
    exact h _ (I.tok _)
/-- a dict's object is replaced -/
theorem d_write {h' : Heap} {t' : Nat} {ob : HO} (I : Inv X pins σ H s) (mu : Mut (H a)) (hs : Heap.SameBut a s.heap h') (he : ∃ q, h'.get? a = some q) (new : ObjOk X.prog X.w (upd H a ob) h' a ob) :
    Inv X pins σ (upd H a ob) { s with heap := h', toks := t' } :=
  I.write (x := a) (e := a) mu (.inl rfl) (fun b q hb z => (hs.2 b hb).trans z) he new
theorem dk_new {P : Program} {w : World} {h' : Heap} {kvs : List (Key × V)} {vs : List (Key × Value)} (z : kvs.length ≤ sizeLine) (hd : (a == sysModules) = false) (rel : KV kvs vs) (dd : h'.DictOf (mixKind P w) a vs) :
    ∃ ep, ∀ H', ObjOk P w H' h' a (.dK kvs ep) := let ⟨ep, d⟩ := dd.dictAt; ⟨ep, fun _ => ⟨z, hd, vs, rel, d⟩⟩
/-- d[y] = v -/
theorem d_setItem {R : Hp → Prop} {Q : Unit → Shared → Prop} (hu : A.units + 1 < cLine) (I : Inv X pins σ H s) (g : DPut H a y v R) (ry : RelV y u) (rv : RelV v r) (h : ∀ H' s', Inv X pins σ H' s' → R H' → Q () s') :
    wpAny (model X.prog X.w) A (setItem (.ref a) u r) Q E s := by
  rcases g with ⟨kvs, k, ep0, e, ey, l, hR⟩ | ⟨kvs, k, b, ep0, e, ey, eb, l, hR⟩
  · subst ey
    obtain ⟨z, hd, vs, rel, dd⟩ := dk_of I.hok e
    have hz : vs.length ≤ sizeLine := by rw [← rel.length]; exact z
    have hl : (putK kvs k v).length ≤ sizeLine := by have := length_putK kvs k v; omega
    refine wpAny_setItem_pairs (hsz := hz) (kV_is ry) dd fun h' dd' hs => ?_
    have he : ∃ q, h'.get? a = some q := let ⟨q, _, _, hq, _⟩ := dd'; ⟨q, hq⟩
    obtain ⟨ep, ok⟩ := dk_new hl hd (rel.put k rv) dd'
    exact h _ _ (d_write I (by rw [e]; exact True.intro) hs he (ok _)) (hR ep)
  · subst ey
    cases (show u = Value.ref b from ry)
    obtain ⟨z, hd, xs, rel, dd⟩ := dt_of I.hok e
    have hz : xs.length ≤ sizeLine := by rw [← Paired.length rel]; exact z
    have hl : (putK kvs k v).length ≤ sizeLine := by have := length_putK kvs k v; omega
    refine wpAny_setItem_heap (hsz := hz) (tupleKind_room_in1 hu) (key_of I.hok eb) dd fun h' dd' hs => ?_
    obtain ⟨q, es, ep, hq, h2, h3, h4, _, h5⟩ := dd'
    refine h _ _ (d_write (ob := .dT (putK kvs k v) ep) I (by rw [e]; exact True.intro) hs ⟨q, hq⟩ ⟨hl, hd, _, (rel.put k eb rv).keeps fun c ys ec => ?_, q, es, hq, h2, h3, h4, h5⟩) (hR ep)
    rw [upd_ne (ne_of ec e (fun z => nomatch z))]
    exact ec
end
section
variable {X : Cx} {pins : List (Addr × Obj)} {σ : St} {H : Hp} {s : Shared} {a : Addr} {kvs : List (Key × V)} {k : Key} {u : Value} {A : Around} {E : Value → Shared → Prop}
/-- len(d) -/
theorem d_len {Q : Value → Shared → Prop} (I : Inv X pins σ H s) {ep : Nat} (e : Rd H a (.dK kvs ep)) (h : ∀ t s', Inv X pins σ H s' → Q (.int kvs.length t) s') : wpAny (model X.prog X.w) A (call (.builtin "len") [.ref a]) Q E s := by
  obtain ⟨z, hd, vs, rel, dd⟩ := dk_rd I.hok e
  refine call_len_dict hd dd (by rw [← rel.length]; rw [sizeLine_eq] at z; omega) ?_
  rw [← rel.length]
  exact h _ _ (I.tok _)
end
/-! ### readings and rules -/
/-- the element of a subscription, not a slice -/
def NoSl (i : Expr) : Prop := ∀ ov iv, subscripted i false ov iv = operate [ov, iv] (getItem ov iv)
theorem subD_of {prog : Program} {w : World} {A : Around} {E : Value → Shared → Prop} {s : Shared} {env : Env} {value slice : Expr} {pos : Pos} {T id : String} {Q : Value → Shared → Prop}
    (hl : typeLookup (.type T) "__getitem__" = pure (some (.builtin id))) (hs : NoSl slice)
    (h : wpAny (model prog w) A (eval value env) (fun o s₁ => wpAny (model prog w) A (eval slice env) (fun i s₂ => s₂.TypeIs o T ∧ wpAny (model prog w) A (getItem o i) Q E s₂) E s₁) E s) :
    wpAny (model prog w) A (eval (.Subscript value slice pos) env) Q E s := by
  refine Subscript_ (wpAny_mono h (fun o s₁ h₁ => wpAny_mono h₁ (fun i s₂ h₂ => ?_) fun _ _ x => x) fun _ _ x => x)
  obtain ⟨hT, h₂⟩ := h₂
  unfold subscriptTail
  refine wpAny_bind ?_
  rw [getitemInPython_of_ne hT.not_modules]
  refine wpAny_bind (wpAny_specialOf hT hl ?_)
  have fin : wpAny (model prog w) A (subscripted slice false o i) (fun r s₃ => wpAny (model prog w) A (letTemporaryGo value o r >>= fun _ => pure r) Q E s₃) E s₂ := by
    rw [hs o i]
    exact wpAny_operating (wpAny_mono h₂ (fun r s₃ h₃ => wpAny_bind (wpAny_letTemporaryGo (wpAny_pure h₃))) fun _ _ x => x)
  first
    | exact wpAny_pure (wpAny_bind fin)
    | exact wpAny_bind (wpAny_pure (wpAny_bind fin))
    | exact wpAny_bind fin
theorem dict_typeIs {X : Cx} {pins : List (Addr × Obj)} {σ : St} {H : Hp} {s : Shared} {a : Addr} {y : V} {o : Option V} (I : Inv X pins σ H s) (g : DGet H a y o) : s.TypeIs (.ref a) "dict" := by
  rcases g with ⟨kvs, k, _, e, _, _⟩ | ⟨kvs, k, b, _, e, _, _, _⟩
  · obtain ⟨_, _, vs, _, dd⟩ := dk_rd I.hok e
    exact dd.typeIs
  · obtain ⟨_, _, xs, _, dd⟩ := dt_rd I.hok e
    exact dd.typeIs
/-- d[y] -/
def tDGet (td ty : TE) : TE := fun σ H Q => td σ H fun x H1 => ty σ H1 fun y H2 => ∃ a v, x = .ref a ∧ DGet H2 a y (some v) ∧ Q v H2
def tDNotIn (ty td : TE) : TE := fun σ H Q => ty σ H fun y H1 => td σ H1 fun x H2 => ∃ a o, x = .ref a ∧ DGet H2 a y o ∧ Q (.bl (!o.isSome)) H2
/-- d[y] = v -/
def sDPut (td ty tv : TE) : TS := fun D σ H => tv σ H fun v H1 => td σ H1 fun x H2 => ty σ H2 fun y H3 => ∃ a, x = .ref a ∧ DPut H3 a y v (D.nx σ)
section
variable {X : Cx} {o i e value : Expr} {pos pos' tpos : Pos} {td ty tv : TE}
theorem pe_dget (hu : X.A.units + 1 < cLine) (ho : PE X o td) (hi : PE X i ty) (hs : NoSl i) : PE X (.Subscript o i pos) (tDGet td ty) := by
  intro pins s σ H Q I h
  refine subD_of PySem.F.slot_dict_getitem.lookup hs (thn (ho pins s σ H _ I h) fun u s1 ⟨x, H1, I1, rx, q1⟩ => thn (hi pins s1 σ H1 _ I1 q1) fun iv s2 ⟨y, H2, I2, ry, a, v, ex, g, q2⟩ => ?_)
  subst ex
  obtain rfl : u = Value.ref a := rx
  exact ⟨dict_typeIs I2 g, d_getItem hu I2 g ry fun w' s3 I3 rw' => ⟨v, H2, I3, rw', q2⟩⟩
theorem pc_dnotin (hu : X.A.units + 1 < cLine) (hi : PE X i ty) (ho : PE X o td) : PC X .NotIn i o (tDNotIn ty td) := by
  intro pins s σ H Q I h
  refine thn (hi pins s σ H _ I h) fun iv s1 ⟨y, H1, I1, ry, q1⟩ => thn (ho pins s1 σ H1 _ I1 q1) fun u s2 ⟨x, H2, I2, rx, a, ov, ex, g, q2⟩ => ?_
  subst ex
  obtain rfl : u = Value.ref a := rx
  exact d_notIn hu I2 g ry fun s3 I3 => ⟨.bl (!ov.isSome), H2, I3, rfl, q2⟩
theorem ps_dput (hu : X.A.units + 1 < cLine) (ho : PE X o td) (hi : PE X i ty) (hv : PE X value tv) (hs : swapsWith value (some (.Subscript o i pos')) pos.line X.env = pure false) :
    PS X (.Assign [.Subscript o i pos'] value pos) (sDPut td ty tv) := by
  intro pins s σ H D I h
  refine wpAny_Assign_Subscript (thn (hv pins s σ H _ I h) fun r s1 ⟨v, H1, I1, rv, q1⟩ => thn (ho pins s1 σ H1 _ I1 q1) fun u s2 ⟨x, H2, I2, rx, q2⟩ => thn (hi pins s2 σ H2 _ I2 q2) fun iv s3 ⟨y, H3, I3, ry, a, ex, g⟩ => ?_) hs
  subst ex
  obtain rfl : u = Value.ref a := rx
  exact d_setItem hu I3 g ry rv fun H4 s4 I4 q3 => ⟨σ, H4, I4, q3⟩
end
/-! ### displays -/
theorem dk_empty {P : Program} {w : World} {H : Hp} (h : Heap) (hb : sysModules < h.objs.size) : ObjOk P w H (h.push { cls := .type "dict", data := .dict #[] }) h.objs.size (.dK [] 0) :=
  ⟨Nat.zero_le _, beq_eq_false_iff_ne.mpr (Ne.symm (Nat.ne_of_lt hb)), [], .nil, by
    obtain ⟨o, es, ep, ho, hx, hd, r⟩ := (Heap.DictOf.new h : (h.push { cls := .type "dict", data := .dict #[] }).DictOf (mixKind P w) h.objs.size [])
    have e := Heap.get?_push_size h (o := { cls := .type "dict", data := .dict #[] }) rfl
    rw [ho] at e
    cases e
    cases hd
    exact ⟨_, _, ho, hx, rfl, r⟩⟩
/-- {}, to be a dict of the kind that is wanted -/
def tDNewK : TE := fun _ H Q => ∀ p, H p = none → Q (.ref p) (upd H p (.dK [] 0))
section
variable {X : Cx} {pos : Pos}
theorem pe_dnewK : PE X (.Dict [] [] pos) tDNewK := fun pins s σ H Q I h =>
  wpAny_Dict_empty ⟨.ref s.heap.objs.size, _, I.laid (a := s.heap.objs.size) (o := .dK [] 0) (t' := s.toks) (fun _ _ q => Heap.get?_push_of_some _ q) (Nat.le_refl _) (dk_empty s.heap I.big), rfl, h _ (I.hok.fresh (Nat.le_refl _))⟩
end
/-! ### methods -/
/-- a method call o.m(e) of a built-in, with one argument: what must be seen of the text -/
structure M1 (X : Cx) (o : Expr) (m : Str) (apos : Pos) (e : Expr) (cpos : Pos) : Prop where
  base : attributeBase o m X.env (eval o X.env) = eval o X.env
  few : ((backTo cpos (starEach [e] X.env)).all (fun x => !x.1) && (backToKw cpos (keywordEach [] X.env)).all (fun x => x.1.isSome)
    && decide (([e] : List Expr).length + ([] : List Keyword).length + (if ([] : List Keyword).isEmpty then 0 else 1) < 30)) = true
  line : (apos.endLine == cpos.line) = true
  trees : backTo cpos (starEach [e] X.env) = [(false, eval e X.env)]
structure M2 (X : Cx) (o : Expr) (m : Str) (apos : Pos) (e f : Expr) (cpos : Pos) : Prop where
  base : attributeBase o m X.env (eval o X.env) = eval o X.env
  few : ((backTo cpos (starEach [e, f] X.env)).all (fun x => !x.1) && (backToKw cpos (keywordEach [] X.env)).all (fun x => x.1.isSome)
    && decide (([e, f] : List Expr).length + ([] : List Keyword).length + (if ([] : List Keyword).isEmpty then 0 else 1) < 30)) = true
  line : (apos.endLine == cpos.line) = true
  trees : backTo cpos (starEach [e, f] X.env) = [(false, eval e X.env), (false, eval f X.env)]
section
variable {X : Cx} {pins : List (Addr × Obj)} {σ : St} {H : Hp} {s : Shared} {a : Addr} {y d : V} {u r : Value} {o : Option V} {A : Around} {E : Value → Shared → Prop}
end
section
variable {X : Cx} {o e f : Expr} {apos cpos : Pos} {td ty tx : TE}
end
/-! ### dict(d): a copy -/
section
variable {X : Cx} {pins : List (Addr × Obj)} {σ : St} {H : Hp} {s : Shared} {a : Addr} {kvs : List (Key × V)} {A : Around} {E : Value → Shared → Prop}
end
section
variable {X : Cx} {pins : List (Addr × Obj)} {σ : St} {H : Hp} {s : Shared} {a : Addr} {y : V} {u : Value} {A : Around} {E : Value → Shared → Prop}
end
end L2
namespace L2
open PySem PySem.Spec PyProof.Rows
section
variable {X : Cx}
/-- len of a dict -/
theorem call_lenD : CallR X (.builtin "len") (fun xs H Q => ∃ a kvs ep, xs = [V.ref a] ∧ H a = some (.dK kvs ep) ∧ Q (.int kvs.length) H) := by
  intro pins s σ H xs us Q I r h
  obtain ⟨a, kvs, ep, rfl, ha, q⟩ := h
  obtain ⟨u, rfl, ru⟩ := vals1 r
  cases ru
  exact d_len I (.inl ha) fun t s' I' => ⟨.int kvs.length, H, I', ⟨t, rfl⟩, q⟩
end
/-! ### a dict's pairs: keys that differ -/
section
variable {κ : Type} [DecidableEq κ]
end
end L2
end
section
set_option Elab.async false
set_option linter.all false
set_option maxRecDepth 100000
set_option maxHeartbeats 4000000
/-! MORE RULES over the hand layer: a method by the class that stands there, isinstance, a class without __init__, a comprehension. -/
namespace L2
open PySem PySem.Spec PyProof.Rows
/-! ### a method, whatever the class -/
/-- every instance of the class at C answers m by a def that keeps sp -/
structure MethAt (P : Program) (w : World) (K : PySem.W.Frag) (mg : Str → Option Value) (base : Bs) (CX : CXT) (k : Nat) (C : Addr) (m : Str) (sp : Sp) : Prop where
  cl : Cls K C
  ex : ∃ (f : Addr) (fd : FuncData) (ps : List Str), Meth K C m f ∧ FnOk P w K mg base CX k f fd ps sp ∧ Binds K fd ps []
theorem MethAt.mono {P : Program} {w : World} {K : PySem.W.Frag} {mg : Str → Option Value} {base : Bs} {CX : CXT} {j k : Nat} {C : Addr} {m : Str} {sp : Sp} (h : MethAt P w K mg base CX j C m sp) (hk : j ≤ k) : MethAt P w K mg base CX k C m sp :=
  ⟨h.cl, let ⟨f, fd, ps, a, b, c⟩ := h.ex; ⟨f, fd, ps, a, b.mono hk, c⟩⟩
section
variable {X : Cx} {CX : CXT} {k : Nat} {E : XK} {m : Str} {pos apos : Pos} {e o : Expr} {es : List Expr} {ta : TE} {t : TA}
def tMethD {ι : Type} (R : ι → Addr) (m : Str) (sp : ι → Sp) (E : XK) (ta : TE) (t : TA) : TE := fun σ H Q => ta σ H fun x H1 => ∃ i a dx fs, x = .ref a ∧ H1 a = some (.ins (R i) dx fs) ∧ fs.lookup m = none ∧
  t σ H1 fun vs H2 => sp i (x :: vs) H2 Q E
theorem pe_methD {ι : Type} {R : ι → Addr} {sp : ι → Sp} {pl : Sem Bool} (he : PE X o ta) (hR : ∀ i, MethAt X.prog X.w X.K X.mg X.base CX k (R i) m (sp i)) (hr : Room k X.A) (hx : Passes CX X E) (ha : PA X (e :: es) t)
    (hst : starEach (e :: es) X.env = (false, eval e X.env) :: starEach es X.env := by rfl) (hpl : (backTo pos (starEach es X.env)).any (·.1) = false := by rfl)
    (ht : eval (.Call (.Attribute o m apos) (e :: es) [] pos) X.env = (do
      let ov ← eval o X.env
      standAt apos.atName
      let (f, first) ← holding [ov] (getMethod ov m pl)
      callWith pos f first (backTo pos (starEach (e :: es) X.env)) (backToKw pos (keywordEach [] X.env))) := by rfl) :
    PE X (.Call (.Attribute o m apos) (e :: es) [] pos) (tMethD R m sp E ta t) := by
  intro pins s σ H Q I h
  refine PySem.W.methodCall_KW (pl := pl) (thn (he pins s σ H _ I h) fun u s1 ⟨x, H1, I1, rx, i, a, dx, fs, ex, ea, l, q⟩ => ?_) ht
  subst ex
  obtain rfl : u = Value.ref a := rx
  obtain ⟨c, f, fd, ps, hm, F, hb⟩ := hR i
  refine getmeth_ok I1 ea c hm l ?_
  refine PySem.W.callWith_K (first := [.ref a]) (h₀ := X.base) I.ok.mod.kin hm.kp (thn (ha pos pins s1 σ H1 _ I1 q) fun us s2 ⟨vs, H2, I2, r, q2⟩ => ⟨I2.kIn, ?_⟩) hst hpl
  exact run_fn (us := .ref a :: us) (vs := .ref a :: vs) (dvs := []) (ds := []) F hr hb .nil hx I2 (.cons rfl r) (by rw [List.append_nil]; exact q2)
end
/-! ### isinstance -/
section
variable {X : Cx}
/-- a built-in class's name -/
theorem pe_type {x : Str} {n : String} {pos : Pos} (hg : Gl X x) (hm : X.mg x = none) (hv : bootBuiltins x = some (.type n)) (hn : x ≠ "__name__" := by decide) (hd : (x == ("__debug__" : Str)) = false := by decide) : PE X (.Name x pos) (tC (.ty n)) :=
  pe_bltn hg hm hv rfl hn hd
end
/-! ### a class that has no __init__ of its own -/
structure Mk0 (K : PySem.W.Frag) (C : Addr) : Prop where
  makes : PySem.W.makesIn K C = true
  init : PySem.W.findIn K (.ref C) "__init__" = some (some (.builtin "object.__init__"))
  kp : PySem.W.keepIn K (.ref C) = true
section
variable {X : Cx} {C : Addr} {x : Str} {p pos : Pos}
end
/-! ### a comprehension -/
/-- the cells of the free names, as closureFor lays them -/
def clos (env : Env) : List (Str × NameKind) → List (Str × Addr) → List (Str × Addr)
  | [], cs => cs
  | (n, k) :: r, cs => clos env r (if k == .free then (match env.cells.lookup n with | some a => (n, a) :: cs | none => cs) else cs)
theorem clos_eq (env : Env) : ∀ (ns : List (Str × NameKind)) (cs : List (Str × Addr)), (∀ y ∈ ns, y.2 = .free → ∃ c, env.cells.lookup y.1 = some c) →
    (forIn ns cs fun (x : Str × NameKind) (r : List (Str × Addr)) => (if (x.2 == .free) = true then do let a ← cellOf env x.1; pure (ForInStep.yield ((x.1, a) :: r)) else pure (ForInStep.yield r) : Sem (ForInStep (List (Str × Addr))))) = pure (clos env ns cs)
  | [], cs, _ => rfl
  | (n, k) :: r, cs, h => by
    have ih := clos_eq env r
    rw [List.forIn_cons]
    by_cases hk : k = .free
    · subst hk
      obtain ⟨c, e⟩ := h (n, .free) List.mem_cons_self rfl
      have e' : env.cells.lookup n = some c := e
      simp only [beq_self_eq_true, if_true, cellOf, e', pure_bind, clos]
      exact ih _ fun y hy => h y (List.mem_cons_of_mem _ hy)
    · have hb : (k == NameKind.free) = false := by simpa using hk
      simp only [hb, Bool.false_eq_true, if_false, pure_bind, clos]
      exact ih _ fun y hy => h y (List.mem_cons_of_mem _ hy)
theorem closureFor_eq {scope : Scope} {env : Env} (h : ∀ y ∈ scope.names, y.2 = .free → ∃ c, env.cells.lookup y.1 = some c) : closureFor scope env = pure (clos env scope.names []) := by
  have q := clos_eq env scope.names [] h
  simp only [closureFor]
  first
    | (rw [q]; rfl)
    | (refine Eq.trans (congrArg (fun z => z >>= fun cs => pure cs) q) ?_; rfl)
theorem clos_sub {env : Env} {x : Str} {c : Addr} : ∀ {ns : List (Str × NameKind)} {cs : List (Str × Addr)}, (clos env ns cs).lookup x = some c → cs.lookup x = some c ∨ env.cells.lookup x = some c
  | [], cs, h => .inl h
  | (n, k) :: r, cs, h => by
    have ih := clos_sub (ns := r) h
    rcases ih with ih | ih
    · by_cases hk : (k == NameKind.free) = true
      · rw [if_pos hk] at ih
        cases e : env.cells.lookup n with
        | none => rw [e] at ih; exact .inl ih
        | some a =>
          rw [e] at ih
          by_cases hx : x == n
          · have hx' : x = n := by simpa using hx
            subst hx'
            simp at ih
            subst ih
            exact .inr e
          · simp only [List.lookup_cons, hx] at ih
            exact .inl ih
      · rw [if_neg hk] at ih
        exact .inl ih
    · exact .inr ih
theorem clos_keeps {env : Env} {x : Str} {c : Addr} (hc : env.cells.lookup x = some c) : ∀ {ns : List (Str × NameKind)} {cs : List (Str × Addr)}, cs.lookup x = some c → (clos env ns cs).lookup x = some c
  | [], cs, h => h
  | (n, k) :: r, cs, h => by
    refine clos_keeps hc (ns := r) ?_
    by_cases hk : (k == NameKind.free) = true
    · rw [if_pos hk]
      cases e : env.cells.lookup n with
      | none => exact h
      | some a =>
        by_cases hx : x == n
        · have hx' : x = n := by simpa using hx
          subst hx'
          rw [hc] at e
          cases e
          simp
        · simp only [List.lookup_cons, hx]
          exact h
    · rw [if_neg hk]
      exact h
theorem clos_has {env : Env} {x : Str} {c : Addr} (hc : env.cells.lookup x = some c) : ∀ {ns : List (Str × NameKind)} {cs : List (Str × Addr)}, (x, NameKind.free) ∈ ns → (clos env ns cs).lookup x = some c
  | [], cs, h => by simp at h
  | (n, k) :: r, cs, h => by
    rcases List.mem_cons.mp h with h | h
    · cases h
      refine clos_keeps hc (ns := r) ?_
      simp [hc]
    · exact clos_has hc (ns := r) h
theorem relabel_cell {scope : Scope} {env : Env} {x : Str} : ∀ {ns : List (Str × NameKind)} {k : NameKind},
    (ns.map fun (n, k) => if (k == NameKind.free && env.scope.kind == .function && env.kindOf n == some .cell) then (n, NameKind.cell) else (n, k)).lookup x = some k → (k = .cell ∨ k = .free) → (∀ y ∈ ns, y.2 ≠ .cell) → (x, NameKind.free) ∈ ns
  | [], _, h, _, _ => by simp at h
  | (n, j) :: r, k, h, hk, nc => by
    by_cases hx : x == n
    · have hx' : x = n := by simpa using hx
      subst hx'
      have hj : j ≠ .cell := nc _ List.mem_cons_self
      by_cases hc : (j == NameKind.free && env.scope.kind == .function && env.kindOf x == some .cell) = true
      · have : j = .free := by
          have := (Bool.and_eq_true_iff.mp (Bool.and_eq_true_iff.mp hc).1).1
          simpa using this
        subst this
        exact List.mem_cons_self
      · simp only [List.map_cons, hc, if_neg, Bool.false_eq_true, not_false_eq_true, List.lookup_cons, beq_self_eq_true] at h
        have : j = k := by simpa using h
        subst this
        rcases hk with hk | hk
        · exact absurd hk hj
        · subst hk; exact List.mem_cons_self
    · refine List.mem_cons_of_mem _ (relabel_cell (scope := scope) (env := env) (ns := r) (k := k) ?_ hk fun y hy => nc y (List.mem_cons_of_mem _ hy))
      simp only [List.map_cons] at h
      by_cases hc : (j == NameKind.free && env.scope.kind == .function && env.kindOf n == some .cell) = true
      · rw [if_pos hc] at h
        simpa only [List.lookup_cons, hx] using h
      · rw [if_neg hc] at h
        simpa only [List.lookup_cons, hx] using h
theorem relabel_free {env : Env} {x : Str} : ∀ {ns : List (Str × NameKind)}, ns.lookup x = some .free →
    (ns.map fun (n, k) => if (k == NameKind.free && env.scope.kind == .function && env.kindOf n == some .cell) then (n, NameKind.cell) else (n, k)).lookup x = some .cell ∨
    (ns.map fun (n, k) => if (k == NameKind.free && env.scope.kind == .function && env.kindOf n == some .cell) then (n, NameKind.cell) else (n, k)).lookup x = some .free
  | [], h => by simp at h
  | (n, j) :: r, h => by
    by_cases hx : x == n
    · have hx' : x = n := by simpa using hx
      subst hx'
      have : j = .free := by simpa using h
      subst this
      by_cases hc : (NameKind.free == NameKind.free && env.scope.kind == .function && env.kindOf x == some .cell) = true
      · left; simp only [List.map_cons]; rw [if_pos hc]; simp
      · right; simp only [List.map_cons]; rw [if_neg hc]; simp
    · have h' : r.lookup x = some .free := by simpa only [List.lookup_cons, hx] using h
      have ih := relabel_free (env := env) (ns := r) h'
      simp only [List.map_cons]
      by_cases hc : (j == NameKind.free && env.scope.kind == .function && env.kindOf n == some .cell) = true
      · rw [if_pos hc]; simpa only [List.lookup_cons, hx] using ih
      · rw [if_neg hc]; simpa only [List.lookup_cons, hx] using ih
end L2
end
section
set_option Elab.async false
set_option linter.all false
set_option maxRecDepth 100000
set_option maxHeartbeats 4000000
namespace L2
open PySem PySem.Spec PyProof.Rows
/-- a comprehension's block: own names, then the captured ones -/
abbrev cxB (X : Cx) (scope : Scope) (C : Addr) (N' : List Str) (s₀ : Shared) (H₀ : Hp) (fp : List Addr) : Cx :=
  { X with N := N', s₀ := s₀, H₀ := H₀, env := compEnvC scope (clos X.env scope.names []) C X.env, outer := X.stack, stack := X.stack, ex := fp, fn := fun _ => false, cw := fun _ => false, pn := [], xe := fun _ _ => False }
/-- the captured names: where they stand in X -/
def CapsOk (X : Cx) (scope : Scope) : List (Str × Nat) → Prop
  | [] => True
  | p :: r => (scope.names.lookup p.1 = some .free ∧ X.N[p.2]? = some p.1 ∧ (X.env.scope.names.lookup p.1 = some .cell ∨ X.env.scope.names.lookup p.1 = some .free)) ∧ CapsOk X scope r
theorem CapsOk.mem {X : Cx} {scope : Scope} : ∀ {l : List (Str × Nat)}, CapsOk X scope l → ∀ p ∈ l, scope.names.lookup p.1 = some .free ∧ X.N[p.2]? = some p.1 ∧ (X.env.scope.names.lookup p.1 = some .cell ∨ X.env.scope.names.lookup p.1 = some .free)
  | [], _, p, h => by simp at h
  | q :: r, h, p, hp => by
    rcases List.mem_cons.mp hp with e | e
    · rw [e]; exact h.1
    · exact CapsOk.mem h.2 p e
/-- every free name of the block is a cell's here -/
def FreesOk (X : Cx) (names : List (Str × NameKind)) : Prop := (names.all fun y => y.2 != .free || X.env.scope.names.lookup y.1 == some .cell || X.env.scope.names.lookup y.1 == some .free) = true
theorem FreesOk.mem {X : Cx} {l : List (Str × NameKind)} (h : FreesOk X l) : ∀ y ∈ l, y.2 = .free → (X.env.scope.names.lookup y.1 = some .cell ∨ X.env.scope.names.lookup y.1 = some .free) := fun y hy e => by
  have q := List.all_eq_true.mp h y hy
  rw [e] at q
  have q' : ((X.env.scope.names.lookup y.1 == some .cell) || (X.env.scope.names.lookup y.1 == some .free)) = true := q
  rcases Bool.or_eq_true_iff.mp q' with z | z
  · exact .inl (eq_of_beq z)
  · exact .inr (eq_of_beq z)
structure CompScope (X : Cx) (scope : Scope) (own : List Str) (caps : List (Str × Nat)) : Prop where
  kind : scope.kind = .function
  nocell : ∀ y ∈ scope.names, y.2 ≠ .cell
  names : ∀ y ∈ scope.names, y.2 = .local → scope.names.lookup y.1 = some .local
  caps : CapsOk X scope caps
  frees : FreesOk X scope.names
abbrev capN (own : List Str) (caps : List (Str × Nat)) : List Str := own ++ caps.map (·.1)
abbrev capS (own : List Str) (caps : List (Str × Nat)) (σ : St) : St := List.replicate own.length none ++ caps.map fun p => (σ[p.2]?).getD none
theorem compLoop_any {prog : Program} {w : World} {A : Around} {R : Result → Shared → Prop} {s : Shared} {elt target iter : Expr} {ifs : List Expr} {scope : Scope} {pos : Pos} {it acc : Value} {env : Env} (I : Nat → Shared → Prop)
    (turn : ∀ n s, I n s → wpAny (model prog w) A (pyNext it) (fun r s₁ => match r with
      | none => R (.ok .next) s₁
      | some v => wpAny (model prog w) A (letOwnedTupleGo target it v) (fun _ s₁' => wpAny (model prog w) A (assign target env v) (fun _ s₂ =>
          wpAny (model prog w) A (forIn ifs true fun c r => if r = true then do let ok ← isTrue c env (eval c env); pure (ForInStep.yield ok) else pure (ForInStep.yield r)) (fun ok s₃ =>
            if ok = true then wpAny (model prog w) A (eval elt env) (fun x s₄ =>
              wpAny (model prog w) A (call (.builtin "list.append") [acc, x]) (fun _ s₅ => ∃ m, m < n ∧ I m s₅) (fun _ _ => False) s₄) (fun _ _ => False) s₃
            else ∃ m, m < n ∧ I m s₃) (fun _ _ => False) s₂) (fun _ _ => False) s₁') (fun _ _ => False) s₁) (fun _ _ => False) s)
    (n : Nat) (h : I n s) :
    codeAny (model prog w) A (.compLoop (.ListComp elt [⟨target, iter, ifs, 0⟩] scope pos) 0 it acc env) R s := by
  refine codeAny_loop rfl I (fun n s hI => ?_) n h
  show wpAny _ A ((compTurn (.ListComp elt [⟨target, iter, ifs, 0⟩] scope pos) 0 it acc env).onRaise (fun x => do noteFrame x env; theTreesLotGoes x)) _ _ s
  refine wpAny_noted ?_
  rw [compTurn_list]
  refine wpAny_bind (wpAny_standAt (wpAny_bind (wpAny_mono (turn n s hI) (fun r s₁ h₁ => ?_) fun _ _ h' => h'.elim)))
  cases r with
  | none => exact wpAny_pure h₁
  | some v =>
    refine wpAny_bind (wpAny_mono h₁ (fun _ s₁' h₁' => ?_) fun _ _ h' => h'.elim)
    refine wpAny_bind (wpAny_mono h₁' (fun _ s₂ h₂ => wpAny_bind (wpAny_mono h₂ (fun ok s₃ h₃ => ?_) fun _ _ h' => h'.elim)) fun _ _ h' => h'.elim)
    cases ok with
    | false => exact wpAny_pure ⟨rfl, h₃⟩
    | true =>
      exact wpAny_bind (wpAny_bind (wpAny_mono h₃ (fun x s₄ h₄ => wpAny_bind (wpAny_mono h₄ (fun _ s₅ h₅ => wpAny_pure (wpAny_pure ⟨rfl, h₅⟩)) fun _ _ h' => h'.elim)) fun _ _ h' => h'.elim))
section
variable {X : Cx} {pins : List (Addr × Obj)} {σ : St} {H : Hp} {s s1 : Shared} {scope : Scope} {own : List Str} {caps : List (Str × Nat)} {fp : List Addr}
theorem Inv.block {h1 : Heap} {tk : Nat} (I : Inv X pins σ H s) (S : CompScope X scope own caps) (hf : ∀ b ∈ fp, FpOk X pins H b)
    (hns : h1.Ns s.heap.objs.size fun _ => none) (hk : ∀ b o, s.heap.get? b = some o → h1.get? b = some o) (hfl : ∀ b ∈ fp, b < s.heap.objs.size) :
    Inv (cxB X scope s.heap.objs.size (capN own caps) s H fp) [] (capS own caps σ) H { s with heap := h1, toks := tk } := by
  have hfree : ∀ y ∈ scope.names, y.2 = .free → ∃ c, X.env.cells.lookup y.1 = some c := fun y hy e => I.ok.has _ (S.frees.mem y hy e)
  have sub : ∀ x c, (clos X.env scope.names []).lookup x = some c → X.env.cells.lookup x = some c := fun x c e => by
    rcases clos_sub e with z | z
    · simp at z
    · exact z
  have celT : ∀ {c : Addr} {v : Option Value}, s.heap.IsCell c v → h1.IsCell c v := fun {c v} ⟨o, ho, hd⟩ => ⟨o, hk _ _ ho, hd⟩
  refine ⟨⟨I.ok.mod, ?_, I.ok.glob, I.ok.blt, Nat.le_refl _, fun y z c e1 e2 => I.ok.inj y z c (sub _ _ e1) (sub _ _ e2), fun y hy => ?_, (fun y c e => (nomatch e)), I.ok.hd, I.ok.frames, .inl rfl, fun b hb => ⟨Nat.ne_of_lt (hfl b hb), fun x c e => (hf b hb).2.2.2.2.1 x c (sub x c e)⟩,
      I.bs, Nat.le_trans I.ok.bsz I.sz, fun b o e hb => ?_, fun b hb z => ?_, I.stack, I.stkFree, fun P z => I.base.tbls P 0 (I.ok.tab P z), fun _ z => z⟩,
    rfl, I.bare, Un.kept hk, ⟨_, hns, fun i y v e1 e2 e3 => ?_⟩, fun y c e => ?_, I.hok.fresh (Nat.le_refl _), fun y c e => (I.freeC y c (sub y c e)).imp id fun ⟨_, z⟩ => ⟨rfl, z⟩, fun p hp => absurd (show p ∈ ([] : List (Addr × Obj)) from hp) (by simp), I.hok.kept hk, ?_⟩
  · exact S.kind
  · have hy : (relabel scope X.env).names.lookup y = some .cell ∨ (relabel scope X.env).names.lookup y = some .free := hy
    have m : (y, NameKind.free) ∈ scope.names := by
      rcases hy with z | z
      · exact relabel_cell (scope := scope) (env := X.env) z (.inl rfl) S.nocell
      · exact relabel_cell (scope := scope) (env := X.env) z (.inr rfl) S.nocell
    obtain ⟨c, e⟩ := hfree _ m rfl
    exact ⟨c, clos_has e m⟩
  · rcases (hf b hb).2.2.2.1 with z | z
    · exact I.ok.noex b o e z
    · exact absurd (Nat.lt_of_lt_of_le (Heap.lt_size e) (Nat.le_trans I.ok.bsz z)) (Nat.lt_irrefl _)
  · rcases List.mem_cons.mp (I.stkSub b z) with q | q
    · exact (hf b hb).2.1 q
    · exact (hf b hb).2.2.1 q
  · -- a captured name
    have hi : own.length ≤ i := by
      rcases Nat.lt_or_ge i own.length with q | q
      · rw [List.getElem?_append_left (by simpa using q), List.getElem?_replicate, if_pos q] at e2
        cases e2
      · exact q
    rw [List.getElem?_append_right hi, List.getElem?_map] at e1
    rw [List.getElem?_append_right (by simpa using hi), List.length_replicate, List.getElem?_map] at e2
    cases ep : caps[i - own.length]? with
    | none => rw [ep] at e1; cases e1
    | some p =>
      rw [ep] at e1 e2
      have ey : p.1 = y := Option.some.inj e1
      subst ey
      obtain ⟨f1, f2, f3⟩ := S.caps.mem p (List.mem_of_getElem? ep)
      have eσ : σ[p.2]? = some (some v) := by
        have e2' : (σ[p.2]?).getD none = some v := Option.some.inj e2
        cases q : σ[p.2]? with
        | none => rw [q] at e2'; cases e2'
        | some o => rw [q] at e2'; exact congrArg some e2'
      obtain ⟨m, _, hl⟩ := I.loc
      obtain ⟨u, ru, L⟩ := hl p.2 p.1 v f2 eσ (f3.elim (fun z => .inr (.inl z)) fun z => .inr (.inr z))
      refine ⟨u, ru, .inr ⟨relabel_free f1, ?_⟩⟩
      rcases L with ⟨L, _⟩ | ⟨_, c, e, ic⟩
      · have L : X.env.scope.names.lookup p.1 = some .local := L
        rcases f3 with z | z <;> (rw [z] at L; cases L)
      · exact ⟨c, clos_has e (PySem.mem_of_lookup f1), celT ic⟩
  · obtain ⟨v, z⟩ := I.cell y c (sub y c e)
    exact ⟨v, celT z⟩
  · show (capS own caps σ).length = (capN own caps).length
    simp
/-- the tests of a comprehension: none or one -/
def PTs (X : Cx) (ifs : List Expr) (t : TT) : Prop := ∀ (pins : List (Addr × Obj)) (s : Shared) (σ : St) (H : Hp) (Q : Bool → Hp → Prop), Inv X pins σ H s → t σ H Q →
  wpAny (model X.prog X.w) X.A (forIn ifs true fun c r => if r = true then do let ok ← isTrue c X.env (eval c X.env); pure (ForInStep.yield ok) else pure (ForInStep.yield r)) (TP X pins σ Q) X.xe s
def tYes : TT := fun _ H Q => Q true H
theorem pts_nil {X : Cx} : PTs X [] tYes := fun _ _ _ H _ I h => wpAny_tests_nil ⟨H, I, h⟩
/-- the reading: D is the new list; W, N as in a for -/
def CompGo (own : List Str) (caps : List (Str × Nat)) (g : TG) (tc : TT) (te : TE) (σ : St) (Q : VK) (J : It) (H1 : Hp) : Prop := ∀ D, H1 D = none → ∃ W : Nat → Nat → St → Hp → Prop, (∃ m, W 0 m (capS own caps σ) (upd H1 D (.lst []))) ∧ ∀ i m σ' H', W i m σ' H' →
  (J.stop i H' ∧ Q (.ref D) H') ∨ (J.go i H' ∧ ∃ N : St → Hp → Prop, (∀ σ2 H2, N σ2 H2 → ∃ m', m' < m ∧ W (i + 1) m' σ2 H2) ∧ ∀ x H2, J.yld i H' x H2 → g x σ' H2 fun σ3 H3 => tc σ3 H3 fun b H4 =>
    if b = true then te σ3 H4 fun y H5 => ∃ ys, H5 D = some (.lst ys) ∧ ys.length < sizeLine ∧ N σ3 (upd H5 D (.lst (ys ++ [y]))) else N σ3 H4)
def tComp (own : List Str) (caps : List (Str × Nat)) (wi : TI) (g : TG) (tc : TT) (te : TE) : TE := fun σ H Q => wi σ H (CompGo own caps g tc te σ Q)
theorem pe_comp {elt tg iter : Expr} {ifs : List Expr} {pos : Pos} {wi : TI} {g : TG} {tc : TT} {te : TE} (S : CompScope X scope own caps) (hc : X.calm = true) (hi : PI X tg iter wi)
    (hg : ∀ C s₀ H₀ fp, PG (cxB X scope C (capN own caps) s₀ H₀ fp) tg g) (ht : ∀ C s₀ H₀ fp, PTs (cxB X scope C (capN own caps) s₀ H₀ fp) ifs tc) (he : ∀ C s₀ H₀ fp, PE (cxB X scope C (capN own caps) s₀ H₀ fp) elt te)
    (hs : ∀ x, foldedSetIterable iter X.env x = pure x := by intro _; rfl) : PE X (.ListComp elt [⟨tg, iter, ifs, 0⟩] scope pos) (tComp own caps wi g tc te) := by
  intro pins s σ H Q I h
  rw [eval_ListComp]
  have hfree : ∀ y ∈ scope.names, y.2 = .free → ∃ c, X.env.cells.lookup y.1 = some c := fun y hy e => I.ok.has _ (S.frees.mem y hy e)
  refine wpAny_comprehension_free (use := none) rfl hs (closureFor_eq hfree) S.kind S.names (thn (hi pins s σ H _ I h) fun v s1 h1 => thn h1 fun itv s2 h2 => ?_)
  obtain ⟨it, fp, tn, J, H2, e, I2, T, st2, f2, hW⟩ := h2
  subst e
  -- the new list
  refine wpAny_newList ?_
  have hD : H2 s2.heap.objs.size = none := I2.fresh
  have I3 := I2.lnew (its := []) (ys := []) (t' := s2.toks) .nil (Nat.zero_le _)
  have k3 : ∀ b o, s2.heap.get? b = some o → (s2.heap.push { cls := .type "list", data := .seq ([] : List Value).toArray }).get? b = some o := fun b o q => Heap.get?_push_of_some _ q
  have st3 : tn 0 (s2.heap.push { cls := .type "list", data := .seq ([] : List Value).toArray }) := T.keep _ _ _ st2 fun b _ o q => k3 b o q
  have lt2 : ∀ b ∈ fp, b < s2.heap.objs.size := fun b hb => let ⟨o, q, _⟩ := T.obj _ _ st2 b hb; Heap.lt_size q
  have neD : ∀ b ∈ fp, b ≠ s2.heap.objs.size := fun b hb => Nat.ne_of_lt (lt2 b hb)
  have f3 : ∀ b ∈ fp, FpOk X pins (upd H2 s2.heap.objs.size (.lst [])) b := fun b hb => ⟨by rw [upd_ne (neD b hb)]; exact (f2 b hb).1, (f2 b hb).2⟩
  obtain ⟨W, ⟨m0, w0⟩, turn⟩ := hW _ hD
  generalize eD : s2.heap.objs.size = D at *
  generalize eH : upd H2 D (.lst []) = H3 at *
  generalize eh : s2.heap.push { cls := .type "list", data := .seq ([] : List Value).toArray } = hp3 at *
  have I3' : Inv X pins σ H3 { s2 with heap := hp3 } := I3
  -- the block's frame
  refine wpAny_newFunctionEnv S.nocell (fun y hy => by simp at hy) (fun h1 hns hsb => ?_) S.kind
  have kb : ∀ b o, hp3.get? b = some o → h1.get? b = some o := fun b o q => hsb.extBut b o (Nat.ne_of_lt (Heap.lt_size q)) (Heap.get?_push_of_some _ q)
  have lt3 : ∀ b ∈ fp, b < hp3.objs.size := fun b hb => let ⟨o, q, _⟩ := T.obj _ _ st3 b hb; Heap.lt_size q
  have IB := Inv.block (s := { s2 with heap := hp3 }) (h1 := h1) (tk := s2.toks) I3' S f3 hns kb lt3
  have stB : tn 0 h1 := T.keep _ _ _ st3 fun b _ o q => kb b o q
  have back : ∀ {σ' : St} {H' : Hp} {s' : Shared} {h' : Heap}, Inv (cxB X scope hp3.objs.size (capN own caps) { s2 with heap := hp3 } H3 fp) [] σ' H' s' → Heap.SameBut hp3.objs.size s'.heap h' → Inv X pins σ H' { s' with heap := h' } := fun {σ' H' s' h'} J hsm => by
    have nC : ∀ b o, H' b = some o → b ≠ hp3.objs.size := fun b o q z => by
      have := J.free
      rw [z] at q
      have q2 : H' hp3.objs.size = none := this
      rw [q] at q2; cases q2
    have hok : HOk X.prog X.w H' h' := fun b o q => (J.hok b o q).stay (fun c v hc z => hsm.extBut c v (by
      rcases hc with hc | hc
      · rw [hc]; exact nC b o q
      · exact nC c _ hc) z) (fun _ z => z) (fun _ _ z => z) fun _ _ _ z => z
    have nb : ∀ b o, hp3.get? b = some o → b ≠ hp3.objs.size := fun b o q => Nat.ne_of_lt (Heap.lt_size q)
    have un : Un (frs X.stack) fp H3 H' hp3 h' := ⟨fun b o q n hb hx => hsm.extBut b o (nb b o q) (J.base.keep b o q n hb hx), fun b o q n hb hx => by
        obtain ⟨sl, z⟩ := J.base.slot b o q n hb hx
        exact ⟨sl, hsm.extBut b _ (nb b o q) z⟩, J.base.free, fun b o q hx => by
        obtain ⟨o', z⟩ := J.base.there b o q hx
        exact ⟨o', hsm.extBut b _ (nb b o q) z⟩, J.base.tups, J.base.frzs, J.base.tbls⟩
    have os := J.os
    have bare := J.bare
    obtain ⟨hh, g, d, t, os'⟩ := s'
    obtain rfl : os' = s2.os := os
    show Inv X pins σ H' { ({ s2 with heap := hp3 } : Shared) with heap := h', gens := g, drawn := d, toks := t }
    exact I3'.call (h' := h') (g' := g) (d' := d) (t' := t) (ch := fp) un hok bare fun b hb => ⟨(f3 b hb).2.2.2.1, (f3 b hb).2.1, (f3 b hb).2.2.2.2.1, (f3 b hb).2.2.2.2.2⟩
  have statB : ∀ {H' : Hp}, (∀ b ∈ fp, H' b = none) → ∀ b ∈ fp, FpOk (cxB X scope hp3.objs.size (capN own caps) { s2 with heap := hp3 } H3 fp) [] H' b := fun hn b hb =>
    ⟨hn b hb, Nat.ne_of_lt (lt3 b hb), fun z => (IB.ok.exfs b hb) z, .inl hb, (IB.ok.exf b hb).2, fun p hp => absurd (show p ∈ ([] : List (Addr × Obj)) from hp) (by simp)⟩
  have loop : ∀ s₃ : Shared, s₃ = { s2 with heap := h1, toks := s2.toks } → codeAny (model X.prog X.w) X.A (.compLoop (.ListComp elt [⟨tg, iter, ifs, 0⟩] scope pos) 0 (.ref it) (.ref D) (compEnvC scope (clos X.env scope.names []) hp3.objs.size X.env))
      (compPost (model X.prog X.w) X.A X.xe none (EP X pins σ Q) (.ref D) hp3.objs.size) s₃ := by
    rintro s₃ rfl
    refine compLoop_any (fun n s' => ∃ i σ' H', Inv (cxB X scope hp3.objs.size (capN own caps) { s2 with heap := hp3 } H3 fp) [] σ' H' s' ∧ tn i s'.heap ∧ (∀ b ∈ fp, H' b = none) ∧ W i n σ' H') ?_ m0 ⟨0, capS own caps σ, H3, IB, stB, fun b hb => (f3 b hb).1, w0⟩
    rintro n s3 ⟨i, σ3, H4, I4, st4, fr4, w4⟩
    rcases turn i n σ3 H4 w4 with ⟨stop, qn⟩ | ⟨go, N, hN, step⟩
    · refine thn (T.done (cxB X scope hp3.objs.size (capN own caps) { s2 with heap := hp3 } H3 fp) rfl rfl rfl hc i [] s3 σ3 H4 _ I4 (statB fr4) st4 stop) fun r s4 ⟨hr, I5⟩ => ?_
      subst hr
      obtain ⟨m, hn, _⟩ := I5.loc
      exact ⟨m, hn, fun h' hsm => ⟨.ref D, H4, back I5 hsm, rfl, qn⟩⟩
    · refine thn (T.item (cxB X scope hp3.objs.size (capN own caps) { s2 with heap := hp3 } H3 fp) rfl rfl rfl hc i [] s3 σ3 H4 (fun _ _ => False) I4 (statB fr4) st4 go) fun r s4 ⟨u, hr, h4⟩ => ?_
      subst hr
      refine thn h4 fun _ s5 ⟨x, H5, I5, r5, y5, st5, fr5⟩ => ?_
      have I5' := I5.pinned (statB fr5) (T.obj _ _ st5)
      refine thn (hg hp3.objs.size { s2 with heap := hp3 } H3 fp _ s5 σ3 H5 x u _ I5' r5 (step x H5 y5)) fun _ s6 ⟨σ6, H6, I6, q6⟩ => ?_
      refine thn (ht hp3.objs.size { s2 with heap := hp3 } H3 fp _ s6 σ6 H6 _ I6 q6) fun ok s7 ⟨H7, I7, q7⟩ => ?_
      have again : ∀ {σ7 : St} {H7 : Hp} {s7 : Shared}, Inv (cxB X scope hp3.objs.size (capN own caps) { s2 with heap := hp3 } H3 fp) ([] ++ pinsAt fp s5.heap) σ7 H7 s7 → N σ7 H7 → ∃ m, m < n ∧ ∃ i σ' H', Inv (cxB X scope hp3.objs.size (capN own caps) { s2 with heap := hp3 } H3 fp) [] σ' H' s7 ∧ tn i s7.heap ∧ (∀ b ∈ fp, H' b = none) ∧ W i m σ' H' := fun {σ7 H7 s7} I7 n7 => by
        obtain ⟨m', hm, w7⟩ := hN σ7 H7 n7
        refine ⟨m', hm, i + 1, σ7, H7, I7.unpinned, T.keep _ _ _ st5 fun b hb o e => (I7.pin (b, o) (List.mem_append_right _ (List.mem_append_right _ (mem_pinsAt hb e)))).1, fun b hb => ?_, w7⟩
        obtain ⟨o, e, d⟩ := T.obj _ _ st5 b hb
        exact (I7.pin (b, o) (List.mem_append_right _ (List.mem_append_right _ (mem_pinsAt hb e)))).2.1
      cases ok with
      | false =>
        rw [if_neg (by decide)]
        rw [if_neg (by decide)] at q7
        exact again I7 q7
      | true =>
        rw [if_pos rfl]
        rw [if_pos rfl] at q7
        refine thn (he hp3.objs.size { s2 with heap := hp3 } H3 fp _ s7 σ6 H7 _ I7 q7) fun y s8 ⟨yv, H8, I8, r8, ys, e8, z8, n8⟩ => ?_
        refine thn (mt_append (X := cxB X scope hp3.objs.size (capN own caps) { s2 with heap := hp3 } H3 fp) _ s8 σ6 H8 (.ref D) [yv] (.ref D) [y] (fun _ H' => N σ6 H') I8 rfl (.cons r8 .nil) ⟨D, ys, yv, rfl, rfl, e8, z8, n8⟩) fun _ s9 ⟨v9, H9, I9, _, q9⟩ => ?_
        exact again I9 q9
  exact codeAny_compStart_list (loop _ rfl) (T.self _ 0 _ _ _ stB (loop _ rfl))
end
end L2
end
section
set_option Elab.async false
set_option linter.all false
set_option maxRecDepth 100000
set_option maxHeartbeats 4000000
namespace L2
open PySem PySem.Spec PyProof.Rows
/-! ### plain data: flat values and tuples of plain data -/
inductive D where
  | at (v : V)
  | tup (ds : List D)
mutual
def DatAt (K : PySem.W.Frag) (H : Hp) : D → V → Prop
  | .at x, v => v = x ∧ flatV x = true
  | .tup ds, v => ∃ a xs, v = .ref a ∧ SqT K H a xs ∧ DatsAt K H ds xs
def DatsAt (K : PySem.W.Frag) (H : Hp) : List D → List V → Prop
  | [], xs => xs = []
  | d :: ds, xs => ∃ x r, xs = x :: r ∧ DatAt K H d x ∧ DatsAt K H ds r
end
mutual
def deq : D → D → Bool
  | .at x, .at y => eqV x y
  | .tup xs, .tup ys => deqs xs ys
  | .at _, .tup _ => false
  | .tup _, .at _ => false
def deqs : List D → List D → Bool
  | [], [] => true
  | x :: xs, y :: ys => deq x y && deqs xs ys
  | [], _ :: _ => false
  | _ :: _, [] => false
end
mutual
def D.depth : D → Nat
  | .at _ => 0
  | .tup ds => depths ds + 1
def depths : List D → Nat
  | [] => 0
  | d :: ds => max d.depth (depths ds)
end
theorem Same.tup {K : PySem.W.Frag} {H H' : Hp} {a : Addr} {xs : List V} (e : Same H H') (h : SqT K H a xs) : SqT K H' a xs := by
  rcases h with (h | ⟨o, h⟩) | h
  · exact .inl (.inl (e _ _ h))
  · exact .inl (.inr ⟨o, e _ _ h⟩)
  · exact .inr h
mutual
theorem DatAt.same {K : PySem.W.Frag} {H H' : Hp} (e : Same H H') : ∀ {d : D} {v : V}, DatAt K H d v → DatAt K H' d v
  | .at x, v, h => h
  | .tup ds, v, h => by
    obtain ⟨a, xs, e1, e2, e3⟩ := h
    exact ⟨a, xs, e1, e.tup e2, DatsAt.same e e3⟩
theorem DatsAt.same {K : PySem.W.Frag} {H H' : Hp} (e : Same H H') : ∀ {ds : List D} {xs : List V}, DatsAt K H ds xs → DatsAt K H' ds xs
  | [], xs, h => h
  | d :: ds, xs, h => by
    obtain ⟨x, r, e1, e2, e3⟩ := h
    exact ⟨x, r, e1, DatAt.same e e2, DatsAt.same e e3⟩
end
theorem eqV_self {v : V} (h : flatV v = true) : eqV v v = true := by
  cases v with
  | non => rfl
  | bl b => exact beq_self_eq_true b
  | int b => exact beq_self_eq_true b
  | str b => exact beq_self_eq_true b
  | _ => cases h
section
variable {X : Cx} {pins : List (Addr × Obj)} {σ : St} {H : Hp} {s : Shared}
theorem dat_flat_not {K : PySem.W.Frag} {x : V} {a : Addr} (h : flatV x = true) (e : V.ref a = x) : False := by
  subst e; cases h
mutual
theorem dat_inj (I : Inv X pins σ H s) : ∀ {d d' : D} {v : V}, DatAt X.K H d v → DatAt X.K H d' v → deq d d' = true
  | .at x, .at y, v, h, h' => by
    obtain ⟨e, f⟩ := h
    obtain ⟨e', f'⟩ := h'
    subst e; subst e'
    exact eqV_self f
  | .at x, .tup ds, v, h, h' => by
    obtain ⟨e, f⟩ := h
    obtain ⟨a, xs, e', _⟩ := h'
    exact (dat_flat_not (K := X.K) f (e'.symm.trans e)).elim
  | .tup ds, .at x, v, h, h' => by
    obtain ⟨e, f⟩ := h'
    obtain ⟨a, xs, e', _⟩ := h
    exact (dat_flat_not (K := X.K) f (e'.symm.trans e)).elim
  | .tup ds, .tup ds', v, h, h' => by
    obtain ⟨a, xs, e, e2, e3⟩ := h
    obtain ⟨a', xs', e', e2', e3'⟩ := h'
    subst e
    cases e'
    have := I.tuple_inj e2 e2'
    subst this
    exact dats_inj I e3 e3'
theorem dats_inj (I : Inv X pins σ H s) : ∀ {ds ds' : List D} {xs : List V}, DatsAt X.K H ds xs → DatsAt X.K H ds' xs → deqs ds ds' = true
  | [], [], xs, h, h' => rfl
  | [], d :: ds, xs, h, h' => by
    obtain ⟨x, r, e, _⟩ := h'
    have h : xs = [] := h
    rw [h] at e; cases e
  | d :: ds, [], xs, h, h' => by
    obtain ⟨x, r, e, _⟩ := h
    have h' : xs = [] := h'
    rw [h'] at e; cases e
  | d :: ds, d' :: ds', xs, h, h' => by
    obtain ⟨x, r, e, e2, e3⟩ := h
    obtain ⟨x', r', e', e2', e3'⟩ := h'
    subst e
    cases e'
    show (deq d d' && deqs ds ds') = true
    rw [dat_inj I e2 e2', dats_inj I e3 e3']
    rfl
end
/-- the answers place by place -/
def deqAt : List D → List D → Nat → Bool
  | x :: _, y :: _, 0 => deq x y
  | _ :: xs, _ :: ys, j + 1 => deqAt xs ys j
  | _, _, _ => false
theorem deqs_all : ∀ (xs ys : List D), ((List.range (min xs.length ys.length)).all (deqAt xs ys) && xs.length == ys.length) = deqs xs ys
  | [], [] => rfl
  | [], y :: ys => by simp [deqs]
  | x :: xs, [] => by simp [deqs]
  | x :: xs, y :: ys => by
    have ih := deqs_all xs ys
    show _ = (deq x y && deqs xs ys)
    rw [← ih, List.length_cons, List.length_cons, Nat.add_min_add_right, List.range_succ_eq_map, List.all_cons, List.all_map]
    have e1 : ((deqAt (x :: xs) (y :: ys)) ∘ Nat.succ) = deqAt xs ys := rfl
    have e2 : deqAt (x :: xs) (y :: ys) 0 = deq x y := rfl
    have e3 : (xs.length + 1 == ys.length + 1) = (xs.length == ys.length) := by simp
    rw [e1, e2, e3, Bool.and_assoc]
theorem dats_len {K : PySem.W.Frag} : ∀ {ds : List D} {xs : List V}, DatsAt K H ds xs → ds.length = xs.length
  | [], xs, h => by have h : xs = [] := h; rw [h]; rfl
  | d :: ds, xs, h => by
    obtain ⟨x, r, e, _, e3⟩ := h
    subst e
    rw [List.length_cons, List.length_cons, dats_len e3]
mutual
theorem eq_dat (I : Inv X pins σ H s) : ∀ {d d' : D} {v v' : V} {u u' : Value} {A : Around}, A.units + d.depth < cLine → DatAt X.K H d v → DatAt X.K H d' v' → RelV v u → RelV v' u' → SeqAt.EqAt A s u u' (deq d d')
  | .at x, .at y, v, v', u, u', A, hu, h, h', r, r' => by
    obtain ⟨e, f⟩ := h
    obtain ⟨e', f'⟩ := h'
    subst e; subst e'
    exact eqAt_V r r' f f'
  | .at x, .tup ds, v, v', u, u', A, hu, h, h', r, r' => by
    obtain ⟨e, f⟩ := h
    obtain ⟨a', xs', e', e2', _⟩ := h'
    subst e; subst e'
    obtain rfl : u' = Value.ref a' := r'
    obtain ⟨its', _, p2, _⟩ := I.tuple e2'
    have hu' : A.units < cLine := Nat.lt_of_le_of_lt (Nat.le_add_right _ _) hu
    show SeqAt.EqAt A s u (.ref a') false
    cases v with
    | non => cases r; exact SeqAt.EqAt.none_tuple p2 hu'
    | bl b => cases r; exact SeqAt.EqAt.bool_tuple b p2 hu'
    | int b => obtain ⟨t, rfl⟩ := r; exact SeqAt.EqAt.int_tuple b t p2 hu'
    | str b => obtain ⟨t, rfl⟩ := r; exact SeqAt.EqAt.str_tuple b t p2 hu'
    | _ => cases f
  | .tup ds, .at x, v, v', u, u', A, hu, h, h', r, r' => by
    obtain ⟨e, f⟩ := h'
    obtain ⟨a', xs', e', e2', _⟩ := h
    subst e; subst e'
    obtain rfl : u = Value.ref a' := r
    obtain ⟨its', _, p2, _⟩ := I.tuple e2'
    have hu' : A.units < cLine := Nat.lt_of_le_of_lt (Nat.le_add_right _ _) hu
    show SeqAt.EqAt A s (.ref a') u' false
    cases v' with
    | non => cases r'; exact SeqAt.EqAt.tuple_none p2 hu'
    | bl b => cases r'; exact SeqAt.EqAt.tuple_bool b p2 hu'
    | int b => obtain ⟨t, rfl⟩ := r'; exact SeqAt.EqAt.tuple_int b t p2 hu'
    | str b => obtain ⟨t, rfl⟩ := r'; exact SeqAt.EqAt.tuple_str b t p2 hu'
    | _ => cases f
  | .tup ds, .tup ds', v, v', u, u', A, hu, h, h', r, r' => by
    obtain ⟨a, xs, e, e2, e3⟩ := id h
    obtain ⟨a', xs', e', e2', e3'⟩ := id h'
    subst e; subst e'
    obtain rfl : u = Value.ref a := r
    obtain rfl : u' = Value.ref a' := r'
    by_cases ea : a = a'
    · subst ea
      rw [dat_inj I h h']
      exact SeqAt.EqAt.same _
    · obtain ⟨its, r1, p1, _⟩ := I.tuple e2
      obtain ⟨its', r2, p2, _⟩ := I.tuple e2'
      refine SeqAt.EqAt.of_refs ea ?_
      have hd : (D.tup ds).depth = depths ds + 1 := rfl
      have q := SeqAt.RcAt.tuples (A := A) (e := deqAt ds ds') p1 p2 (by omega) fun j h1 h2 => by
        have h1' : j < its.length := by simpa using h1
        have h2' : j < its'.length := by simpa using h2
        have := eq_dats I (A := A.in1) (j := j) (ds := ds) (ds' := ds') (xs := xs) (xs' := xs') (us := its) (us' := its') (by show A.units + 1 + depths ds < cLine; omega) e3 e3' r1 r2 (List.getElem?_eq_getElem h1') (List.getElem?_eq_getElem h2')
        simpa using this
      have e4 : its.toArray.size = ds.length := by rw [List.size_toArray, ← r1.length, dats_len e3]
      have e5 : its'.toArray.size = ds'.length := by rw [List.size_toArray, ← r2.length, dats_len e3']
      rw [e4, e5, deqs_all] at q
      exact q
theorem eq_dats (I : Inv X pins σ H s) : ∀ {ds ds' : List D} {xs xs' : List V} {us us' : List Value} {A : Around} {j : Nat} {u u' : Value}, A.units + depths ds < cLine → DatsAt X.K H ds xs → DatsAt X.K H ds' xs' → Vals xs us → Vals xs' us' →
    us[j]? = some u → us'[j]? = some u' → SeqAt.EqAt A s u u' (deqAt ds ds' j)
  | [], _, xs, xs', us, us', A, j, u, u', hu, h, h', r, r', q, q' => by
    have h : xs = [] := h
    subst h
    cases r
    simp at q
  | d :: ds, [], xs, xs', us, us', A, j, u, u', hu, h, h', r, r', q, q' => by
    have h' : xs' = [] := h'
    subst h'
    cases r'
    simp at q'
  | d :: ds, d' :: ds', xs, xs', us, us', A, j, u, u', hu, h, h', r, r', q, q' => by
    obtain ⟨x, t, e, e2, e3⟩ := h
    obtain ⟨x', t', e', e2', e3'⟩ := h'
    subst e; subst e'
    have hd : depths (d :: ds) = max d.depth (depths ds) := rfl
    cases r with
    | cons rx rt =>
      cases r' with
      | cons rx' rt' =>
        cases j with
        | zero =>
          simp at q q'
          subst q; subst q'
          exact eq_dat I (by omega) e2 e2' rx rx'
        | succ j => exact eq_dats I (j := j) (by omega) e3 e3' rt rt' (by simpa using q) (by simpa using q')
end
/-- == and != of two tuples of plain data -/
def rEqD (K : PySem.W.Frag) (n : Nat) (neg : Bool) : R2 := fun x y H Q => ∃ ds ds', DatAt K H (.tup ds) x ∧ DatAt K H (.tup ds') y ∧ depths ds < n ∧ Q (.bl (if neg then !deqs ds ds' else deqs ds ds')) H
theorem op_neD {n : Nat} (hu : X.A.units + n < cLine) : OpR X (compareOp .NotEq) (rEqD X.K n true) := by
  intro pins s σ H x y v u Q I rx ry h
  obtain ⟨ds, ds', ⟨a, xs, e, e2, e3⟩, ⟨a', xs', e', e2', e3'⟩, hn, q⟩ := h
  subst e; subst e'
  obtain rfl : v = Value.ref a := rx
  obtain rfl : u = Value.ref a' := ry
  obtain ⟨its, r1, p1, _⟩ := I.tuple e2
  obtain ⟨its', r2, p2, _⟩ := I.tuple e2'
  have q0 := SeqAt.RcNeAt.tuples (A := X.A) (s := s) (e := deqAt ds ds') p1 p2 (by omega) (fun j h1 h2 => by
    have h1' : j < its.length := by simpa using h1
    have h2' : j < its'.length := by simpa using h2
    have := eq_dats I (A := X.A.in1) (j := j) (ds := ds) (ds' := ds') (xs := xs) (xs' := xs') (us := its) (us' := its') (by show X.A.units + 1 + depths ds < cLine; omega) e3 e3' r1 r2 (List.getElem?_eq_getElem h1') (List.getElem?_eq_getElem h2')
    simpa using this)
  have e4 : its.toArray.size = ds.length := by rw [List.size_toArray, ← r1.length, dats_len e3]
  have e5 : its'.toArray.size = ds'.length := by rw [List.size_toArray, ← r2.length, dats_len e3']
  rw [e4, e5, deqs_all] at q0
  exact q0 X.prog X.w _ _ ⟨.bl _, H, I, rfl, q⟩
end
end L2
end
section
set_option Elab.async false
set_option linter.all false
set_option maxRecDepth 100000
set_option maxHeartbeats 4000000
namespace PySem.SeqAt
open AutoSeq1 (wpAny_loadPart')
open MeetsSeq MeetsSeq2 MeetsSeq3 SeqRoads2
end PySem.SeqAt
namespace L2
open PySem PySem.Spec PyProof.Rows
section
variable {X : Cx}
end
end L2
end
section
set_option Elab.async false
set_option linter.all false
set_option maxRecDepth 100000
set_option maxHeartbeats 4000000
namespace L2
open PySem PySem.Spec PyProof.Rows
/-! ### a def of the text by its name and its promise -/
structure FnAt (P : Program) (w : World) (K : PySem.W.Frag) (mg : Str → Option Value) (base : Bs) (CX : CXT) (k : Nat) (x : Str) (sp : Sp) : Prop where
  ex : ∃ (f : Addr) (fd : FuncData) (ps : List Str), mg x = some (.ref f) ∧ PySem.W.keepIn K (.ref f) = true ∧ FnOk P w K mg base CX k f fd ps sp ∧ Binds K fd ps []
theorem FnAt.mono {P : Program} {w : World} {K : PySem.W.Frag} {mg : Str → Option Value} {base : Bs} {CX : CXT} {j k : Nat} {x : Str} {sp : Sp} (h : FnAt P w K mg base CX j x sp) (hk : j ≤ k) : FnAt P w K mg base CX k x sp :=
  ⟨let ⟨f, fd, ps, a, b, c, d⟩ := h.ex; ⟨f, fd, ps, a, b, c.mono hk, d⟩⟩
theorem FnAt.imp {P : Program} {w : World} {K : PySem.W.Frag} {mg : Str → Option Value} {base : Bs} {CX : CXT} {k : Nat} {x : Str} {sp sp' : Sp} (h : FnAt P w K mg base CX k x sp) (hs : ∀ vs H Q E, sp' vs H Q E → sp vs H Q E) : FnAt P w K mg base CX k x sp' :=
  ⟨let ⟨f, fd, ps, a, b, c, d⟩ := h.ex; ⟨f, fd, ps, a, b, c.imp hs, d⟩⟩
def tFn (sp : Sp) (E : XK) (t : TA) : TE := fun σ H Q => t σ H fun vs H1 => sp vs H1 Q E
section
variable {X : Cx} {CX : CXT} {k : Nat} {sp : Sp} {E : XK} {x : Str} {p pos : Pos} {e : Expr} {es : List Expr} {t : TA}
theorem pe_fn (h : FnAt X.prog X.w X.K X.mg X.base CX k x sp) (hr : Room k X.A) (hg : Gl X x) (hx : Passes CX X E) (ha : PA X (e :: es) t) (hdb : (x == ("__debug__" : Str)) = false := by decide)
    (he : starEach (e :: es) X.env = (false, eval e X.env) :: starEach es X.env := by rfl) (hpl : (backTo pos (starEach es X.env)).any (·.1) = false := by rfl) : PE X (.Call (.Name x p) (e :: es) [] pos) (tFn sp E t) := by
  obtain ⟨f, fd, ps, hm, hk, F, hb⟩ := h.ex
  intro pins s σ H Q I hq
  refine pe_call (dvs := []) (ds := []) F hr hg hm hk hb .nil hx ha hdb he hpl pins s σ H Q I ?_
  have e0 : (fun (vs : List V) (H1 : Hp) => sp (vs ++ []) H1 Q E) = fun vs H1 => sp vs H1 Q E := by funext vs H1; rw [List.append_nil]
  show t σ H (fun vs H1 => sp (vs ++ []) H1 Q E)
  rw [e0]
  exact hq
end
/-- a class or an object of the top -/
theorem pe_globR {X : Cx} {x : Str} {a : Addr} {pos : Pos} (hg : Gl X x) (hm : X.mg x = some (.ref a)) (hd : (x == ("__debug__" : Str)) = false := by decide) : PE X (.Name x pos) (tC (.ref a)) := pe_glob (v := .ref a) hg hm rfl hd
/-- a tuple of the top -/
def TopT (K : PySem.W.Frag) (a : Addr) (xs : List V) : Prop := ∃ (o : Obj) (its : Array Value) (n : Nat), K.lookup a = some o ∧ o.cls = .type "tuple" ∧ o.dict = none ∧ o.data = .seq its n ∧ its.size ≤ sizeLine ∧ Vals xs its.toList
theorem TopT.sq {K : PySem.W.Frag} {a : Addr} {xs : List V} (h : TopT K a xs) (H : Hp) : SqT K H a xs := let ⟨o, its, n, h1, h2, _, h3, h4, h5⟩ := h; .inr ⟨o, its, n, h1, h2, h3, h4, h5⟩
theorem TopT.ty {K : PySem.W.Frag} {a : Addr} {xs : List V} (h : TopT K a xs) (H : Hp) : tyV K "tuple" (.ref a) H := let ⟨o, its, n, h1, h2, h0, h3, h4, h5⟩ := h; .inr (.inl ⟨rfl, o, h1, h2, h0⟩)
/-! ### a new instance whose __init__ stores its arguments -/
def newI (H : Hp) (x dx C : Addr) (fs : List (Str × V)) : Hp := upd (upd H dx (.own x)) x (.ins C dx fs)
theorem newI_at {H : Hp} {x dx C : Addr} {fs : List (Str × V)} : newI H x dx C fs x = some (.ins C dx fs) := upd_same
theorem newI_same {H : Hp} {x dx C : Addr} {fs : List (Str × V)} (hx : H x = none) (hd : H dx = none) : Same H (newI H x dx C fs) := fun b o e => by
  unfold newI
  rw [upd_ne (ne_of_none e hx), upd_ne (ne_of_none e hd)]
  exact e
theorem same_upd {H : Hp} {p : Addr} (h : H p = none) (o : HO) : Same H (upd H p o) := fun b u q => by rw [upd_ne (ne_of_none q h)]; exact q
def tNew (C : Addr) (fs : List Str) (t : TA) : TE := fun σ H Q => t σ H fun vs H1 => vs.length = fs.length ∧ ∀ x dx, H1 x = none → H1 dx = none → dx ≠ x → Q (.ref x) (newI H1 x dx C (fs.zip vs))
def spNew (C : Addr) (fs : List Str) : Sp := fun vs H Q _ => ∃ p dx r, vs = .ref p :: r ∧ r.length = fs.length ∧ H p = some (.ins C dx []) ∧ Q .non (upd H p (.ins C dx (fs.zip r)))
structure NewAt (P : Program) (w : World) (K : PySem.W.Frag) (mg : Str → Option Value) (base : Bs) (x : Str) (C : Addr) (fs : List Str) : Prop where
  glob : mg x = some (.ref C)
  cl : Cls K C
  ex : ∃ (f : Addr) (fd : FuncData) (ps : List Str), Mk K C f ∧ FnOk P w K mg base CX0 1 f fd ps (spNew C fs) ∧ Binds K fd ps []
section
variable {X : Cx} {C : Addr} {fs : List Str} {x : Str} {p pos : Pos} {e : Expr} {es : List Expr} {t : TA} {k : Nat}
theorem pe_new (h : NewAt X.prog X.w X.K X.mg X.base x C fs) (hr : Room (k + 2) X.A) (hg : Gl X x) (ha : PA X (e :: es) t) (hdb : (x == ("__debug__" : Str)) = false := by decide)
    (he : starEach (e :: es) X.env = (false, eval e X.env) :: starEach es X.env := by rfl) (hpl : (backTo pos (starEach es X.env)).any (·.1) = false := by rfl) : PE X (.Call (.Name x p) (e :: es) [] pos) (tNew C fs t) := by
  obtain ⟨f, fd, ps, M, F, hb⟩ := h.ex
  intro pins s σ H Q I hq
  refine wpAny_Call_Name_kw (ld_glob I hg h.glob ?_ hdb)
  refine PySem.W.callWith_K (h₀ := X.base) I.ok.mod.kin M.kp (thn (ha pos pins s σ H _ I hq) fun us s1 ⟨vs, H1, I1, r, hl, q⟩ => ⟨I1.kIn, ?_⟩) he hpl
  refine run_make (dvs := []) (ds := []) (E := E0) M F (hr.mono (Nat.le_add_left 2 k)) hb .nil pass0 I1 r fun x dx n1 n2 ne => ?_
  refine ⟨x, dx, vs ++ [], rfl, by rw [List.append_nil]; exact hl, upd_same, rfl, ?_⟩
  rw [List.append_nil, upd_upd]
  exact q x dx n1 n2 ne
end
/-! ### __init__ that stores its arguments: one, two, three fields -/
section
variable {P : Program} {w : World} {K : PySem.W.Frag} {mg : Str → Option Value} {base : Bs} {C f : Addr} {fd : FuncData} {qual : Str} {st : Stmt}
theorem init_ok2 {a b : Str} {p1 p2 p3 p4 q1 q2 q3 q4 : Pos} (F : Fun K "__init__" qual st f fd) (hb : defBody st = [.Assign [.Attribute (.Name "self" p1) a p2] (.Name a p3) p4, .Assign [.Attribute (.Name "self" q1) b q2] (.Name b q3) q4])
    (S : FnScope ["self", a, b] ["self", a, b] (defScope st)) (cl : Cls K C) (na : NoAttr K C a) (nb : NoAttr K C b) (hd : (a == ("__debug__" : Str)) = false) (hcd : (a == ("__classdict__" : Str)) = false)
    (hd' : (b == ("__debug__" : Str)) = false) (hcd' : (b == ("__classdict__" : Str)) = false) (ab : ¬ a = b) : FnOk P w K mg base CX0 1 f fd ["self", a, b] (spNew C [a, b]) := by
  refine F.ok S (fun vs H Q E h => ?_) (fun cdv A outer s H vs Q E hr h => ?_)
  · obtain ⟨p, dx, r, rfl, hl, _⟩ := h
    match r, hl with | [_, _], _ => rfl
  · obtain ⟨p, dx, r, rfl, hl, hp, q⟩ := h
    match r, hl with
    | [v, u], _ =>
      have vis : ∀ x ∈ (["self", a, b] : List Str), Vis (defScope st) x := fun x hx => (S.par x hx).elim (fun z => .inl z) fun z => .inr (.inl z)
      rw [hb]
      refine ⟨_, pss_cons (ps_fld (pe_var (i := 0) rfl (vis "self" (by simp))) (pe_var (i := 1) rfl (vis a (by simp)) hd hcd) rfl) (pss_one (ps_fld (pe_var (i := 0) rfl (vis "self" (by simp))) (pe_var (i := 2) rfl (vis b (by simp)) hd' hcd') rfl)), ?_⟩
      refine ⟨v, rfl, _, rfl, p, C, dx, [], rfl, hp, cl, na, (by show 0 < 1000; decide), u, rfl, _, rfl, p, C, dx, _, rfl, upd_same, cl, nb, (by show 1 < 1000; decide), ?_⟩
      have e : putF b u (putF a v []) = [(a, v), (b, u)] := by
        show (if a = b then _ else (a, v) :: putF b u []) = _
        rw [if_neg ab]
        rfl
      rw [upd_upd, e]
      exact q
end
end L2
end
section
set_option Elab.async false
set_option linter.all false
set_option maxRecDepth 100000
set_option maxHeartbeats 4000000
namespace L2
open PySem PySem.Spec PyProof.Rows
/-- an iterator over known values that new objects don't change -/
structure Walks1 (J : It) (H1 : Hp) (xs : List V) : Prop where
  go : ∀ i x H', xs[i]? = some x → Same H1 H' → J.go i H'
  yld : ∀ i x y H' H2, xs[i]? = some x → Same H1 H' → J.yld i H' y H2 → H2 = H' ∧ y = x
  stop : ∀ H', Same H1 H' → J.stop xs.length H'
def rngV (lo : Int) (n : Nat) : List V := (List.range n).map fun (i : Nat) => V.int (lo + (i : Int))
theorem rngV_at {lo : Int} {n i : Nat} (h : i < n) : (rngV lo n)[i]? = some (.int (lo + (i : Int))) := by
  unfold rngV
  rw [List.getElem?_map, List.getElem?_range h]
  rfl
theorem rngV_len {lo : Int} {n : Nat} : (rngV lo n).length = n := by unfold rngV; simp
end L2
end
section
set_option Elab.async false
set_option linter.all false
set_option maxRecDepth 100000
set_option maxHeartbeats 4000000
namespace L2
open PySem PySem.Spec PyProof.Rows
/-! ### what the top has written, in bundles -/
structure ClsF (K : PySem.W.Frag) (C : Addr) : Prop where
  pg : PySem.W.plainGet K C Str.empty = true
  hd : PySem.W.hasDictIn K C = true
  po : PySem.W.plainOver K C = true
  sa : PySem.W.findIn K (.ref C) "__setattr__" = some (some (.builtin "object.__setattr__"))
  ca : PySem.W.findIn K (.ref C) "__class__" = some (some (.builtin "object.__class__"))
  cs : PySem.W.specialIn K (.builtin "object.__class__") "__get__" = some (some (.builtin "getset_descriptor.__get__"))
  ct : PySem.W.takesIn K (.builtin "object.__class__") = some true
  cm : PySem.W.mroIn K C (.type "object") = some true
  mks : PySem.W.makesIn K C = true
  kp : PySem.W.keepIn K (.ref C) = true
theorem ClsF.cls {K : PySem.W.Frag} {C : Addr} (h : ClsF K C) : Cls K C := ⟨h.pg, h.hd, h.po, h.sa⟩
theorem ClsF.ty {K : PySem.W.Frag} {C : Addr} (h : ClsF K C) {H : Hp} {a dx : Addr} {fs : List (Str × V)} (e : H a = some (.ins C dx fs)) : TyOf K H (.ref a) (.ref C) := .ins e h.cls h.ca h.cs h.ct h.cm
def FnF (K : PySem.W.Frag) (f : Addr) (x qual : Str) (st : Stmt) : Prop := ∃ fd, Fun K x qual st f fd
theorem fnf_mk {K : PySem.W.Frag} {x qual : Str} {st : Stmt} {f : Addr} {oc : Value} {od an : Option Addr} {osl : Array (Option Value)} {kV doc pm cdv ct : Value} (l : K.lookup f = some ⟨oc, od, .func (PySem.W.fnOf x qual (defArgs st) (defBody st) (defScope st) .none kV doc pm an cdv ct), osl⟩)
    (c : PySem.W.codeIn K cdv qual = true) (k : PySem.W.keepIn K (.ref f) = true) : FnF K f x qual st := ⟨_, fun_mk l c k⟩
theorem topT_mk {K : PySem.W.Frag} {a : Addr} {its : Array Value} {n : Nat} {sl : Array (Option Value)} {xs : List V} (l : K.lookup a = some ⟨.type "tuple", none, .seq its n, sl⟩) (hs : its.size ≤ sizeLine) (hv : Vals xs its.toList) : TopT K a xs :=
  ⟨_, its, n, l, rfl, rfl, rfl, hs, hv⟩
/-- a def that can't be asked anything -/
theorem fn_none {P : Program} {w : World} {K : PySem.W.Frag} {mg : Str → Option Value} {base : Bs} {CX : CXT} {k : Nat} {f : Addr} {fd : FuncData} {ps : List Str} {sp : Sp} (no : ∀ vs H Q E, ¬ sp vs H Q E) : FnOk P w K mg base CX k f fd ps sp :=
  ⟨fun vs H Q E h => absurd h (no vs H Q E), fun A outer s H args us vs Q E _ _ _ _ h => absurd h (no vs H Q E)⟩
/-- a def of the top -/
structure DefF (K : PySem.W.Frag) (mg : Str → Option Value) (x : Str) (st : Stmt) (ps : List Str) (f : Addr) (fd : FuncData) : Prop where
  F : Fun K x x st f fd
  b : Binds K fd ps []
  m : mg x = some (.ref f)
theorem DefF.at {P : Program} {w : World} {K : PySem.W.Frag} {mg : Str → Option Value} {base : Bs} {k : Nat} {x : Str} {st : Stmt} {ps : List Str} {f : Addr} {fd : FuncData} {sp : Sp} (h : DefF K mg x st ps f fd) (G : FnOk P w K mg base CX0 k f fd ps sp) :
    FnAt P w K mg base CX0 k x sp := ⟨f, fd, ps, h.m, h.F.kp, G, h.b⟩
end L2
end
section
set_option Elab.async false
set_option linter.all false
set_option maxRecDepth 100000
set_option maxHeartbeats 4000000
namespace L2
open PySem PySem.Spec PyProof.Rows
section
variable {X : Cx}
/-- an int of the top -/
theorem pe_globI {x : Str} {i : Int} {tk : Tok} {pos : Pos} (hg : Gl X x) (hm : X.mg x = some (.int i tk)) (hd : (x == ("__debug__" : Str)) = false := by decide) : PE X (.Name x pos) (tC (.int i)) := pe_glob (v := .int i) hg hm ⟨_, rfl⟩ hd
end
end L2
end
section
set_option Elab.async false
set_option linter.all false
set_option maxRecDepth 100000
set_option maxHeartbeats 4000000
/-! Defs within defs, and lambdas: made, called -/
namespace L2
open PySem PySem.Spec PyProof.Rows
/-- a def within a def (or a lambda) as it is written; free: the names it takes from around -/
structure Nst where
  params : Arguments
  body : FuncBody
  scope : Scope
  free : List Str
abbrev fnY (n : Nst) (nm qual : Str) (cl : List (Str × Addr)) (doc pm cdv ct : Value) : FuncData :=
  { name := nm, qualname := qual, params := n.params, body := n.body, scope := n.scope, globals := mainGlobals, closure := cl, defaults := .none, kwdefaults := .none, doc := doc, pyModule := pm, annotations := none, code := cdv, closureTuple := ct, builtins := builtinsNs }
/-- the function object at q, its cells -/
def CloAt (n : Nst) (H : Hp) (q : Addr) (cl : List (Str × Addr)) : Prop :=
  ∃ (o : Obj) (u : HO) (nm qual : Str) (doc pm : Value) (cc : Addr) (ct : Value) (oc : Obj) (u2 : HO), H q = some (.frz o u) ∧ o.cls = .type "function" ∧ o.data = .func (fnY n nm qual cl doc pm (.ref cc) ct) ∧ H cc = some (.frz oc u2) ∧ CodeO oc
structure CellsAt (H : Hp) (free : List Str) (cl : List (Str × Addr)) (vs : List V) : Prop where
  len : free.length = vs.length
  val : ∀ (i : Nat) x v, free[i]? = some x → vs[i]? = some v → ∃ c ob u w, cl.lookup x = some c ∧ H c = some (.frz ob u) ∧ ob.data = .cell (some w) ∧ RelV v w
  sub : ∀ x c, cl.lookup x = some c → x ∈ free
  inj : ∀ x y c, cl.lookup x = some c → cl.lookup y = some c → x = y
/-- what is known stays known -/
theorem CloAt.keep {n : Nst} {H H' : Hp} {q : Addr} {cl : List (Str × Addr)} (h : CloAt n H q cl) (k : ∀ a o u, H a = some (.frz o u) → H' a = some (.frz o u)) : CloAt n H' q cl :=
  let ⟨o, u, nm, qual, doc, pm, cc, ct, oc, u2, e1, e2, e3, e4, e5⟩ := h
  ⟨o, u, nm, qual, doc, pm, cc, ct, oc, u2, k _ _ _ e1, e2, e3, k _ _ _ e4, e5⟩
theorem CellsAt.keep {H H' : Hp} {fr : List Str} {cl : List (Str × Addr)} {vs : List V} (h : CellsAt H fr cl vs) (k : ∀ a o u, H a = some (.frz o u) → H' a = some (.frz o u)) : CellsAt H' fr cl vs :=
  ⟨h.len, fun i x v e1 e2 => let ⟨c, ob, u, w, a1, a2, a3, a4⟩ := h.val i x v e1 e2; ⟨c, ob, u, w, a1, k _ _ _ a2, a3, a4⟩, h.sub, h.inj⟩
theorem CellsAt.some {H : Hp} {fr : List Str} {cl : List (Str × Addr)} {vs : List V} (h : CellsAt H fr cl vs) {x : Str} (hx : x ∈ fr) : ∃ c ob u w, cl.lookup x = some c ∧ H c = some (.frz ob u) ∧ ob.data = .cell (some w) := by
  obtain ⟨i, hi, e⟩ := List.getElem_of_mem hx
  have hi' : i < vs.length := by rw [← h.len]; exact hi
  obtain ⟨c, ob, u, w, a1, a2, a3, _⟩ := h.val i x vs[i] (by rw [List.getElem?_eq_getElem hi, e]) (List.getElem?_eq_getElem hi')
  exact ⟨c, ob, u, w, a1, a2, a3⟩
/-! ### the body's context -/
def cxN (CX : CXT) (P : Program) (w : World) (K : PySem.W.Frag) (mg : Str → Option Value) (base : Bs) (N : List Str) (qual : Str) (scope : Scope) (f : Addr) (cd : Value) (cl : List (Str × Addr)) (A : Around) (outer : List Env) (s : Shared) (H : Hp) (E : XK) : Cx where
  prog := P
  w := w
  K := K
  mg := mg
  base := base
  A := A.deeper (PySem.W.envX qual scope s.heap.objs.size f cd cl)
  N := N
  s₀ := s
  H₀ := H
  env := PySem.W.envX qual scope s.heap.objs.size f cd cl
  outer := outer
  stack := PySem.W.envX qual scope s.heap.objs.size f cd cl :: outer
  ex := []
  calm := true
  fn := fun _ => false
  cw := fun _ => false
  pn := []
  xe := fun e s' => wpAny (model P w) (A.deeper (PySem.W.envX qual scope s.heap.objs.size f cd cl)) (leaving (PySem.W.envX qual scope s.heap.objs.size f cd cl) e) (fun _ s'' => CX outer H s E e s'') (fun e' s'' => CX outer H s E e' s'') s'
structure NScope (N P F : List Str) (sc : Scope) : Prop where
  kind : sc.kind = .function
  co : sc.isCoroutine = false
  gen : sc.isGenerator = false
  nd : N.Nodup
  pre : N.take (P ++ F).length = P ++ F
  par : ∀ x ∈ P, sc.names.lookup x = some .local
  fre : ∀ x ∈ F, sc.names.lookup x = some .free
  nocell : ∀ y ∈ sc.names, y.2 ≠ .cell
  allf : ∀ y ∈ sc.names, y.2 = .free → y.1 ∈ F
theorem rev_zip : ∀ {ps : List Str} {us : List Value} {i : Nat} {x : Str} {u : Value}, ps.Nodup → ps[i]? = some x → us[i]? = some u → (ps.zip us).reverse.lookup x = some u
  | [], us, i, x, u, _, h, _ => by simp at h
  | p :: ps, [], i, x, u, _, _, h => by simp at h
  | p :: ps, w :: us, 0, x, u, nd, h1, h2 => by
    simp at h1 h2
    subst h1 h2
    have hn : (ps.zip us).reverse.lookup p = none := by
      rw [List.lookup_eq_none_iff]
      intro q hq
      have := (List.of_mem_zip (List.mem_reverse.mp hq)).1
      simp only [bne_iff_ne, ne_eq, beq_eq_false_iff_ne]
      intro z
      rw [← z] at this
      exact (List.nodup_cons.mp nd).1 this
    rw [List.zip_cons_cons, List.reverse_cons, List.lookup_append, hn]
    simp [List.lookup]
  | p :: ps, w :: us, i + 1, x, u, nd, h1, h2 => by
    have ih := rev_zip (i := i) (List.nodup_cons.mp nd).2 (by simpa using h1) (by simpa using h2)
    rw [List.zip_cons_cons, List.reverse_cons, List.lookup_append, ih]
    rfl
theorem inv_startN {CX : CXT} {P : Program} {w : World} {K : PySem.W.Frag} {mg : Str → Option Value} {base : Bs} {N ps fr : List Str} {qual : Str} {scope : Scope} {f : Addr} {cd : Value} {cl : List (Str × Addr)} {A : Around} {outer : List Env} {s : Shared} {h1 : Heap} {tk : Nat} {H : Hp} {E : XK} {us : List Value} {vs cv : List V}
    (S : NScope N ps fr scope) (hd : A.handled = none) (e0 : Env0 P w K mg base A outer s H) (hl : vs.length = ps.length) (r : Vals vs us) (C : CellsAt H fr cl cv)
    (hns : h1.Ns s.heap.objs.size (fun y => (ps.zip us).reverse.lookup y)) (hk : ∀ b o, s.heap.get? b = some o → h1.get? b = some o) :
    Inv (cxN CX P w K mg base N qual scope f cd cl A outer s H E) [] (start N (vs ++ cv)) H { s with heap := h1, toks := tk } := by
  have hcl : ∀ x c, cl.lookup x = some c → ∃ ob u w, H c = some (.frz ob u) ∧ ob.data = .cell (some w) := fun x c e => by
    obtain ⟨c', ob, u, w, a1, a2, a3⟩ := C.some (C.sub x c e)
    rw [e] at a1; cases a1
    exact ⟨ob, u, w, a2, a3⟩
  have cell : ∀ c ob u w, H c = some (.frz ob u) → ob.data = .cell (some w) → h1.IsCell c (some w) := fun c ob u w a2 a3 => by
    obtain ⟨e, _⟩ := e0.hok c _ a2
    exact ⟨ob, hk _ _ e, a3⟩
  have noA : ∀ b : Addr, b ∉ (cxN CX P w K mg base N qual scope f cd cl A outer s H E).ex := fun b z => absurd (show b ∈ ([] : List Addr) from z) (by simp)
  have hpl : (ps ++ fr).length ≤ N.length := by have := congrArg List.length S.pre; rw [List.length_take] at this; omega
  have hvl : (vs ++ cv).length = (ps ++ fr).length := by rw [List.length_append, List.length_append, hl, C.len]
  refine ⟨⟨e0.mod, S.kind, rfl, rfl, Nat.le_refl _, C.inj, fun y hy => ?_, (fun y c z => nomatch z), fun _ => hd, Around.frames_deeper e0.frames, .inr ⟨rfl, rfl⟩, fun b z => absurd z (noA b), e0.bs, e0.bsz, fun b _ _ => noA b, fun b z => absurd z (noA b), e0.funs, e0.frf, e0.tab, fun _ z => nomatch z⟩,
    rfl, e0.bare, Un.kept hk, ⟨_, hns, fun i y v h1 h2 h3 => ?_⟩, fun y c h => ?_, e0.hok.fresh (Nat.le_refl _), fun y c h => ?_, fun p hp => absurd (show p ∈ ([] : List (Addr × Obj)) from hp) (by simp), e0.hok.kept hk, ?_⟩
  · have hy : scope.names.lookup y = some .cell ∨ scope.names.lookup y = some .free := hy
    rcases hy with hy | hy
    · exact absurd rfl (S.nocell _ (PySem.mem_of_lookup hy))
    · obtain ⟨c, _, _, _, a1, _⟩ := C.some (S.allf _ (PySem.mem_of_lookup hy) rfl)
      exact ⟨c, a1⟩
  · have hi : i < (vs ++ cv).length := by
      unfold start at h2
      by_cases hi : i < (vs ++ cv).length
      · exact hi
      · rw [List.getElem?_append_right (by simpa using hi)] at h2
        rw [List.getElem?_replicate] at h2
        split at h2 <;> cases h2
    have ha : (vs ++ cv)[i]? = some v := by
      unfold start at h2
      rw [List.getElem?_append_left (by simpa using hi), List.getElem?_map] at h2
      cases e : (vs ++ cv)[i]? with
      | none => rw [e] at h2; cases h2
      | some a => rw [e] at h2; cases h2; rfl
    have hp : (ps ++ fr)[i]? = some y := by
      rw [← S.pre, List.getElem?_take_of_lt (by omega)]; exact h1
    have ndP : (ps ++ fr).Nodup := by rw [← S.pre]; exact S.nd.sublist (List.take_sublist _ _)
    by_cases hv : i < vs.length
    · rw [List.getElem?_append_left hv] at ha
      rw [List.getElem?_append_left (by omega)] at hp
      obtain ⟨u, hu, rv⟩ := r.get ha
      exact ⟨u, rv, .inl ⟨S.par y (List.mem_of_getElem? hp), rev_zip (List.nodup_append.mp ndP).1 hp hu⟩⟩
    · rw [List.getElem?_append_right (by omega)] at ha hp
      rw [← hl] at hp
      obtain ⟨c, ob, u, w, a1, a2, a3, a4⟩ := C.val _ y v hp ha
      exact ⟨w, a4, .inr ⟨.inr (S.fre y (List.mem_of_getElem? hp)), c, a1, cell c ob u w a2 a3⟩⟩
  · obtain ⟨ob, u, w, a2, a3⟩ := hcl y c h
    exact ⟨_, cell c ob u w a2 a3⟩
  · obtain ⟨ob, u, w, a2, _⟩ := hcl y c h
    exact .inr ⟨rfl, ob, u, a2⟩
  · unfold start
    show _ = N.length
    rw [List.length_append, List.length_map, List.length_replicate]
    omega
/-! ### a function is called: the frame's name is what its code says -/
section
variable {P : Program} {w : World} {A : Around} {s : Shared} {R : Result → Shared → Prop} {a : Addr} {args : Args} {o oc : Obj} {fd : FuncData} {cc : Addr} {fv : Array Value} {q : Str} {tq : Tok}
theorem call_own {body : List Stmt} (hroom : A.depth < recursionLimit) (ho : s.heap.get? a = some o) (hd : o.data = .func fd) (hco : fd.scope.isCoroutine = false) (hgen : fd.scope.isGenerator = false)
    (hc : fd.code = .ref cc) (hoc : s.heap.get? cc = some oc) (hdc : oc.data = .fields fv) (hq : fv[1]? = some (.str q tq)) (hbody : fd.body = .stmts body)
    (h : wpAny (model P w) A.in1 (bindArgs fd args) (fun binds s1 => wpAny (model P w) A.in1 (newFunctionEnv fd.scope fd.globals fd.closure binds (q ++ ".<locals>.") (some a) (.ref cc) none fd.builtins)
        (fun env s2 => s2.heap.NoLimit ∧ codeAny (model P w) A (.func body env) R s2) (fun e s' => R (.error e) s') s1) (fun e s' => R (.error e) s') s) : codeAny (model P w) A (.call (.ref a) args) R s := by
  refine codeAny_of_tree (show wpAny _ A.in1 (callAny (.ref a) args) _ _ s from ?_)
  unfold callAny
  refine wpAny_bind (wpAny_load ho ?_)
  simp only [hd, callFunction, hco, hgen, hbody, hc]
  refine wpAny_bind (m := field (.ref cc) 1) (wpAny_field hoc hdc hq (wpAny_bind (wpAny_pure (wpAny_bind (wpAny_mono h (fun binds s1 h1 => ?_) fun _ _ z => z)))))
  exact wpAny_bind (wpAny_mono h1 (fun env s2 h2 => wpAny_bind (wpAny_enterFrame h2.1 hroom (wpAny_pure ⟨rfl, h2.2⟩))) fun _ _ z => z)
theorem call_ownE {body : Expr} (hroom : A.depth < recursionLimit) (ho : s.heap.get? a = some o) (hd : o.data = .func fd) (hco : fd.scope.isCoroutine = false) (hgen : fd.scope.isGenerator = false)
    (hc : fd.code = .ref cc) (hoc : s.heap.get? cc = some oc) (hdc : oc.data = .fields fv) (hq : fv[1]? = some (.str q tq)) (hbody : fd.body = .expr body)
    (h : wpAny (model P w) A.in1 (bindArgs fd args) (fun binds s1 => wpAny (model P w) A.in1 (newFunctionEnv fd.scope fd.globals fd.closure binds (q ++ ".<locals>.") (some a) (.ref cc) none fd.builtins)
        (fun env s2 => s2.heap.NoLimit ∧ codeAny (model P w) A (.expr body env) R s2) (fun e s' => R (.error e) s') s1) (fun e s' => R (.error e) s') s) : codeAny (model P w) A (.call (.ref a) args) R s := by
  refine codeAny_of_tree (show wpAny _ A.in1 (callAny (.ref a) args) _ _ s from ?_)
  unfold callAny
  refine wpAny_bind (wpAny_load ho ?_)
  simp only [hd, callFunction, hco, hgen, hbody, hc]
  refine wpAny_bind (m := field (.ref cc) 1) (wpAny_field hoc hdc hq (wpAny_bind (wpAny_pure (wpAny_bind (wpAny_mono h (fun binds s1 h1 => ?_) fun _ _ z => z)))))
  exact wpAny_bind (wpAny_mono h1 (fun env s2 h2 => wpAny_bind (wpAny_enterFrame h2.1 hroom (wpAny_pure ⟨rfl, h2.2⟩))) fun _ _ z => z)
end
/-- a promise of the arguments and of what the cells hold -/
abbrev SpN := List V → List V → Hp → VK → XK → Prop
structure ClOk (P : Program) (w : World) (K : PySem.W.Frag) (mg : Str → Option Value) (base : Bs) (CX : CXT) (k : Nat) (n : Nst) (sp : SpN) : Prop where
  run : ∀ (A : Around) (outer : List Env) (s : Shared) (H : Hp) (q : Addr) (cl : List (Str × Addr)) (us : List Value) (vs cv : List V) (Q : VK) (E : XK), Room k A → Env0 P w K mg base A outer s H → CloAt n H q cl → CellsAt H n.free cl cv → Vals vs us → sp vs cv H Q E →
    codeAny (model P w) A (.call (.ref q) ⟨us, []⟩) (CR CX outer P w H s Q E) s
section
variable {CX : CXT} {P : Program} {w : World} {K : PySem.W.Frag} {mg : Str → Option Value} {base : Bs} {k : Nat} {n : Nst} {N ps : List Str} {sp : SpN}
theorem clo_of {body : List Stmt} (hb : n.body = .stmts body) (S : NScope N ps n.free n.scope) (len : ∀ vs cv H Q E, sp vs cv H Q E → vs.length = ps.length)
    (hbind : ∀ (nm qual : Str) (cl : List (Str × Addr)) (doc pm cdv ct : Value) (us : List Value), us.length = ps.length → bindArgs (fnY n nm qual cl doc pm cdv ct) ⟨us, []⟩ = pure (ps.zip us))
    (hbody : ∀ (qual : Str) (cd : Value) (cl : List (Str × Addr)) (f : Addr) (A : Around) (outer : List Env) (s : Shared) (H : Hp) (vs cv : List V) (Q : VK) (E : XK), Room k (A.deeper (PySem.W.envX qual n.scope s.heap.objs.size f cd cl)) → CellsAt H n.free cl cv → sp vs cv H Q E →
      ∃ t, PSs (cxN CX P w K mg base N qual n.scope f cd cl A outer s H E) body t ∧ t { nx := fun _ H' => Q .non H', rt := Q } (start N (vs ++ cv)) H) : ClOk P w K mg base CX (k + 1) n sp := by
  refine ⟨fun A outer s H q cl us vs cv Q E hr e0 hc hce r hsp => ?_⟩
  obtain ⟨o, u, nm, qual, doc, pm, cc, ct, oc, u2, e1, e2, e3, e4, fv, fq, tq, e5, e6⟩ := hc
  obtain ⟨g1, _⟩ := e0.hok q _ e1
  obtain ⟨g2, _⟩ := e0.hok cc _ e4
  have lim : s.heap.NoLimit := e0.mod.nolimit.keeps fun b o e => (e0.bs b o e).1
  have hlu : us.length = ps.length := by rw [← r.length]; exact len _ _ _ _ _ hsp
  refine call_own hr.depth g1 e3 S.co S.gen rfl g2 e5 e6 hb ?_
  rw [hbind _ _ _ _ _ _ _ _ hlu]
  refine wpAny_pure (wpAny_newFunctionEnv S.nocell (fun x hx => S.par x.1 (List.of_mem_zip (show (x.1, x.2) ∈ ps.zip us from hx)).1) (fun h1 hns hsb => ⟨lim.fresh _ hsb, codeAny_func ?_⟩) S.kind)
  have hk : ∀ b o, s.heap.get? b = some o → h1.get? b = some o := fun b o e => hsb.extBut b o (Nat.ne_of_lt (Heap.lt_size e)) (Heap.get?_push_of_some _ e)
  obtain ⟨t, ht, hq⟩ := hbody fq (.ref cc) cl q A outer s H vs cv Q E (hr.deeper _) hce hsp
  have I := inv_startN (CX := CX) (N := N) (qual := fq) (f := q) (cd := .ref cc) (E := E) (tk := s.toks + (ps.zip us).length) S hr.hd e0 (len _ _ _ _ _ hsp) r hce hns hk
  refine wpAny_mono (ht [] _ _ H _ I hq) (fun fl s' hs => ?_) fun e s' hs => hs
  cases fl with
  | ret u =>
    obtain ⟨v, H', J, rv, q⟩ := hs
    exact ⟨v, H', J.os, J.bare, J.base, J.hok, rv, q⟩
  | next =>
    obtain ⟨σ', H', J, q⟩ := hs
    exact ⟨V.non, H', J.os, J.bare, J.base, J.hok, rfl, q⟩
  | brk => obtain ⟨_, _, _, q⟩ := hs; exact q.elim
  | cont => obtain ⟨_, _, _, q⟩ := hs; exact q.elim
theorem clo_ofE {body : Expr} (hb : n.body = .expr body) (S : NScope N ps n.free n.scope) (len : ∀ vs cv H Q E, sp vs cv H Q E → vs.length = ps.length)
    (hbind : ∀ (nm qual : Str) (cl : List (Str × Addr)) (doc pm cdv ct : Value) (us : List Value), us.length = ps.length → bindArgs (fnY n nm qual cl doc pm cdv ct) ⟨us, []⟩ = pure (ps.zip us))
    (hbody : ∀ (qual : Str) (cd : Value) (cl : List (Str × Addr)) (f : Addr) (A : Around) (outer : List Env) (s : Shared) (H : Hp) (vs cv : List V) (Q : VK) (E : XK), Room k (A.deeper (PySem.W.envX qual n.scope s.heap.objs.size f cd cl)) → CellsAt H n.free cl cv → sp vs cv H Q E →
      ∃ t, PE (cxN CX P w K mg base N qual n.scope f cd cl A outer s H E) body t ∧ t (start N (vs ++ cv)) H Q) : ClOk P w K mg base CX (k + 1) n sp := by
  refine ⟨fun A outer s H q cl us vs cv Q E hr e0 hc hce r hsp => ?_⟩
  obtain ⟨o, u, nm, qual, doc, pm, cc, ct, oc, u2, e1, e2, e3, e4, fv, fq, tq, e5, e6⟩ := hc
  obtain ⟨g1, _⟩ := e0.hok q _ e1
  obtain ⟨g2, _⟩ := e0.hok cc _ e4
  have lim : s.heap.NoLimit := e0.mod.nolimit.keeps fun b o e => (e0.bs b o e).1
  have hlu : us.length = ps.length := by rw [← r.length]; exact len _ _ _ _ _ hsp
  refine call_ownE hr.depth g1 e3 S.co S.gen rfl g2 e5 e6 hb ?_
  rw [hbind _ _ _ _ _ _ _ _ hlu]
  refine wpAny_pure (wpAny_newFunctionEnv S.nocell (fun x hx => S.par x.1 (List.of_mem_zip (show (x.1, x.2) ∈ ps.zip us from hx)).1) (fun h1 hns hsb => ⟨lim.fresh _ hsb, PySem.W.kla_codeExpr ?_⟩) S.kind)
  have hk : ∀ b o, s.heap.get? b = some o → h1.get? b = some o := fun b o e => hsb.extBut b o (Nat.ne_of_lt (Heap.lt_size e)) (Heap.get?_push_of_some _ e)
  obtain ⟨t, ht, hq⟩ := hbody fq (.ref cc) cl q A outer s H vs cv Q E (hr.deeper _) hce hsp
  have I := inv_startN (CX := CX) (N := N) (qual := fq) (f := q) (cd := .ref cc) (E := E) (tk := s.toks + (ps.zip us).length) S hr.hd e0 (len _ _ _ _ _ hsp) r hce hns hk
  exact wpAny_mono (ht [] _ _ H _ I hq) (fun u s' ⟨v, H', J, rv, q⟩ => ⟨v, H', J.os, J.bare, J.base, J.hok, rv, q⟩) fun e s' hs => hs
end
/-! ### x(..), x.a(..): x, or its attribute, holds a function -/
section
variable {X : Cx} {CX : CXT} {k : Nat} {E : XK} {x m : Str} {p pos apos : Pos} {e o : Expr} {es : List Expr} {ta : TE} {t : TA} {ι : Type} {nn : ι → Nst} {sp : ι → SpN}
def tCallV (nn : ι → Nst) (sp : ι → SpN) (E : XK) (t : TA) (σ : St) (H : Hp) (x : V) (Q : VK) : Prop := ∃ (i : ι) (q : Addr) (cl : List (Str × Addr)) (cv : List V), x = .ref q ∧ CloAt (nn i) H q cl ∧ t σ H fun vs H2 => CloAt (nn i) H2 q cl ∧ CellsAt H2 (nn i).free cl cv ∧ sp i vs cv H2 Q E
theorem CloAt.fn {pins : List (Addr × Obj)} {σ : St} {H : Hp} {s : Shared} {n : Nst} {q : Addr} {cl : List (Str × Addr)} (I : Inv X pins σ H s) (h : CloAt n H q cl) : PySem.W.FnAt q s.heap := by
  obtain ⟨o, u, nm, qual, doc, pm, cc, ct, oc, u2, e1, e2, e3, _⟩ := h
  obtain ⟨g, _⟩ := I.hok q _ e1
  obtain ⟨c, d, dt, sl⟩ := o
  exact ⟨c, d, _, sl, by rw [g]; exact congrArg (fun z => some (Obj.mk c d z sl)) e3⟩
theorem run_clo {pins : List (Addr × Obj)} {σ : St} {H : Hp} {s : Shared} {Q : VK} {us : List Value} {vs cv : List V} {n : Nst} {sp : SpN} {q : Addr} {cl : List (Str × Addr)} (F : ClOk X.prog X.w X.K X.mg X.base CX k n sp) (hr : Room k X.A) (hx : Passes CX X E)
    (I : Inv X pins σ H s) (hc : CloAt n H q cl) (hce : CellsAt H n.free cl cv) (r : Vals vs us) (h : sp vs cv H Q E) : wpAny (model X.prog X.w) X.A (call (.ref q) us) (EP X pins σ Q) X.xe s := by
  refine wpAny_call (codeAny_mono (F.run X.A X.stack s H q cl us vs cv Q E hr I.env0 hc hce r h) fun r s' hq => ?_)
  cases r with
  | error e => exact hx pins σ H s e s' I hq
  | ok fl =>
    cases fl with
    | ret u => exact I.after hq
    | next => exact False.elim hq
    | brk => exact False.elim hq
    | cont => exact False.elim hq
theorem pe_callA {pl : Sem Bool} (he : PE X o ta) (F : ∀ i, ClOk X.prog X.w X.K X.mg X.base CX k (nn i) (sp i)) (hr : Room k X.A) (hx : Passes CX X E) (ha : PA X (e :: es) t)
    (hst : starEach (e :: es) X.env = (false, eval e X.env) :: starEach es X.env := by rfl) (hpl : (backTo pos (starEach es X.env)).any (·.1) = false := by rfl)
    (ht : eval (.Call (.Attribute o m apos) (e :: es) [] pos) X.env = (do
      let ov ← eval o X.env
      standAt apos.atName
      let (f, first) ← holding [ov] (getMethod ov m pl)
      callWith pos f first (backTo pos (starEach (e :: es) X.env)) (backToKw pos (keywordEach [] X.env))) := by rfl) :
    PE X (.Call (.Attribute o m apos) (e :: es) [] pos) (fun σ H Q => ta σ H fun v H1 => ∃ a C dx fs u, v = .ref a ∧ H1 a = some (.ins C dx fs) ∧ Cls X.K C ∧ NoAttr X.K C m ∧ fs.lookup m = some u ∧ tCallV nn sp E t σ H1 u Q) := by
  intro pins s σ H Q I h
  refine PySem.W.methodCall_KW (pl := pl) (thn (he pins s σ H _ I h) fun u s1 ⟨v, H1, I1, rv, a, C, dx, fs, y, ev, ea, hC, hn, hl, h2⟩ => ?_) ht
  subst ev
  obtain rfl : u = Value.ref a := rv
  obtain ⟨mA, O, r, _, _, _⟩ := ins_get I1.hok ea
  obtain ⟨od, J, _⟩ := O.look
  refine PySem.W.method_usual I1.kIn J (PySem.W.plainGet_of (hC.get m)).1 (PySem.W.plainGet_of (hC.get m)).2 hn rfl (getattr_ok I1 ea hC hn hl fun z s2 I2 rz => ?_)
  obtain ⟨i, q, cl, cv, eq, hc, h1⟩ := h2
  subst eq
  obtain rfl : z = Value.ref q := rz
  exact PySem.W.callWith_F (hc.fn I2) (thn (ha pos pins s2 σ H1 _ I2 h1) fun us s3 ⟨vs, H2, I3, r, hc2, hce, h3⟩ => ⟨hc2.fn I3, run_clo (F i) hr hx I3 hc2 hce r h3⟩) hst hpl
end
end L2
end
section
set_option Elab.async false
set_option linter.all false
set_option maxRecDepth 100000
set_option maxHeartbeats 4000000
namespace L2
open PySem PySem.Spec PyProof.Rows
section
variable {X : Cx} {pins : List (Addr × Obj)} {σ : St} {H : Hp} {s : Shared}
/-! ### a cell of this frame that is not stored to any more -/
theorem Inv.seal (I : Inv X pins σ H s) {x : Str} {c : Addr} (hx : X.env.cells.lookup x = some c) (hf : X.fn x = false) (hw : X.cw x = true) :
    ∃ H', Inv X pins σ H' s ∧ (∀ a o, H a = some o → H' a = some o) ∧ ∃ ob u, H' c = some (.frz ob u) := by
  obtain ⟨v, ob, hob, hd⟩ := I.cell x c hx
  rcases I.freeC x c hx with hc | ⟨_, o, u, hc⟩
  · have ne : ∀ {b : Addr} {o : HO}, H b = some o → b ≠ c := fun {b o} e z => by rw [z, hc] at e; cases e
    refine ⟨upd H c (.frz ob (.own 0)), ⟨I.ok, I.os, I.bare, ⟨I.base.keep, I.base.slot, fun b o e n hb => ?_, I.base.there, fun b xs e => ?_, fun b o u e => ?_, fun b q e => ?_⟩, I.loc, I.cell, ?_, fun y c' e => ?_, fun p hp => ?_, fun b o e => ?_, I.len⟩, fun a o e => ?_, ob, .own 0, upd_same⟩
    · rw [upd_ne (Nat.ne_of_lt (Nat.lt_of_lt_of_le (Heap.lt_size e) (I.ok.cab x c hw hx)))]
      exact I.base.free b o e n hb
    · have := I.base.tups b xs e; rw [upd_ne (ne this)]; exact this
    · have := I.base.frzs b o u e; rw [upd_ne (ne this)]; exact this
    · have := I.base.tbls b q e; rw [upd_ne (ne this)]; exact this
    · rw [upd_ne (Ne.symm (I.cne x c hx))]; exact I.free
    · by_cases h : c' = c
      · subst h
        have : y = x := I.ok.inj y x c' e hx
        subst this
        exact .inr ⟨hf, ob, .own 0, upd_same⟩
      · rw [upd_ne h]; exact I.freeC y c' e
    · obtain ⟨e, n, ne', nf, d⟩ := I.pin p hp
      have : p.1 ≠ c := fun z => by
        rw [z, hob] at e
        have q : ob = p.2 := Option.some.inj e
        exact d v (by rw [← q]; exact hd)
      exact ⟨e, by rw [upd_ne this]; exact n, ne', nf, d⟩
    · by_cases h : b = c
      · subst h; rw [upd_same] at e; cases e; exact ⟨hob, ob, hob⟩
      · rw [upd_ne h] at e
        exact (I.hok b o e).stay (fun _ _ _ q => q) (fun d q => by rw [upd_ne (ne q)]; exact q) (fun d xs q => by rw [upd_ne (ne q)]; exact q) fun d o u q => by rw [upd_ne (ne q)]; exact q
    · rw [upd_ne (ne e)]; exact e
  · exact ⟨H, I, fun _ _ e => e, o, u, hc⟩
theorem Inv.sealAll : ∀ (fr : List Str) {H : Hp}, Inv X pins σ H s → (∀ x ∈ fr, (∃ c, X.env.cells.lookup x = some c) ∧ X.fn x = false ∧ X.cw x = true) →
    ∃ H', Inv X pins σ H' s ∧ (∀ a o, H a = some o → H' a = some o) ∧ ∀ x ∈ fr, ∃ c ob u, X.env.cells.lookup x = some c ∧ H' c = some (.frz ob u)
  | [], H, I, _ => ⟨H, I, fun _ _ e => e, fun x hx => absurd hx (by simp)⟩
  | y :: fr, H, I, h => by
    obtain ⟨⟨c, hc⟩, hf, hw⟩ := h y List.mem_cons_self
    obtain ⟨H1, I1, s1, ob, u, e1⟩ := I.seal hc hf hw
    obtain ⟨H2, I2, s2, e2⟩ := Inv.sealAll fr I1 fun x hx => h x (List.mem_cons_of_mem _ hx)
    refine ⟨H2, I2, fun a o e => s2 _ _ (s1 _ _ e), fun x hx => ?_⟩
    rcases List.mem_cons.mp hx with rfl | hx
    · exact ⟨c, ob, u, hc, s2 _ _ e1⟩
    · exact e2 x hx
/-! ### the table grows -/
theorem among_snoc {pos : Pos} {a b : Int} {c cv : Value} (l : List Value) (h : TriplesOk l) (e : codeAmong pos (l ++ [rawInt a, rawInt b, c]) = some cv) : codeAmong pos l = some cv ∨ cv = c := by
  fun_induction TriplesOk l with
  | case1 =>
    simp only [List.nil_append, rawInt, codeAmong] at e
    split at e
    · cases e; exact .inr rfl
    · cases e
  | case2 l1 t1 l2 t2 d rest ih =>
    simp only [List.cons_append, codeAmong] at e ⊢
    split at e
    · rename_i hc; rw [if_pos hc]; exact .inl e
    · rename_i hc; rw [if_neg hc]; exact ih h e
  | case3 l h1 h2 => exact h.elim
theorem Inv.madeNew {P c' : Addr} {oc fo : Obj} {h' : Heap} {ps : Array Value} {a b : Int} {tk : Nat} {q : Nat} (I : Inv X pins σ H s) (hP : H P = some (.tbl q)) (hx : Heap.ExtBut P s.heap h') (h1 : s.heap.objs.size ≤ c') (h2 : c' < h'.objs.size)
    (hps : s.heap.get? P = some (PySem.W.tabObj ps)) (ht : TriplesOk ps.toList) (hT : h'.get? P = some (PySem.W.tabObj (ps ++ #[rawInt a, rawInt b, .ref c']))) (hoc : h'.get? c' = some oc) (hC : CodeO oc) (hfo : fo.isFreed = false) :
    Inv X pins σ (upd (upd H c' (.frz oc (.own 0))) h'.objs.size (.frz fo (.own 0))) { s with heap := h'.push fo, toks := tk } := by
  have hq : s.heap.objs.size ≤ h'.objs.size := Nat.le_trans h1 (Nat.le_of_lt h2)
  have n1 : H c' = none := I.hok.fresh h1
  have n2 : H h'.objs.size = none := I.hok.fresh hq
  have ne1 : ∀ {b : Addr} {o : HO}, H b = some o → b ≠ c' := fun {b o} e z => by rw [z, n1] at e; cases e
  have ne2 : ∀ {b : Addr} {o : HO}, H b = some o → b ≠ h'.objs.size := fun {b o} e z => by rw [z, n2] at e; cases e
  have up : ∀ {b : Addr} {o : HO}, H b = some o → upd (upd H c' (.frz oc (.own 0))) h'.objs.size (.frz fo (.own 0)) b = some o := fun {b o} e => by rw [upd_ne (ne2 e), upd_ne (ne1 e)]; exact e
  have old1 : ∀ {b : Addr} {o : Obj}, s.heap.get? b = some o → b ≠ c' := fun {b o} e => Nat.ne_of_lt (Nat.lt_of_lt_of_le (Heap.lt_size e) h1)
  have old2 : ∀ {b : Addr} {o : Obj}, s.heap.get? b = some o → b ≠ h'.objs.size := fun {b o} e => Nat.ne_of_lt (Nat.lt_of_lt_of_le (Heap.lt_size e) hq)
  have keep : ∀ b o, b ≠ P → s.heap.get? b = some o → (h'.push fo).get? b = some o := fun b o n e => Heap.get?_push_of_some _ (hx b o n e)
  have hTp : (h'.push fo).get? P = some (PySem.W.tabObj (ps ++ #[rawInt a, rawInt b, .ref c'])) := Heap.get?_push_of_some _ hT
  have unP : ∀ b, H b = none → b ≠ P := fun b n z => by rw [z, hP] at n; cases n
  refine I.un (h' := h'.push fo) (t' := tk) ⟨fun b o e n _ _ => keep b o (unP b n) e, fun b o e n _ _ => ⟨o.slots, keep b o (unP b n) e⟩, fun b o e n _ => by rw [upd_ne (old2 e), upd_ne (old1 e)]; exact n, fun b o e _ => ?_, fun b xs e => up e, fun b o u e => up e, fun b q e => up e⟩ fun b o e => ?_
  · by_cases hb : b = P
    · rw [hb]; exact ⟨_, hTp⟩
    · exact ⟨o, keep b o hb e⟩
  · by_cases hb2 : b = h'.objs.size
    · subst hb2
      rw [upd_same] at e; cases e
      have : (h'.push fo).get? h'.objs.size = some fo := Heap.get?_push_size _ hfo
      exact ⟨this, fo, this⟩
    · rw [upd_ne hb2] at e
      by_cases hb1 : b = c'
      · subst hb1
        rw [upd_same] at e; cases e
        have := Heap.get?_push_of_some (h := h') fo hoc
        exact ⟨this, oc, this⟩
      · rw [upd_ne hb1] at e
        by_cases hbP : b = P
        · subst hbP
          rw [hP] at e; cases e
          obtain ⟨ps', e1, _, r⟩ := I.hok b _ hP
          rw [hps] at e1; cases e1
          refine ⟨_, hTp, by rw [Array.toList_append]; exact TriplesOk_snoc _ _ _ _ ht, fun pos cv z => ?_⟩
          rw [Array.toList_append] at z
          rcases among_snoc _ ht z with z | z
          · obtain ⟨c, o', u, a1, a2, a3⟩ := r pos cv z
            exact ⟨c, o', u, a1, up a2, a3⟩
          · exact ⟨c', oc, .own 0, z, by rw [upd_ne (Nat.ne_of_lt h2), upd_same], hC⟩
        · refine (I.hok b o e).stay (fun d v hd' z => keep d v ?_ z) (fun d z => up z) (fun d xs z => up z) fun d o u z => up z
          rcases hd' with rfl | hd'
          · exact hbP
          · rintro rfl; rw [hP] at hd'; cases hd'
/-! ### a function is made -/
/-- the code object of the frame, its table -/
structure MkX (X : Cx) (c P : Addr) : Prop where
  code : X.env.code = .ref c
  hd : PySem.W.codeHdIn X.K c P = true
  tab : P ∈ X.base.tabs
/-- the names that it takes from around: cells of this frame, stored to no more; where they stand -/
structure Takes (X : Cx) (n : Nst) (js : List Nat) : Prop where
  len : n.free.length = js.length
  at_ : ∀ (i : Nat) x j, n.free[i]? = some x → js[i]? = some j → X.N[j]? = some x ∧ X.env.kindOf x = some .cell ∧ X.fn x = false ∧ X.cw x = true ∧ (x, NameKind.free) ∈ n.scope.names
  all : ∀ y ∈ n.scope.names, y.2 = .free → y.1 ∈ n.free
def Held (σ : St) (js : List Nat) (cv : List V) : Prop := js.length = cv.length ∧ ∀ (i : Nat) j v, js[i]? = some j → cv[i]? = some v → σ[j]? = some (some v)
theorem Takes.mem {n : Nst} {js : List Nat} (T : Takes X n js) {x : Str} (hx : x ∈ n.free) : ∃ (i j : Nat), n.free[i]? = some x ∧ js[i]? = some j := by
  obtain ⟨i, hi, e⟩ := List.getElem_of_mem hx
  have : i < js.length := by rw [← T.len]; exact hi
  exact ⟨i, js[i], by rw [List.getElem?_eq_getElem hi, e], List.getElem?_eq_getElem this⟩
theorem clos_free {env : Env} {x : Str} {c : Addr} : ∀ {ns : List (Str × NameKind)} {cs : List (Str × Addr)}, (clos env ns cs).lookup x = some c → (∃ d, cs.lookup x = some d) ∨ (x, NameKind.free) ∈ ns
  | [], cs, h => .inl ⟨c, h⟩
  | (m, k) :: r, cs, h => by
    have ih := clos_free (ns := r) h
    rcases ih with ⟨d, ih⟩ | ih
    · by_cases hk : (k == NameKind.free) = true
      · rw [if_pos hk] at ih
        cases e : env.cells.lookup m with
        | none => rw [e] at ih; exact .inl ⟨d, ih⟩
        | some a =>
          rw [e] at ih
          by_cases hx : x == m
          · have hx' : x = m := by simpa using hx
            have hk' : k = NameKind.free := by simpa using hk
            subst hx' hk'
            exact .inr List.mem_cons_self
          · have ih : List.lookup x ((m, a) :: cs) = some d := ih
            rw [List.lookup_cons, show (x == m) = false from by simpa using hx] at ih
            exact .inl ⟨d, ih⟩
      · rw [if_neg hk] at ih; exact .inl ⟨d, ih⟩
    · exact .inr (List.mem_cons_of_mem _ ih)
theorem run_mk {c P : Addr} {n : Nst} {js : List Nat} {cv : List V} {nm qual : Str} {pos : Pos} {line : Nat} {Q : Value → Shared → Prop} (I : Inv X pins σ H s) (m : MkX X c P) (T : Takes X n js) (hv : Held σ js cv)
    (h : ∀ q cl H' s', Inv X pins σ H' s' → (∀ a o, H a = some o → H' a = some o) → H q = none → CloAt n H' q cl → CellsAt H' n.free cl cv → Q (.ref q) s') :
    wpAny (model X.prog X.w) X.A (makeFunction nm qual n.params n.body n.scope X.env [] [] [] pos line) Q X.xe s := by
  have has : ∀ x ∈ n.free, (∃ c, X.env.cells.lookup x = some c) ∧ X.fn x = false ∧ X.cw x = true := fun x hx => by
    obtain ⟨i, j, e1, e2⟩ := T.mem hx
    obtain ⟨_, k, f, w, _⟩ := T.at_ i x j e1 e2
    exact ⟨I.ok.has x (.inl k), f, w⟩
  have hcl : closureFor n.scope X.env = pure (clos X.env n.scope.names []) := closureFor_eq fun y hy hk => (has y.1 (T.all y hy hk)).1
  obtain ⟨H1, I1, s1, hs⟩ := Inv.sealAll n.free I has
  -- the cells
  have cells : ∀ H2 : Hp, (∀ a o u, H1 a = some (.frz o u) → H2 a = some (.frz o u)) → CellsAt H2 n.free (clos X.env n.scope.names []) cv := fun H2 k => by
    refine ⟨T.len.trans hv.1, fun i x v e1 e2 => ?_, fun x d e => ?_, fun x y d e1 e2 => ?_⟩
    · have hi : i < js.length := by rw [hv.1]; exact (List.getElem?_eq_some_iff.mp e2).1
      have e3 := List.getElem?_eq_getElem hi
      obtain ⟨a1, a2, a3, a4, a5⟩ := T.at_ i x js[i] e1 e3
      obtain ⟨d, ob, u, b1, b2⟩ := hs x (List.mem_of_getElem? e1)
      obtain ⟨mm, _, hl⟩ := I1.loc
      obtain ⟨uu, r, l⟩ := hl js[i] x v a1 (hv.2 i js[i] v e3 e2) (.inr (.inl a2))
      obtain ⟨g, _⟩ := I1.hok d _ b2
      rcases l with ⟨k1, _⟩ | ⟨_, d', b3, oo, b4, b5⟩
      · rw [a2] at k1; cases k1
      · rw [b1] at b3; cases b3
        rw [g] at b4; cases b4
        exact ⟨d, ob, u, uu, clos_has b1 a5, k _ _ _ b2, b5, r⟩
    · rcases clos_free e with ⟨z, e'⟩ | e'
      · simp at e'
      · exact T.all _ e' rfl
    · have f1 := (clos_sub e1).resolve_left (by simp)
      have f2 := (clos_sub e2).resolve_left (by simp)
      exact I.ok.inj x y d f1 f2
  have hP : H1 P = some (.tbl 0) := I1.base.tbls P 0 (I.ok.tab P m.tab)
  obtain ⟨ps, g1, ht, ent⟩ := I1.hok P _ hP
  have hg : s.heap.Ns mainGlobals X.mg := I.mod.glob.keeps I.bk
  have C : PySem.W.CodeHd s.heap c P := PySem.W.codeHd_of_K I.kIn m.hd
  have nP : ∀ {b : Addr} {o : Obj}, X.base.get? b = some o → b ≠ P := fun {b o} e z => by
    have := (I1.bs b o e).2
    rw [z, hP] at this; cases this
  have hgP : mainGlobals ≠ P := by
    obtain ⟨o, _, _, e, _⟩ := I.mod.glob
    exact nP e
  have hb : s.heap.BuiltinsAt X.mg P := by
    obtain ⟨bm, ob, a1, a2, a3, a4, a5, a6⟩ := I.mod.bmain
    refine ⟨bm, ob, a1, a2, fun z => ?_, nP a3, I.bk _ _ a3, a4, a5, a6⟩
    obtain ⟨o, es, ep, e, d, _⟩ := I.mod.glob
    rw [z, e] at a3; cases a3; rw [d] at a6; cases a6
  have fz : ∀ {a : Addr} {o : HO}, H a = some o → H1 a = some o := fun e => s1 _ _ e
  have fresh : ∀ {q : Addr}, s.heap.objs.size ≤ q → H q = none := fun e => I.hok.fresh e
  have newC : ∀ (c' : Addr) (h' : Heap) (tk : Nat) (fo : Obj) (doc pm ct : Value), Heap.ExtBut P s.heap h' → s.heap.objs.size ≤ c' → c' < h'.objs.size → h'.CodeRec (.ref c') qual → h'.get? P = some (PySem.W.tabObj (ps ++ #[rawInt pos.line, rawInt pos.col, .ref c'])) →
      fo.isFreed = false → fo.cls = .type "function" → fo.data = .func (fnY n nm qual (clos X.env n.scope.names []) doc pm (.ref c') ct) → Q (.ref h'.objs.size) { s with heap := h'.push fo, toks := tk } := fun c' h' tk fo doc pm ct hx x1 x2 hrec hT f1 f2 f3 => by
    obtain ⟨c2, oc, fv, t, z1, z2, z3, z4⟩ := hrec
    cases z1
    have hq : s.heap.objs.size ≤ h'.objs.size := Nat.le_trans x1 (Nat.le_of_lt x2)
    have J := I1.madeNew (tk := tk) hP hx x1 x2 g1 ht hT z2 ⟨fv, qual, t, z3, z4⟩ f1
    have n1 := I1.hok.fresh x1
    have n2 := I1.hok.fresh hq
    have up : ∀ {b : Addr} {o : HO}, H1 b = some o → upd (upd H1 c' (.frz oc (.own 0))) h'.objs.size (.frz fo (.own 0)) b = some o := fun {b o} e => by
      rw [upd_ne (ne_of_none e n2), upd_ne (ne_of_none e n1)]; exact e
    refine h _ (clos X.env n.scope.names []) _ _ J (fun a o e => up (fz e)) (fresh hq) ⟨fo, .own 0, nm, qual, doc, pm, c', ct, oc, .own 0, upd_same, f2, f3, by rw [upd_ne (Nat.ne_of_lt x2), upd_same], fv, qual, t, z3, z4⟩ (cells _ fun a o u e => up e)
  have hitC : ∀ (cv' : Value) (h' : Heap) (tk : Nat) (fo : Obj) (doc pm ct : Value), codeAmong pos ps.toList = some cv' → (∀ b o, s.heap.get? b = some o → h'.get? b = some o) → s.heap.objs.size ≤ h'.objs.size →
      fo.isFreed = false → fo.cls = .type "function" → fo.data = .func (fnY n nm qual (clos X.env n.scope.names []) doc pm cv' ct) → Q (.ref h'.objs.size) { s with heap := h'.push fo, toks := tk } := fun cv' h' tk fo doc pm ct hf hk hq f1 f2 f3 => by
    obtain ⟨c', oc, u, z1, z2, z3⟩ := ent pos cv' hf
    subst z1
    have n2 := I1.hok.fresh hq
    have J := I1.laid (o := .frz fo (.own 0)) (h' := h'.push fo) (t' := tk) (fun b o e => Heap.get?_push_of_some _ (hk b o e)) hq (show ObjOk X.prog X.w _ _ _ (.frz fo (.own 0)) from by
      have := Heap.get?_push_size h' f1
      exact ⟨this, fo, this⟩)
    have up : ∀ {b : Addr} {o : HO}, H1 b = some o → upd H1 h'.objs.size (.frz fo (.own 0)) b = some o := fun {b o} e => by rw [upd_ne (ne_of_none e n2)]; exact e
    exact h _ (clos X.env n.scope.names []) _ _ J (fun a o e => up (fz e)) (fresh hq) ⟨fo, .own 0, nm, qual, doc, pm, c', ct, oc, u, upd_same, f2, f3, up z2, z3⟩ (cells _ fun a o u e => up e)
  obtain ⟨prm, bd, sc, fr⟩ := n
  cases bd with
  | stmts body =>
    cases hf : codeAmong pos ps.toList with
    | none => exact PySem.W.makeFunction_K hcl I.ok.glob hg m.code C g1 ht hf hgP hb fun c' ct doc h' tk hx x1 x2 hrec hT => newC c' h' tk _ doc _ ct hx x1 x2 hrec hT rfl rfl rfl
    | some cv' => exact PySem.W.makeFunction_hit hcl I.ok.glob hg m.code C g1 ht hf hb fun ct doc h' tk hk hq => hitC cv' h' tk _ doc _ ct hf hk hq rfl rfl rfl
  | expr body =>
    cases hf : codeAmong pos ps.toList with
    | none => exact PySem.W.kla_makeFunction hcl I.ok.glob hg m.code C g1 ht hf hgP hb fun c' ct h' tk hx x1 x2 hrec hT => newC c' h' tk _ .none _ ct hx x1 x2 hrec hT rfl rfl rfl
    | some cv' => exact PySem.W.kla_makeFunctionHit hcl I.ok.glob hg m.code C g1 ht hf hb fun ct h' tk hk hq => hitC cv' h' tk _ .none _ ct hf hk hq rfl rfl rfl
/-- what stands behind a function that was made -/
def tMk (n : Nst) (js : List Nat) (σ : St) (H : Hp) (Q : VK) : Prop := ∃ cv, Held σ js cv ∧ ∀ q cl H', (∀ a o, H a = some o → H' a = some o) → H q = none → CloAt n H' q cl → CellsAt H' n.free cl cv → Q (.ref q) H'
theorem pe_lam {c P : Addr} {params : Arguments} {body : Expr} {scope : Scope} {fr : List Str} {js : List Nat} {pos : Pos} (m : MkX X c P) (T : Takes X ⟨params, .expr body, scope, fr⟩ js) (hdef : defaultsOf params X.env = ([], []) := by rfl) :
    PE X (.Lambda params body scope pos) (tMk ⟨params, .expr body, scope, fr⟩ js) := by
  intro pins s σ H Q I ⟨cv, hv, h⟩
  exact PySem.W.kla_eval hdef (run_mk (n := ⟨params, .expr body, scope, fr⟩) I m T hv fun q cl H' s' I' sm hn hc hce => ⟨.ref q, H', I', rfl, h q cl H' sm hn hc hce⟩)
theorem ps_def {c P : Addr} {name : Str} {params : Arguments} {body : List Stmt} {scope : Scope} {fr : List Str} {js : List Nat} {pos : Pos} {i : Nat} (m : MkX X c P) (T : Takes X ⟨params, .stmts body, scope, fr⟩ js) (hN : X.N.Nodup) (hi : X.N[i]? = some name) (hx : Loc X.env.scope name)
    (hd0 : params.defaults = [] := by rfl) (hk0 : params.kw_defaults = [] := by rfl) (ha : annTrees params none X.env = [] := by rfl) (hf : X.fn name = true ∨ X.env.scope.names.lookup name = some .local := by first | exact .inl rfl | exact .inr rfl | assumption) :
    PS X (.FunctionDef name params body [] none [] scope none name pos) (fun D σ H => tMk ⟨params, .stmts body, scope, fr⟩ js σ H fun v H' => D.nx (σ.set i (some v)) H') := by
  intro pins s σ H D I ⟨cv, hv, h⟩
  refine PySem.W.nestDef_K hd0 hk0 ha (run_mk (n := ⟨params, .stmts body, scope, fr⟩) I m T hv fun q cl H' s' I' sm hn hc hce => ?_)
  exact store_ok I' hN hi hx (show RelV (.ref q) (.ref q) from rfl) (fun s'' I'' => ⟨_, H', I'', h q cl H' sm hn hc hce⟩) hf
end
end L2
end
section
set_option Elab.async false
set_option linter.all false
set_option maxRecDepth 100000
set_option maxHeartbeats 4000000
/-! THE MIRROR: a def's body as a total function over plain values, by the rules of the hand layer. -/
namespace DN
open PySem L2
inductive PV where
  | non | bl (b : Bool) | int (i : Int) | str (x : Str)
  | tup (xs : List PV) | lst (xs : List PV) | obj (k : Nat) (xs : List PV) | dic (ks : List Key) (xs : List PV) | clo (f : Nat) (xs : List PV) | dit (ks : List (List Key)) (xs : List PV)
  /- a dict of lists that is only looked at -/
  | dbo (ks : List Key) (xs : List PV)
inductive Rx (α : Type) where
  | ok (a : α) | bad | exc (c : Nat)
def Rx.bind {α β : Type} : Rx α → (α → Rx β) → Rx β
  | .ok a, f => f a
  | .bad, _ => .bad
  | .exc c, _ => .exc c
theorem bind_ok {α β : Type} {m : Rx α} {f : α → Rx β} {b : β} (h : m.bind f = .ok b) : ∃ a, m = .ok a ∧ f a = .ok b := by
  cases m with
  | ok a => exact ⟨a, rfl, h⟩
  | bad => cases h
  | exc c => cases h
@[simp] theorem ok_bind {α β : Type} (a : α) (f : α → Rx β) : (Rx.ok a).bind f = f a := rfl
@[simp] theorem bad_bind {α β : Type} (f : α → Rx β) : (Rx.bad : Rx α).bind f = .bad := rfl
@[simp] theorem exc_bind {α β : Type} (c : Nat) (f : α → Rx β) : (Rx.exc c : Rx α).bind f = .exc c := rfl
/-- the program's classes: address, attributes' names -/
structure Pg where
  cA : Nat → Addr
  fN : Nat → List Str
  nF : Nat → Nst
abbrev Av := Addr → Prop
def RdL (K : PySem.W.Frag) (H : Hp) (A : Av) (a : Addr) (vs : List V) : Prop :=
  (H a = some (.lst vs) ∧ ¬ A a) ∨ (∃ o, H a = some (.frz o (.lst vs))) ∨
    ∃ (o : Obj) (its : Array Value) (n : Nat), K.lookup a = some o ∧ o.cls = .type "list" ∧ o.dict = none ∧ o.data = .seq its n ∧ its.size ≤ sizeLine ∧ Vals vs its.toList
theorem RdL.sq {K : PySem.W.Frag} {H : Hp} {A : Av} {a : Addr} {vs : List V} (h : RdL K H A a vs) : SqL K H a vs := by
  rcases h with ⟨h, _⟩ | ⟨o, h⟩ | h
  · exact .inl (.inl h)
  · exact .inl (.inr ⟨o, h⟩)
  · exact .inr h
mutual
def Rep (K : PySem.W.Frag) (G : Pg) (H : Hp) (A : Av) : PV → V → Prop
  | .non, v => v = .non
  | .bl b, v => v = .bl b
  | .int i, v => v = .int i
  | .str x, v => v = .str x
  | .tup xs, v => ∃ a vs, v = .ref a ∧ H a = some (.tup vs) ∧ Reps K G H A xs vs
  | .lst xs, v => ∃ a vs, v = .ref a ∧ RdL K H A a vs ∧ Reps K G H A xs vs
  | .obj k xs, v => ∃ a dx vs, v = .ref a ∧ H a = some (.ins (G.cA k) dx ((G.fN k).zip vs)) ∧ (G.fN k).length = vs.length ∧ ¬ A a ∧ Reps K G H A xs vs
  | .dic ks xs, v => ∃ a vs ep, v = .ref a ∧ H a = some (.dK (ks.zip vs) ep) ∧ ks.length = vs.length ∧ ¬ A a ∧ Reps K G H A xs vs
  | .dit ks xs, v => ∃ a vs ep, v = .ref a ∧ H a = some (.dT (ks.zip vs) ep) ∧ ks.length = vs.length ∧ ¬ A a ∧ Reps K G H A xs vs
  | .dbo _ _, _ => False
  | .clo f xs, v => ∃ q cl vs, v = .ref q ∧ CloAt (G.nF f) H q cl ∧ CellsAt H (G.nF f).free cl vs ∧ Reps K G H A xs vs
def Reps (K : PySem.W.Frag) (G : Pg) (H : Hp) (A : Av) : List PV → List V → Prop
  | [], vs => vs = []
  | x :: xs, vs => ∃ v r, vs = v :: r ∧ Rep K G H A x v ∧ Reps K G H A xs r
end
/-- what may stand at an address that is one's own -/
abbrev Mt (o : HO) : Prop := (∀ xs, o ≠ .tup xs) ∧ ∀ o' u, o ≠ .frz o' u
/-- frozen things stay: H to H', the addresses to shun A to A' -/
structure Kp (K : PySem.W.Frag) (G : Pg) (H : Hp) (A : Av) (H' : Hp) (A' : Av) : Prop where
  rd : ∀ a o, H a = some o → ¬ A a → H' a = some o
  tp : ∀ a vs, H a = some (.tup vs) → H' a = some (.tup vs)
  fz : ∀ a o u, H a = some (.frz o u) → H' a = some (.frz o u)
  av : ∀ a, H a ≠ none → A' a → A a
section
variable {K : PySem.W.Frag} {G : Pg} {H H' H2 : Hp} {A A' A2 : Av}
theorem Kp.rdL (k : Kp K G H A H' A') {a : Addr} {vs : List V} (h : RdL K H A a vs) : RdL K H' A' a vs := by
  rcases h with ⟨h, n⟩ | ⟨o, h⟩ | h
  · exact .inl ⟨k.rd _ _ h n, fun z => n (k.av _ (by rw [h]; simp) z)⟩
  · exact .inr (.inl ⟨o, k.fz _ _ _ h⟩)
  · exact .inr (.inr h)
mutual
theorem Kp.rep (k : Kp K G H A H' A') : ∀ {w : PV} {v : V}, Rep K G H A w v → Rep K G H' A' w v
  | .non, _, h => h
  | .bl _, _, h => h
  | .int _, _, h => h
  | .str _, _, h => h
  | .tup xs, v, h => by
    obtain ⟨a, vs, e, s, r⟩ := h
    exact ⟨a, vs, e, k.tp _ _ s, Kp.reps k r⟩
  | .lst xs, v, h => by
    obtain ⟨a, vs, e, s, r⟩ := h
    exact ⟨a, vs, e, k.rdL s, Kp.reps k r⟩
  | .obj c xs, v, h => by
    obtain ⟨a, dx, vs, e, s, l, n, r⟩ := h
    exact ⟨a, dx, vs, e, k.rd _ _ s n, l, fun z => n (k.av _ (by rw [s]; simp) z), Kp.reps k r⟩
  | .dic ks xs, v, h => by
    obtain ⟨a, vs, ep, e, s, l, n, r⟩ := h
    exact ⟨a, vs, ep, e, k.rd _ _ s n, l, fun z => n (k.av _ (by rw [s]; simp) z), Kp.reps k r⟩
  | .dit ks xs, v, h => by
    obtain ⟨a, vs, ep, e, s, l, n, r⟩ := h
    exact ⟨a, vs, ep, e, k.rd _ _ s n, l, fun z => n (k.av _ (by rw [s]; simp) z), Kp.reps k r⟩
  | .dbo _ _, v, h => h.elim
  | .clo f xs, v, h => by
    obtain ⟨q, cl, vs, e, hc, hce, r⟩ := h
    exact ⟨q, cl, vs, e, hc.keep k.fz, hce.keep k.fz, Kp.reps k r⟩
theorem Kp.reps (k : Kp K G H A H' A') : ∀ {ws : List PV} {vs : List V}, Reps K G H A ws vs → Reps K G H' A' ws vs
  | [], vs, h => h
  | w :: ws, vs, h => by
    obtain ⟨v, r, e, h1, h2⟩ := h
    exact ⟨v, r, e, Kp.rep k h1, Kp.reps k h2⟩
end
theorem Kp.of_same (s : Same H H') : Kp K G H A H' A := ⟨fun a o h _ => s _ _ h, fun a vs h => s _ _ h, fun a o u h => s _ _ h, fun a _ h => h⟩
theorem Kp.weak (h : ∀ a, A' a → A a) : Kp K G H A H A' := ⟨fun a o h _ => h, fun a vs h => h, fun a o u h => h, fun a _ z => h a z⟩
theorem Kp.trans (k : Kp K G H A H' A') (k2 : Kp K G H' A' H2 A2) : Kp K G H A H2 A2 :=
  ⟨fun a o h n => k2.rd _ _ (k.rd _ _ h n) fun z => n (k.av _ (by rw [h]; simp) z), fun a vs h => k2.tp _ _ (k.tp _ _ h), fun a o u h => k2.fz _ _ _ (k.fz _ _ _ h),
    fun a n z => by
      by_cases q : A a
      · exact q
      · cases e : H a with
        | none => exact absurd e n
        | some o => exact k.av a n (k2.av a (by rw [k.rd _ _ e q]; simp) z)⟩
/-- a store at an address of one's own -/
theorem Kp.own {p : Addr} {o u : HO} (hA : A p) (hp : H p = some o) (m : Mt o) : Kp K G H A (upd H p u) A :=
  ⟨fun a x h n => by
      rw [upd_ne (by intro z; subst z; exact n hA)]; exact h,
    fun a vs h => by
      rw [upd_ne (by intro z; subst z; rw [hp] at h; exact m.1 _ (Option.some.inj h))]; exact h,
    fun a o' u' h => by
      rw [upd_ne (by intro z; subst z; rw [hp] at h; exact m.2 _ _ (Option.some.inj h))]; exact h,
    fun a _ h => h⟩
/-- a new thing that becomes one's own -/
theorem Kp.take {p : Addr} (hp : H p = none) (hs : Same H H') (h : ∀ a, A' a → a = p ∨ A a) : Kp K G H A H' A' :=
  ⟨fun a o h _ => hs _ _ h, fun a vs h => hs _ _ h, fun a o u h => hs _ _ h, fun a n z => by
    rcases h a z with e | e
    · subst e; exact absurd hp n
    · exact e⟩
theorem Rep.same {w : PV} {v : V} (h : Rep K G H A w v) (s : Same H H') : Rep K G H' A w v := (Kp.of_same s).rep h
theorem Reps.same {ws : List PV} {vs : List V} (h : Reps K G H A ws vs) (s : Same H H') : Reps K G H' A ws vs := (Kp.of_same s).reps h
theorem Reps.len : ∀ {ws : List PV} {vs : List V}, Reps K G H A ws vs → ws.length = vs.length
  | [], vs, h => by have h : vs = [] := h; rw [h]; rfl
  | w :: ws, vs, h => by
    obtain ⟨v, r, e, _, h2⟩ := h
    subst e
    rw [List.length_cons, List.length_cons, Reps.len h2]
theorem Reps.get : ∀ {ws : List PV} {vs : List V} {i : Nat} {w : PV}, Reps K G H A ws vs → ws[i]? = some w → ∃ v, vs[i]? = some v ∧ Rep K G H A w v
  | [], vs, i, w, h, e => by simp at e
  | x :: ws, vs, 0, w, h, e => by
    obtain ⟨v, r, e', h1, h2⟩ := h
    subst e'
    simp at e; subst e
    exact ⟨v, by simp, h1⟩
  | x :: ws, vs, i + 1, w, h, e => by
    obtain ⟨v, r, e', h1, h2⟩ := h
    subst e'
    obtain ⟨u, q1, q2⟩ := Reps.get (i := i) h2 (by simpa using e)
    exact ⟨u, by simpa using q1, q2⟩
theorem Reps.app : ∀ {ws ws' : List PV} {vs vs' : List V}, Reps K G H A ws vs → Reps K G H A ws' vs' → Reps K G H A (ws ++ ws') (vs ++ vs')
  | [], ws', vs, vs', h, h' => by have h : vs = [] := h; subst h; exact h'
  | w :: ws, ws', vs, vs', h, h' => by
    obtain ⟨v, r, e, h1, h2⟩ := h
    subst e
    exact ⟨v, r ++ vs', rfl, h1, Reps.app h2 h'⟩
theorem Reps.one {w : PV} {v : V} (h : Rep K G H A w v) : Reps K G H A [w] [v] := ⟨v, [], rfl, h, rfl⟩
theorem Reps.snoc {ws : List PV} {vs : List V} {w : PV} {v : V} (h : Reps K G H A ws vs) (h' : Rep K G H A w v) : Reps K G H A (ws ++ [w]) (vs ++ [v]) := h.app (.one h')
theorem Reps.take : ∀ {ws : List PV} {vs : List V} (n : Nat), Reps K G H A ws vs → Reps K G H A (ws.take n) (vs.take n)
  | ws, vs, 0, h => by simp [Reps]
  | [], vs, n + 1, h => by have h : vs = [] := h; subst h; rfl
  | w :: ws, vs, n + 1, h => by
    obtain ⟨v, r, e, h1, h2⟩ := h
    subst e
    exact ⟨v, r.take n, rfl, h1, Reps.take n h2⟩
theorem Reps.drop : ∀ {ws : List PV} {vs : List V} (n : Nat), Reps K G H A ws vs → Reps K G H A (ws.drop n) (vs.drop n)
  | ws, vs, 0, h => by simpa using h
  | [], vs, n + 1, h => by have h : vs = [] := h; subst h; rfl
  | w :: ws, vs, n + 1, h => by
    obtain ⟨v, r, e, h1, h2⟩ := h
    subst e
    exact Reps.drop n h2
theorem Reps.set : ∀ {ws : List PV} {vs : List V} {w : PV} {v : V} (i : Nat), Reps K G H A ws vs → Rep K G H A w v → Reps K G H A (ws.set i w) (vs.set i v)
  | [], vs, w, v, i, h, h' => by have h : vs = [] := h; subst h; rfl
  | x :: ws, vs, w, v, 0, h, h' => by
    obtain ⟨u, r, e, h1, h2⟩ := h
    subst e
    exact ⟨v, r, rfl, h', h2⟩
  | x :: ws, vs, w, v, i + 1, h, h' => by
    obtain ⟨u, r, e, h1, h2⟩ := h
    subst e
    exact ⟨u, r.set i v, rfl, h1, Reps.set i h2 h'⟩
theorem Reps.ints : ∀ (ns : List Int), Reps K G H A (ns.map PV.int) (ns.map V.int)
  | [] => rfl
  | n :: ns => ⟨_, _, rfl, rfl, Reps.ints ns⟩
end
/-! ### slots -/
/-- a thing of one's own -/
inductive Ow where
  | lst (xs : List PV) | dic (ks : List Key) (xs : List PV) | obj (k : Nat) (xs : List PV) | dit (ks : List (List Key)) (xs : List PV)
/-- ino: the one thing that is lent to a def to be changed; ini: the instance that is being made -/
inductive Sl where
  | no | v (w : PV) | own (o : Ow) | bor (w : PV) | ino (o : Ow) | ini (k : Nat) (xs : List PV)
  /- a dict of one's own whose values are lists of one's own; another name for one of these -/
  | dol (ks : List Key) (xss : List (List PV)) | als (d j : Nat)
abbrev PSt := List Sl
def Ow.pv : Ow → PV
  | .lst xs => .lst xs
  | .dic ks xs => .dic ks xs
  | .obj k xs => .obj k xs
  | .dit ks xs => .dit ks xs
def RepO (K : PySem.W.Frag) (G : Pg) (H : Hp) (A : Av) : Ow → Addr → Prop
  | .lst xs, p => ∃ vs, H p = some (.lst vs) ∧ Reps K G H A xs vs
  | .dic ks xs, p => ∃ vs ep, H p = some (.dK (ks.zip vs) ep) ∧ ks.length = vs.length ∧ Reps K G H A xs vs
  | .dit ks xs, p => ∃ vs ep, H p = some (.dT (ks.zip vs) ep) ∧ ks.length = vs.length ∧ Reps K G H A xs vs
  | .obj k xs, p => ∃ dx vs, H p = some (.ins (G.cA k) dx ((G.fN k).zip vs)) ∧ (G.fN k).length = vs.length ∧ Reps K G H A xs vs
/-- an instance some attributes of which stand -/
def RepI (K : PySem.W.Frag) (G : Pg) (H : Hp) (A : Av) (k : Nat) (xs : List PV) (p : Addr) : Prop := ∃ dx vs, H p = some (.ins (G.cA k) dx (((G.fN k).take xs.length).zip vs)) ∧ xs.length ≤ (G.fN k).length ∧ Reps K G H A xs vs
/-- the entry: its heap, the callers' own addresses -/
structure Fr where
  H0 : Hp
  A0 : Av
  B0 : Av
  lx : Option Addr
/-- all but what is lent is as it was at the entry -/
def SmL (c : Fr) (H : Hp) : Prop := ∀ a o, c.H0 a = some o → c.lx ≠ some a → H a = some o
theorem SmL.trans {c : Fr} {H H' : Hp} (h : SmL c H) (s : Same H H') : SmL c H' := fun a o e n => s _ _ (h a o e n)
theorem SmL.free {c : Fr} {H : Hp} {p : Addr} (h : SmL c H) (hp : H p = none) (n : c.lx ≠ some p) : c.H0 p = none := by
  cases e : c.H0 p with
  | none => rfl
  | some o => rw [h p o e n] at hp; cases hp
theorem SmL.same {c : Fr} {H : Hp} (h : SmL c H) (n : c.lx = none) : Same c.H0 H := fun a o e => h a o e (by rw [n]; simp)
theorem SmL.of {c : Fr} {H : Hp} (s : Same c.H0 H) : SmL c H := fun a o e _ => s a o e
abbrev Ows := Nat → Option Addr
def av (c : Fr) (ow : Ows) : Av := fun a => c.A0 a ∨ ∃ i, ow i = some a
/-- a value that is looked at: frozen, or a thing of someone's own -/
def RepD (K : PySem.W.Frag) (G : Pg) (H : Hp) (A B : Av) (w : PV) (v : V) : Prop := ∃ (ks : List Key) (xss : List (List PV)) (p : Addr) (qs : List Addr) (ep : Nat), w = .dbo ks (xss.map PV.lst) ∧ v = .ref p ∧ H p = some (.dK (ks.zip (qs.map V.ref)) ep) ∧ B p ∧ ks.length = qs.length ∧ xss.length = qs.length ∧ ∀ (j : Nat) q xs, qs[j]? = some q → xss[j]? = some xs → RepO K G H A (.lst xs) q ∧ B q
def RepB (K : PySem.W.Frag) (G : Pg) (H : Hp) (A : Av) (w : PV) (v : V) : Prop := Rep K G H A w v ∨ (∃ x p, w = x.pv ∧ v = .ref p ∧ RepO K G H A x p) ∨ RepD K G H A (fun _ => True) w v
/-- where the j-th list of the slot d stands, behind the n slots -/
def vx (n d j : Nat) : Nat := n + (1000 * d + j)
def SlAt (K : PySem.W.Frag) (G : Pg) (c : Fr) (n : Nat) (H : Hp) (A : Av) (ow : Ows) (i : Nat) : Sl → Option V → Prop
  | .no, _ => ow i = none
  | .v w, o => ow i = none ∧ ∃ v, o = some v ∧ Rep K G H A w v
  | .own x, o => ∃ p, ow i = some p ∧ o = some (.ref p) ∧ RepO K G H A x p
  | .bor w, o => ow i = none ∧ ∃ v, o = some v ∧ (Rep K G H A w v ∨ (∃ x p, w = x.pv ∧ v = .ref p ∧ RepO K G H A x p ∧ c.B0 p) ∨ RepD K G H A c.B0 w v)
  | .ino x, o => ow i = none ∧ i = 0 ∧ ∃ p, o = some (.ref p) ∧ c.lx = some p ∧ RepO K G H A x p
  | .ini k xs, o => ow i = none ∧ i = 0 ∧ ∃ p, o = some (.ref p) ∧ c.lx = some p ∧ RepI K G H A k xs p
  | .dol ks xss, o => ∃ (p : Addr) (qs : List Addr), ow i = some p ∧ o = some (.ref p) ∧ (∃ ep, H p = some (.dK (ks.zip (qs.map V.ref)) ep)) ∧ ks.length = qs.length ∧ xss.length = qs.length ∧ qs.length ≤ 1000 ∧ ∀ j q xs, qs[j]? = some q → xss[j]? = some xs → ow (vx n i j) = some q ∧ RepO K G H A (.lst xs) q
  | .als d j, o => ow i = none ∧ ∃ q, o = some (.ref q) ∧ ow (vx n d j) = some q
structure RepS (K : PySem.W.Frag) (G : Pg) (c : Fr) (H : Hp) (ow : Ows) (ps : PSt) (σ : St) : Prop where
  len : ps.length = σ.length
  same : SmL c H
  lent : ∀ p, c.lx = some p → c.A0 p ∧ H p ≠ none
  a0 : ∀ a, c.A0 a → c.H0 a ≠ none
  b0 : ∀ a, c.B0 a → c.H0 a ≠ none ∧ c.lx ≠ some a
  fresh : ∀ i p, ow i = some p → c.H0 p = none
  inj : ∀ i j p, ow i = some p → ow j = some p → i = j
  out : ∀ i p, ow i = some p → i < ps.length ∨ H p ≠ none
  slot : ∀ i s o, ps[i]? = some s → σ[i]? = some o → SlAt K G c ps.length H (av c ow) ow i s o
section
variable {K : PySem.W.Frag} {G : Pg} {H H' : Hp} {A A' : Av} {c : Fr} {ow : Ows} {ps : PSt} {σ : St}
theorem RepO.at {x : Ow} {p : Addr} (h : RepO K G H A x p) : ∃ o, H p = some o ∧ Mt o := by
  cases x with
  | lst xs => obtain ⟨vs, e, _⟩ := h; exact ⟨_, e, And.intro (fun _ z => by cases z) (fun _ _ z => by cases z)⟩
  | dic ks xs => obtain ⟨vs, ep, e, _⟩ := h; exact ⟨_, e, And.intro (fun _ z => by cases z) (fun _ _ z => by cases z)⟩
  | dit ks xs => obtain ⟨vs, ep, e, _⟩ := h; exact ⟨_, e, And.intro (fun _ z => by cases z) (fun _ _ z => by cases z)⟩
  | obj k xs => obtain ⟨dx, vs, e, _⟩ := h; exact ⟨_, e, And.intro (fun _ z => by cases z) (fun _ _ z => by cases z)⟩
theorem RepI.at {k : Nat} {xs : List PV} {p : Addr} (h : RepI K G H A k xs p) : ∃ o, H p = some o ∧ Mt o := by
  obtain ⟨dx, vs, e, _⟩ := h; exact ⟨_, e, And.intro (fun _ z => by cases z) (fun _ _ z => by cases z)⟩
theorem RepI.keep {k : Nat} {xs : List PV} {p : Addr} (h : RepI K G H A k xs p) (kp : Kp K G H A H' A') (e : H' p = H p) : RepI K G H' A' k xs p := by
  obtain ⟨dx, vs, q, l, r⟩ := h; exact ⟨dx, vs, by rw [e]; exact q, l, kp.reps r⟩
theorem RepO.keep {x : Ow} {p : Addr} (h : RepO K G H A x p) (k : Kp K G H A H' A') (e : H' p = H p) : RepO K G H' A' x p := by
  cases x with
  | lst xs => obtain ⟨vs, q, r⟩ := h; exact ⟨vs, by rw [e]; exact q, k.reps r⟩
  | dic ks xs => obtain ⟨vs, ep, q, l, r⟩ := h; exact ⟨vs, ep, by rw [e]; exact q, l, k.reps r⟩
  | dit ks xs => obtain ⟨vs, ep, q, l, r⟩ := h; exact ⟨vs, ep, by rw [e]; exact q, l, k.reps r⟩
  | obj c xs => obtain ⟨dx, vs, q, l, r⟩ := h; exact ⟨dx, vs, by rw [e]; exact q, l, k.reps r⟩
/-- frozen: the address is no longer one's own -/
theorem RepO.freeze {x : Ow} {p : Addr} (h : RepO K G H A x p) (n : ¬ A p) : Rep K G H A x.pv (.ref p) := by
  cases x with
  | lst xs => obtain ⟨vs, q, r⟩ := h; exact ⟨p, vs, rfl, .inl ⟨q, n⟩, r⟩
  | dic ks xs => obtain ⟨vs, ep, q, l, r⟩ := h; exact ⟨p, vs, ep, rfl, q, l, n, r⟩
  | dit ks xs => obtain ⟨vs, ep, q, l, r⟩ := h; exact ⟨p, vs, ep, rfl, q, l, n, r⟩
  | obj c xs => obtain ⟨dx, vs, q, l, r⟩ := h; exact ⟨p, dx, vs, rfl, q, l, n, r⟩
theorem RepS.get (R : RepS K G c H ow ps σ) {i : Nat} {s : Sl} (e : ps[i]? = some s) : ∃ o, σ[i]? = some o ∧ SlAt K G c ps.length H (av c ow) ow i s o := by
  have hi : i < ps.length := (List.getElem?_eq_some_iff.mp e).1
  have hi' : i < σ.length := by rw [← R.len]; exact hi
  exact ⟨σ[i], List.getElem?_eq_getElem hi', R.slot i s _ e (List.getElem?_eq_getElem hi')⟩
theorem RepS.getV (R : RepS K G c H ow ps σ) {i : Nat} {w : PV} (e : ps[i]? = some (.v w)) : ∃ v, σ[i]? = some (some v) ∧ Rep K G H (av c ow) w v := by
  obtain ⟨o, eo, _, v, rfl, r⟩ := R.get e
  exact ⟨v, eo, r⟩
theorem RepS.getO (R : RepS K G c H ow ps σ) {i : Nat} {x : Ow} (e : ps[i]? = some (.own x)) : ∃ p, ow i = some p ∧ σ[i]? = some (some (.ref p)) ∧ RepO K G H (av c ow) x p := by
  obtain ⟨o, eo, p, e1, rfl, r⟩ := R.get e
  exact ⟨p, e1, eo, r⟩
/-- every address to shun is in use -/
theorem RepS.used (R : RepS K G c H ow ps σ) : ∀ a, av c ow a → H a ≠ none := by
  intro a h
  rcases h with h | ⟨i, h⟩
  · by_cases hl : c.lx = some a
    · exact (R.lent a hl).2
    · cases e : c.H0 a with
      | none => exact absurd e (R.a0 a h)
      | some o => rw [R.same _ _ e hl]; simp
  · rcases R.out i a h with hi | hv
    case inr => exact hv
    obtain ⟨o, eo, q⟩ := R.get (List.getElem?_eq_getElem hi)
    cases e : ps[i] with
    | no => rw [e] at q; rw [show ow i = none from q] at h; cases h
    | v w => rw [e] at q; rw [q.1] at h; cases h
    | bor w => rw [e] at q; rw [q.1] at h; cases h
    | ino x => rw [e] at q; rw [q.1] at h; cases h
    | ini k xs => rw [e] at q; rw [q.1] at h; cases h
    | als d j => rw [e] at q; rw [q.1] at h; cases h
    | dol ks xss =>
      rw [e] at q
      obtain ⟨p, qs, e1, _, ⟨_, hp⟩, _⟩ := q
      rw [e1] at h; cases h
      rw [hp]; simp
    | own x =>
      rw [e] at q
      obtain ⟨p, e1, _, r⟩ := q
      rw [e1] at h; cases h
      obtain ⟨o', e', _⟩ := r.at
      rw [e']; simp
theorem RepD.keep {B : Av} {w : PV} {v : V} (h : RepD K G H A B w v) (k : Kp K G H A H' A') (e : ∀ p, B p → H p ≠ none → H' p = H p) : RepD K G H' A' B w v := by
  obtain ⟨ks, xss, p, qs, ep, e1, e2, e3, b, l1, l2, h⟩ := h
  refine ⟨ks, xss, p, qs, ep, e1, e2, by rw [e p b (by rw [e3]; simp)]; exact e3, b, l1, l2, fun j q xs h1 h2 => ?_⟩
  obtain ⟨r, b⟩ := h j q xs h1 h2
  obtain ⟨o, eo, _⟩ := r.at
  exact ⟨r.keep k (e q b (by rw [eo]; simp)), b⟩
theorem RepD.mono {B B' : Av} {w : PV} {v : V} (h : RepD K G H A B w v) (f : ∀ a, B a → H a ≠ none → B' a) : RepD K G H A B' w v := by
  obtain ⟨ks, xss, p, qs, ep, e1, e2, e3, b, l1, l2, h⟩ := h
  refine ⟨ks, xss, p, qs, ep, e1, e2, e3, f p b (by rw [e3]; simp), l1, l2, fun j q xs h1 h2 => ?_⟩
  obtain ⟨r, b⟩ := h j q xs h1 h2
  obtain ⟨o, eo, _⟩ := r.at
  exact ⟨r, f q b (by rw [eo]; simp)⟩
theorem bor_keep {w : PV} {v : V} {A A' : Av} (b0 : ∀ a, c.B0 a → c.H0 a ≠ none ∧ c.lx ≠ some a) (s : SmL c H) (s' : SmL c H') (k : Kp K G H A H' A') (h : Rep K G H A w v ∨ (∃ x p, w = x.pv ∧ v = .ref p ∧ RepO K G H A x p ∧ c.B0 p) ∨ RepD K G H A c.B0 w v) :
    Rep K G H' A' w v ∨ (∃ x p, w = x.pv ∧ v = .ref p ∧ RepO K G H' A' x p ∧ c.B0 p) ∨ RepD K G H' A' c.B0 w v := by
  have st : ∀ p, c.B0 p → H' p = H p := fun p n => by
    cases q : c.H0 p with
    | none => exact absurd q (b0 p n).1
    | some o => rw [s _ _ q (b0 p n).2, s' _ _ q (b0 p n).2]
  rcases h with h | ⟨x, p, e1, e2, r, n⟩ | h
  · exact .inl (k.rep h)
  · exact .inr (.inl ⟨x, p, e1, e2, r.keep k (st p n), n⟩)
  · exact .inr (.inr (h.keep k fun p b _ => st p b))
theorem SlAt.keep {n i : Nat} {x : Sl} {o : Option V} {ow' : Ows} {A A' : Av} (q : SlAt K G c n H A ow i x o) (b0 : ∀ a, c.B0 a → c.H0 a ≠ none ∧ c.lx ≠ some a) (s : SmL c H) (s' : SmL c H') (k : Kp K G H A H' A') (hr : ow' i = ow i) (hv : ∀ d j q, ow (vx n d j) = some q → ow' (vx n d j) = some q)
    (ho : ∀ p, ow i = some p → H' p = H p) (hw : ∀ j p, j < 1000 → ow (vx n i j) = some p → H' p = H p) (el : ∀ p, c.lx = some p → H' p = H p) : SlAt K G c n H' A' ow' i x o := by
  cases x with
  | no => show ow' i = none; rw [hr]; exact q
  | v w => obtain ⟨z, v, e3, r⟩ := q; exact ⟨by rw [hr]; exact z, v, e3, k.rep r⟩
  | own y => obtain ⟨p, e3, e4, r⟩ := q; exact ⟨p, by rw [hr]; exact e3, e4, r.keep k (ho p e3)⟩
  | bor w => obtain ⟨z, v, e3, r⟩ := q; exact ⟨by rw [hr]; exact z, v, e3, bor_keep b0 s s' k r⟩
  | ino y => obtain ⟨z, z2, p, e3, e4, r⟩ := q; exact ⟨by rw [hr]; exact z, z2, p, e3, e4, r.keep k (el p e4)⟩
  | ini c xs => obtain ⟨z, z2, p, e3, e4, r⟩ := q; exact ⟨by rw [hr]; exact z, z2, p, e3, e4, r.keep k (el p e4)⟩
  | dol ks xss =>
    obtain ⟨p, qs, e1, e2, hp, l1, l2, l3, h⟩ := q
    refine ⟨p, qs, by rw [hr]; exact e1, e2, by rw [ho p e1]; exact hp, l1, l2, l3, fun j q xs h1 h2 => ?_⟩
    obtain ⟨h3, h4⟩ := h j q xs h1 h2
    exact ⟨hv i j q h3, h4.keep k (hw j q (Nat.lt_of_lt_of_le (List.getElem?_eq_some_iff.mp h1).1 l3) h3)⟩
  | als d j => obtain ⟨z, q', e3, e4⟩ := q; exact ⟨by rw [hr]; exact z, q', e3, hv d j q' e4⟩
theorem RepS.keep (R : RepS K G c H ow ps σ) (s : SmL c H') (k : Kp K G H (av c ow) H' (av c ow)) (e : ∀ i p, ow i = some p → H' p = H p) (el : ∀ p, c.lx = some p → H' p = H p) : RepS K G c H' ow ps σ := by
  refine ⟨R.len, s, fun p h => ⟨(R.lent p h).1, by rw [el p h]; exact (R.lent p h).2⟩, R.a0, R.b0, R.fresh, R.inj, fun i p h => ?_, fun i x o e1 e2 => ?_⟩
  · rcases R.out i p h with q | q
    · exact .inl q
    · right; rw [e i p h]; exact q
  · exact (R.slot i x o e1 e2).keep R.b0 R.same s k rfl (fun _ _ _ h => h) (fun p h => e i p h) (fun j p _ h => e _ p h) el
theorem RepS.grow (R : RepS K G c H ow ps σ) (s : Same H H') : RepS K G c H' ow ps σ :=
  R.keep (R.same.trans s) (Kp.of_same s) (fun i p e => by
    cases q : H p with
    | none => exact absurd q (R.used p (.inr ⟨i, e⟩))
    | some o => exact s _ _ q) fun p e => by
    cases q : H p with
    | none => exact absurd q (R.lent p e).2
    | some o => exact s _ _ q
/-- a slot gets a frozen value -/
def offW (n : Nat) (ow : Ows) (i : Nat) : Ows := fun j => if j = i ∧ i < n then none else ow j
def onW (ow : Ows) (i : Nat) (p : Addr) : Ows := fun j => if j = i then some p else ow j
theorem av_off {n i : Nat} : ∀ a, av c (offW n ow i) a → av c ow a := by
  intro a h
  rcases h with h | ⟨j, h⟩
  · exact .inl h
  · unfold offW at h
    split at h
    · cases h
    · exact .inr ⟨j, h⟩
theorem off_vx {n i : Nat} : ∀ d j q, ow (vx n d j) = some q → offW n ow i (vx n d j) = some q := by
  intro d j q h
  unfold offW
  rw [if_neg (by rintro ⟨z, hi⟩; unfold vx at z; omega)]
  exact h
theorem RepS.setV (R : RepS K G c H ow ps σ) {i : Nat} {w : PV} {v : V} (r : Rep K G H (av c ow) w v) : RepS K G c H (offW ps.length ow i) (ps.set i (.v w)) (σ.set i (some v)) := by
  have k : Kp K G H (av c ow) H (av c (offW ps.length ow i)) := Kp.weak av_off
  refine ⟨by simp [R.len], R.same, R.lent, R.a0, R.b0, fun j p e => ?_, fun j j' p e e' => ?_, fun j p h => ?_, fun j x o e1 e2 => ?_⟩
  · unfold offW at e; split at e
    · cases e
    · exact R.fresh j p e
  · unfold offW at e e'
    split at e
    · cases e
    · split at e'
      · cases e'
      · exact R.inj j j' p e e'
  · unfold offW at h; split at h
    · cases h
    · rw [List.length_set]; exact R.out j p h
  · rw [List.length_set]
    by_cases hj : j = i
    · subst hj
      have hl : j < ps.length := by
        have := (List.getElem?_eq_some_iff.mp e1).1
        simpa using this
      rw [List.getElem?_set_self hl] at e1
      rw [List.getElem?_set_self (by rw [← R.len]; exact hl)] at e2
      cases e1; cases e2
      exact ⟨by unfold offW; rw [if_pos ⟨rfl, hl⟩], v, rfl, k.rep r⟩
    · rw [List.getElem?_set_ne (fun z => hj z.symm)] at e1 e2
      have eo : offW ps.length ow i j = ow j := by unfold offW; rw [if_neg (fun z => hj z.1)]
      exact (R.slot j x o e1 e2).keep R.b0 R.same R.same k eo off_vx (fun _ _ => rfl) (fun _ _ _ _ => rfl) (fun _ _ => rfl)
/-- a slot gets a new thing, its own -/
theorem on_vx {n i : Nat} {p : Addr} (hi : i < n) : ∀ d j q, ow (vx n d j) = some q → onW ow i p (vx n d j) = some q := by
  intro d j q h
  unfold onW
  rw [if_neg (by intro z; unfold vx at z; omega)]
  exact h
/-- a new address is taken -/
theorem RepS.setN (R : RepS K G c H ow ps σ) {i : Nat} {x : Sl} {p : Addr} (hi : i < ps.length) (hs : Same H H') (hp : H p = none) (hp' : H' p ≠ none) (r : SlAt K G c ps.length H' (av c (onW ow i p)) (onW ow i p) i x (some (.ref p))) :
    RepS K G c H' (onW ow i p) (ps.set i x) (σ.set i (some (.ref p))) := by
  have hav : ∀ a, av c (onW ow i p) a → av c ow a ∨ a = p := by
    intro a h
    rcases h with h | ⟨j, h⟩
    · exact .inl (.inl h)
    · unfold onW at h
      split at h
      · cases h; exact .inr rfl
      · exact .inl (.inr ⟨j, h⟩)
  have k : Kp K G H (av c ow) H' (av c (onW ow i p)) := Kp.take hp hs fun a h => (hav a h).symm
  have nl : c.lx ≠ some p := fun z => (R.lent p z).2 hp
  have us : ∀ j q, ow j = some q → H' q = H q := fun j q e => by
    cases h : H q with
    | none => exact absurd h (R.used q (.inr ⟨j, e⟩))
    | some o => exact hs _ _ h
  refine ⟨by simp [R.len], R.same.trans hs, fun q h => ⟨(R.lent q h).1, fun z => (R.lent q h).2 (hs.free z)⟩, R.a0, R.b0, fun j q e => ?_, fun j j' q e e' => ?_, fun j q h => ?_, fun j y o e1 e2 => ?_⟩
  · unfold onW at e; split at e
    · cases e; exact R.same.free hp nl
    · exact R.fresh j q e
  · unfold onW at e e'
    split at e
    · cases e
      split at e'
      · rename_i h1 h2; rw [h1, h2]
      · exact absurd hp (R.used _ (.inr ⟨j', e'⟩))
    · split at e'
      · cases e'
        exact absurd hp (R.used _ (.inr ⟨j, e⟩))
      · exact R.inj j j' q e e'
  · unfold onW at h; split at h
    · rename_i z; cases h; left; rw [List.length_set, z]; exact hi
    · rw [List.length_set]
      rcases R.out j q h with z | z
      · exact .inl z
      · right; rw [us j q h]; exact z
  · rw [List.length_set]
    by_cases hj : j = i
    · subst hj
      rw [List.getElem?_set_self hi] at e1
      rw [List.getElem?_set_self (by rw [← R.len]; exact hi)] at e2
      cases e1; cases e2
      exact r
    · rw [List.getElem?_set_ne (fun z => hj z.symm)] at e1 e2
      have eo : onW ow i p j = ow j := by unfold onW; rw [if_neg hj]
      refine (R.slot j y o e1 e2).keep R.b0 R.same (R.same.trans hs) k eo (on_vx hi) (fun q h => us j q h) (fun _ q _ h => us _ q h) (fun q h => ?_)
      cases z : H q with
      | none => exact absurd z (R.lent q h).2
      | some o => exact hs _ _ z
theorem RepS.setO (R : RepS K G c H ow ps σ) {i : Nat} {x : Ow} {p : Addr} (hi : i < ps.length) (hs : Same H H') (hp : H p = none) (r : RepO K G H' (fun a => av c ow a ∨ a = p) x p) :
    RepS K G c H' (onW ow i p) (ps.set i (.own x)) (σ.set i (some (.ref p))) := by
  have hav : ∀ a, av c (onW ow i p) a → av c ow a ∨ a = p := by
    intro a h
    rcases h with h | ⟨j, h⟩
    · exact .inl (.inl h)
    · unfold onW at h
      split at h
      · cases h; exact .inr rfl
      · exact .inl (.inr ⟨j, h⟩)
  have k2 : Kp K G H' (fun a => av c ow a ∨ a = p) H' (av c (onW ow i p)) := Kp.weak hav
  obtain ⟨o, ho, _⟩ := r.at
  exact R.setN hi hs hp (by rw [ho]; simp) ⟨p, by unfold onW; rw [if_pos rfl], rfl, r.keep k2 rfl⟩
/-- a thing of one's own changes -/
theorem RepS.chg (R : RepS K G c H ow ps σ) {i : Nat} {x y : Ow} {p : Addr} {u : HO} (e : ps[i]? = some (.own x)) (ep : ow i = some p) (r : RepO K G (upd H p u) (av c ow) y p) :
    RepS K G c (upd H p u) ow (ps.set i (.own y)) σ ∧ Kp K G H (av c ow) (upd H p u) (av c ow) := by
  obtain ⟨p', e1, e2, r1⟩ := R.getO e
  rw [ep] at e1; cases e1
  obtain ⟨o, eo, m⟩ := r1.at
  have k : Kp K G H (av c ow) (upd H p u) (av c ow) := Kp.own (.inr ⟨i, ep⟩) eo m
  have sm : SmL c (upd H p u) := fun b o' h n => by
    rw [upd_ne (by intro z; subst z; rw [R.fresh i b ep] at h; cases h)]
    exact R.same _ _ h n
  have npl : ∀ q, c.lx = some q → q ≠ p := fun q h z => by
    subst z
    exact absurd (R.fresh i q ep) (R.a0 q (R.lent q h).1)
  have us : ∀ j q, j ≠ i → ow j = some q → upd H p u q = H q := fun j q hj h => upd_ne (by intro z; subst z; exact hj (R.inj j i q h ep))
  have hl : i < ps.length := (List.getElem?_eq_some_iff.mp e).1
  refine ⟨⟨by simp [R.len], sm, fun q h => ⟨(R.lent q h).1, by rw [upd_ne (npl q h)]; exact (R.lent q h).2⟩, R.a0, R.b0, R.fresh, R.inj, fun j q h => ?_, fun j z o' h1 h2 => ?_⟩, k⟩
  · rw [List.length_set]
    by_cases hj : j = i
    · left; rw [hj]; exact hl
    · rcases R.out j q h with z | z
      · exact .inl z
      · right; rw [us j q hj h]; exact z
  · rw [List.length_set]
    by_cases hj : j = i
    · subst hj
      rw [List.getElem?_set_self hl] at h1
      cases h1
      rw [e2] at h2; cases h2
      exact ⟨p, ep, rfl, r⟩
    · rw [List.getElem?_set_ne (fun z => hj z.symm)] at h1
      exact (R.slot j z o' h1 h2).keep R.b0 R.same sm k rfl (fun _ _ _ h => h) (fun q h => us j q hj h) (fun jj q _ h => us _ q (by unfold vx; omega) h) (fun q h => upd_ne (npl q h))
/-- a slot's own thing is frozen -/
theorem RepS.frz (R : RepS K G c H ow ps σ) {i : Nat} {x : Ow} (e : ps[i]? = some (.own x)) : ∃ p, σ[i]? = some (some (.ref p)) ∧ RepS K G c H (offW ps.length ow i) (ps.set i (.v x.pv)) σ ∧ Rep K G H (av c (offW ps.length ow i)) x.pv (.ref p) ∧ Kp K G H (av c ow) H (av c (offW ps.length ow i)) := by
  obtain ⟨p, e1, e2, r1⟩ := R.getO e
  have hl : i < ps.length := (List.getElem?_eq_some_iff.mp e).1
  have k : Kp K G H (av c ow) H (av c (offW ps.length ow i)) := Kp.weak av_off
  have np : ¬ av c (offW ps.length ow i) p := by
    rintro (h | ⟨j, h⟩)
    · exact absurd (R.fresh i p e1) (R.a0 p h)
    · unfold offW at h
      split at h
      · cases h
      · rename_i hj; exact hj ⟨R.inj j i p h e1, hl⟩
  have rp : Rep K G H (av c (offW ps.length ow i)) x.pv (.ref p) := (r1.keep k rfl).freeze np
  refine ⟨p, e2, ⟨by simp [R.len], R.same, R.lent, R.a0, R.b0, fun j p e => ?_, fun j j' p e e' => ?_, fun j q h => ?_, fun j z o h1 h2 => ?_⟩, rp, k⟩
  · unfold offW at e; split at e
    · cases e
    · exact R.fresh j p e
  · unfold offW at e e'
    split at e
    · cases e
    · split at e'
      · cases e'
      · exact R.inj j j' p e e'
  · unfold offW at h; split at h
    · cases h
    · rw [List.length_set]; exact R.out j q h
  · rw [List.length_set]
    by_cases hj : j = i
    · subst hj
      rw [List.getElem?_set_self hl] at h1
      cases h1
      rw [e2] at h2; cases h2
      exact ⟨by unfold offW; rw [if_pos ⟨rfl, hl⟩], _, rfl, rp⟩
    · rw [List.getElem?_set_ne (fun z => hj z.symm)] at h1
      have eo : offW ps.length ow i j = ow j := by unfold offW; rw [if_neg (fun z => hj z.1)]
      exact (R.slot j z o h1 h2).keep R.b0 R.same R.same k eo off_vx (fun _ _ => rfl) (fun _ _ _ _ => rfl) (fun _ _ => rfl)
end
end DN
end
section
set_option Elab.async false
set_option linter.all false
set_option maxRecDepth 100000
set_option maxHeartbeats 4000000
namespace DN
open PySem PySem.Spec PyProof.Rows L2
abbrev DP := PSt → Rx PV
abbrev DA := PSt → Rx (List PV)
abbrev DT := PSt → Rx Bool
abbrev DM := PSt → Rx (PV × PSt)
abbrev DMA := PSt → Rx (List PV × PSt)
/-- an expression that changes nothing; one that is only looked at; a test; arguments (true: only looked at); a new list -/
def tPv (K : PySem.W.Frag) (G : Pg) (d : DP) : TE := fun σ H Q => ∃ (c : Fr) (ow : Ows) (ps : PSt) (w : PV), RepS K G c H ow ps σ ∧ d ps = .ok w ∧ ∀ v H', Same H H' → Rep K G H' (av c ow) w v → Q v H'
def tPb (K : PySem.W.Frag) (G : Pg) (d : DP) : TE := fun σ H Q => ∃ (c : Fr) (ow : Ows) (ps : PSt) (w : PV), RepS K G c H ow ps σ ∧ d ps = .ok w ∧ ∀ v H', Same H H' → RepB K G H' (av c ow) w v → Q v H'
def tPt (K : PySem.W.Frag) (G : Pg) (d : DT) : TT := fun σ H Q => ∃ (c : Fr) (ow : Ows) (ps : PSt) (b : Bool), RepS K G c H ow ps σ ∧ d ps = .ok b ∧ ∀ H', Same H H' → Q b H'
def RepM (K : PySem.W.Frag) (G : Pg) (H : Hp) (A : Av) : List Bool → List PV → List V → Prop
  | [], ws, vs => ws = [] ∧ vs = []
  | m :: ms, ws, vs => ∃ w wr v vr, ws = w :: wr ∧ vs = v :: vr ∧ (if m = true then RepB K G H A w v else Rep K G H A w v) ∧ RepM K G H A ms wr vr
def tPa (K : PySem.W.Frag) (G : Pg) (ms : List Bool) (d : DA) : TA := fun σ H Q => ∃ (c : Fr) (ow : Ows) (ps : PSt) (ws : List PV), RepS K G c H ow ps σ ∧ d ps = .ok ws ∧ ∀ vs H', Same H H' → RepM K G H' (av c ow) ms ws vs → Q vs H'
/-- the new list stands at p, apart from all that is known -/
def tPn (K : PySem.W.Frag) (G : Pg) (d : DA) : TE := fun σ H Q => ∃ (c : Fr) (ow : Ows) (ps : PSt) (ws : List PV), RepS K G c H ow ps σ ∧ d ps = .ok ws ∧ ∀ p vs H', Same H H' → H p = none → H' p = some (.lst vs) → Reps K G H' (fun a => av c ow a ∨ a = p) ws vs → Q (.ref p) H'
/-- one that may change things of one's own -/
def tMv (K : PySem.W.Frag) (G : Pg) (d : DM) : TE := fun σ H Q => ∃ (c : Fr) (ow : Ows) (ps : PSt) (w : PV) (ps' : PSt), RepS K G c H ow ps σ ∧ d ps = .ok (w, ps') ∧
  ∀ v H' ow', RepS K G c H' ow' ps' σ → Kp K G H (av c ow) H' (av c ow') → Rep K G H' (av c ow') w v → Q v H'
def tMa (K : PySem.W.Frag) (G : Pg) (d : DMA) : TA := fun σ H Q => ∃ (c : Fr) (ow : Ows) (ps : PSt) (ws : List PV) (ps' : PSt), RepS K G c H ow ps σ ∧ d ps = .ok (ws, ps') ∧
  ∀ vs H' ow', RepS K G c H' ow' ps' σ → Kp K G H (av c ow) H' (av c ow') → Reps K G H' (av c ow') ws vs → Q vs H'
abbrev JP (X : Cx) (G : Pg) (e : Expr) (d : DP) : Prop := PE X e (tPv X.K G d)
abbrev JB (X : Cx) (G : Pg) (e : Expr) (d : DP) : Prop := PE X e (tPb X.K G d)
abbrev JT (X : Cx) (G : Pg) (e : Expr) (d : DT) : Prop := PT X e (tPt X.K G d)
abbrev JW (X : Cx) (G : Pg) (e : Expr) (d : DT) : Prop := PW X e (tPt X.K G d)
abbrev JA (X : Cx) (G : Pg) (ms : List Bool) (es : List Expr) (d : DA) : Prop := PA X es (tPa X.K G ms d)
abbrev JN (X : Cx) (G : Pg) (e : Expr) (d : DA) : Prop := PE X e (tPn X.K G d)
abbrev JM (X : Cx) (G : Pg) (e : Expr) (d : DM) : Prop := PE X e (tMv X.K G d)
abbrev JMA (X : Cx) (G : Pg) (es : List Expr) (d : DMA) : Prop := PA X es (tMa X.K G d)
theorem imp {X : Cx} {e : Expr} {t t' : TE} (h : PE X e t) (f : ∀ σ H Q, t' σ H Q → t σ H Q) : PE X e t' := fun pins s σ H Q I q => h pins s σ H Q I (f σ H Q q)
theorem impT {X : Cx} {e : Expr} {t t' : TT} (h : PT X e t) (f : ∀ σ H Q, t' σ H Q → t σ H Q) : PT X e t' := fun pins s σ H Q I q => h pins s σ H Q I (f σ H Q q)
theorem impW {X : Cx} {e : Expr} {t t' : TT} (h : PW X e t) (f : ∀ σ H Q, t' σ H Q → t σ H Q) : PW X e t' := fun wh pins s σ H Q I q => h wh pins s σ H Q I (f σ H Q q)
theorem impA {X : Cx} {es : List Expr} {t t' : TA} (h : PA X es t) (f : ∀ σ H Q, t' σ H Q → t σ H Q) : PA X es t' := fun pos pins s σ H Q I q => h pos pins s σ H Q I (f σ H Q q)
section
variable {K : PySem.W.Frag} {G : Pg} {H H' : Hp} {A A' : Av}
theorem RepB.same {w : PV} {v : V} (h : RepB K G H A w v) (s : Same H H') : RepB K G H' A w v := by
  rcases h with h | ⟨x, p, e1, e2, r⟩ | h
  · exact .inl (h.same s)
  · obtain ⟨o, eo, _⟩ := r.at
    exact .inr (.inl ⟨x, p, e1, e2, r.keep (Kp.of_same s) (by rw [s _ _ eo, eo])⟩)
  · exact .inr (.inr (h.keep (Kp.of_same s) fun p _ n => by
      cases e : H p with
      | none => exact absurd e n
      | some o => exact s _ _ e))
theorem RepM.same : ∀ {ms : List Bool} {ws : List PV} {vs : List V}, RepM K G H A ms ws vs → Same H H' → RepM K G H' A ms ws vs
  | [], ws, vs, h, s => h
  | m :: ms, ws, vs, h, s => by
    obtain ⟨w, wr, v, vr, e1, e2, r, rr⟩ := h
    refine ⟨w, wr, v, vr, e1, e2, ?_, RepM.same rr s⟩
    cases m with
    | true => rw [if_pos rfl] at r ⊢; exact r.same s
    | false => rw [if_neg Bool.false_ne_true] at r ⊢; exact r.same s
theorem RepB.lst {xs : List PV} {v : V} (h : RepB K G H A (.lst xs) v) : ∃ a vs, v = .ref a ∧ SqL K H a vs ∧ Reps K G H A xs vs := by
  rcases h with ⟨a, vs, e, r, q⟩ | ⟨x, p, e1, e2, r⟩ | ⟨_, _, _, _, _, e1, _⟩
  · exact ⟨a, vs, e, r.sq, q⟩
  · cases x with
    | lst ys => cases e1; obtain ⟨vs, q, r⟩ := r; exact ⟨p, vs, e2, SqL.of q, r⟩
    | dic ks ys => cases e1
    | dit ks ys => cases e1
    | obj k ys => cases e1
  · cases e1
theorem RepB.tup {xs : List PV} {v : V} (h : RepB K G H A (.tup xs) v) : ∃ a vs, v = .ref a ∧ SqT K H a vs ∧ Reps K G H A xs vs := by
  rcases h with ⟨a, vs, e, s, r⟩ | ⟨x, p, e1, e2, r⟩ | ⟨_, _, _, _, _, e1, _⟩
  · exact ⟨a, vs, e, SqT.of s, r⟩
  · cases x <;> cases e1
  · cases e1
theorem RepB.int {i : Int} {v : V} (h : RepB K G H A (.int i) v) : v = .int i := by
  rcases h with h | ⟨x, p, e1, e2, r⟩ | ⟨_, _, _, _, _, e1, _⟩
  · exact h
  · cases x <;> cases e1
  · cases e1
theorem RepB.str {i : Str} {v : V} (h : RepB K G H A (.str i) v) : v = .str i := by
  rcases h with h | ⟨x, p, e1, e2, r⟩ | ⟨_, _, _, _, _, e1, _⟩
  · exact h
  · cases x <;> cases e1
  · cases e1
theorem RepB.bl {i : Bool} {v : V} (h : RepB K G H A (.bl i) v) : v = .bl i := by
  rcases h with h | ⟨x, p, e1, e2, r⟩ | ⟨_, _, _, _, _, e1, _⟩
  · exact h
  · cases x <;> cases e1
  · cases e1
theorem RepB.non {v : V} (h : RepB K G H A .non v) : v = .non := by
  rcases h with h | ⟨x, p, e1, e2, r⟩ | ⟨_, _, _, _, _, e1, _⟩
  · exact h
  · cases x <;> cases e1
  · cases e1
theorem RepB.obj {k : Nat} {xs : List PV} {v : V} (h : RepB K G H A (.obj k xs) v) : ∃ a dx vs, v = .ref a ∧ H a = some (.ins (G.cA k) dx ((G.fN k).zip vs)) ∧ (G.fN k).length = vs.length ∧ Reps K G H A xs vs := by
  rcases h with ⟨a, dx, vs, e, q, l, n, r⟩ | ⟨x, p, e1, e2, r⟩ | ⟨_, _, _, _, _, e1, _⟩
  · exact ⟨a, dx, vs, e, q, l, r⟩
  · cases x with
    | lst ys => cases e1
    | dic ks ys => cases e1
    | dit ks ys => cases e1
    | obj k' ys => cases e1; obtain ⟨dx, vs, q, l, r⟩ := r; exact ⟨p, dx, vs, e2, q, l, r⟩
  · cases e1
theorem RepB.dic {ks : List Key} {xs : List PV} {v : V} (h : RepB K G H A (.dic ks xs) v) : ∃ a vs ep, v = .ref a ∧ H a = some (.dK (ks.zip vs) ep) ∧ ks.length = vs.length ∧ Reps K G H A xs vs := by
  rcases h with ⟨a, vs, ep, e, q, l, n, r⟩ | ⟨x, p, e1, e2, r⟩ | ⟨_, _, _, _, _, e1, _⟩
  · exact ⟨a, vs, ep, e, q, l, r⟩
  · cases x with
    | lst ys => cases e1
    | dic ks' ys => cases e1; obtain ⟨vs, ep, q, l, r⟩ := r; exact ⟨p, vs, ep, e2, q, l, r⟩
    | dit ks ys => cases e1
    | obj k ys => cases e1
  · cases e1
theorem RepB.dit {ks : List (List Key)} {xs : List PV} {v : V} (h : RepB K G H A (.dit ks xs) v) : ∃ a vs ep, v = .ref a ∧ H a = some (.dT (ks.zip vs) ep) ∧ ks.length = vs.length ∧ Reps K G H A xs vs := by
  rcases h with ⟨a, vs, ep, e, q, l, n, r⟩ | ⟨x, p, e1, e2, r⟩ | ⟨_, _, _, _, _, e1, _⟩
  · exact ⟨a, vs, ep, e, q, l, r⟩
  · cases x with
    | lst ys => cases e1
    | dic ks ys => cases e1
    | dit ks' ys => cases e1; obtain ⟨vs, ep, q, l, r⟩ := r; exact ⟨p, vs, ep, e2, q, l, r⟩
    | obj k ys => cases e1
  · cases e1
theorem RepB.dbo {ks : List Key} {xs : List PV} {v : V} (h : RepB K G H A (.dbo ks xs) v) : ∃ (a : Addr) (qs : List Addr) (xss : List (List PV)) (ep : Nat), v = .ref a ∧ xs = xss.map PV.lst ∧ H a = some (.dK (ks.zip (qs.map V.ref)) ep) ∧ ks.length = qs.length ∧ xss.length = qs.length ∧ ∀ (j : Nat) q l, qs[j]? = some q → xss[j]? = some l → RepO K G H A (.lst l) q := by
  rcases h with h | ⟨x, p, e1, e2, r⟩ | ⟨ks', xss, p, qs, ep, e1, e2, hp, _, l1, l2, h⟩
  · exact h.elim
  · cases x <;> cases e1
  · cases e1
    exact ⟨p, qs, xss, ep, e2, rfl, hp, l1, l2, fun j q l h1 h2 => (h j q l h1 h2).1⟩
theorem RepB.clo {f : Nat} {xs : List PV} {v : V} (h : RepB K G H A (.clo f xs) v) : Rep K G H A (.clo f xs) v := by
  rcases h with h | ⟨x, p, e1, e2, r⟩ | ⟨_, _, _, _, _, e1, _⟩
  · exact h
  · cases x <;> cases e1
  · cases e1
theorem RepM.reps : ∀ {ws : List PV} {vs : List V} {n : Nat}, RepM K G H A (List.replicate n false) ws vs → Reps K G H A ws vs
  | ws, vs, 0, h => by obtain ⟨rfl, rfl⟩ := h; rfl
  | ws, vs, n + 1, h => by
    obtain ⟨w, wr, v, vr, rfl, rfl, r, rr⟩ := h
    rw [if_neg Bool.false_ne_true] at r
    exact ⟨v, vr, rfl, r, RepM.reps rr⟩
theorem RepM.len : ∀ {ms : List Bool} {ws : List PV} {vs : List V}, RepM K G H A ms ws vs → ws.length = ms.length ∧ vs.length = ms.length
  | [], ws, vs, h => by obtain ⟨rfl, rfl⟩ := h; exact ⟨rfl, rfl⟩
  | m :: ms, ws, vs, h => by
    obtain ⟨w, wr, v, vr, rfl, rfl, r, rr⟩ := h
    have := RepM.len rr
    simp [this]
theorem RepM.weak : ∀ {ms : List Bool} {ws : List PV} {vs : List V}, Reps K G H A ws vs → ws.length = ms.length → RepM K G H A ms ws vs
  | [], [], vs, h, _ => ⟨rfl, h⟩
  | [], _ :: _, vs, h, l => by simp at l
  | m :: ms, [], vs, h, l => by simp at l
  | m :: ms, w :: ws, vs, h, l => by
    obtain ⟨v, r, e, h1, h2⟩ := h
    refine ⟨w, ws, v, r, rfl, e, ?_, RepM.weak h2 (by simpa using l)⟩
    cases m with
    | true => rw [if_pos rfl]; exact .inl h1
    | false => rw [if_neg Bool.false_ne_true]; exact h1
end
section
variable {X : Cx} {G : Pg} {e a b : Expr} {da db : DP} {pos : Pos}
/-! ### coercions -/
theorem b_of (h : JP X G e da) : JB X G e da := imp h fun σ H Q ⟨c, ow, ps, w, R, e, q⟩ => ⟨c, ow, ps, w, R, e, fun v H' s r => q v H' s (.inl r)⟩
def dOfN (d : DA) : DP := fun ps => (d ps).bind fun ws => .ok (.lst ws)
theorem p_of_n {d : DA} (h : JN X G e d) : JP X G e (dOfN d) := imp h fun σ H Q ⟨c, ow, ps, w, R, e, q⟩ => by
  obtain ⟨ws, e1, e2⟩ := bind_ok e
  cases e2
  refine ⟨c, ow, ps, ws, R, e1, fun p vs H' s hp hv r => q (.ref p) H' s ⟨p, vs, rfl, .inl ⟨hv, fun z => R.used p z hp⟩, (Kp.weak fun a z => Or.inl z).reps r⟩⟩
def dLift (d : DP) : DM := fun ps => (d ps).bind fun w => .ok (w, ps)
theorem m_of (h : JP X G e da) : JM X G e (dLift da) := imp h fun σ H Q ⟨c, ow, ps, w, ps', R, e, q⟩ => by
  obtain ⟨w1, e1, e2⟩ := bind_ok e
  cases e2
  exact ⟨c, ow, ps, w, R, e1, fun v H' s r => q v H' ow (R.grow s) (Kp.of_same s) r⟩
/-! ### names and constants -/
def dVar (i : Nat) : DP := fun ps => match ps[i]? with | some (.v w) => .ok w | _ => .bad
def dSee (i : Nat) : DP := fun ps => match ps[i]? with | some (.v w) => .ok w | some (.own x) => .ok x.pv | some (.bor w) => .ok w | some (.dol ks xss) => .ok (.dbo ks (xss.map PV.lst)) | _ => .bad
theorem p_var (i : Nat) {x : Str} {pos : Pos} (hN : X.N[i]? = some x := by rfl) (hv : Vis X.env.scope x := by first | exact Or.inl rfl | exact Or.inr (Or.inl rfl) | exact Or.inr (Or.inr rfl)) (hd : (x == ("__debug__" : Str)) = false := by decide)
    (hcd : (x == ("__classdict__" : Str)) = false := by decide) : JP X G (.Name x pos) (dVar i) := imp (pe_var hN hv hd hcd) fun σ H Q ⟨c, ow, ps, w, R, e, q⟩ => by
  unfold dVar at e
  split at e
  · rename_i w' h
    cases e
    obtain ⟨v, ev, r⟩ := R.getV h
    exact ⟨v, ev, q v H (Same.refl H) r⟩
  · cases e
theorem b_var (i : Nat) {x : Str} {pos : Pos} (hN : X.N[i]? = some x := by rfl) (hv : Vis X.env.scope x := by first | exact Or.inl rfl | exact Or.inr (Or.inl rfl) | exact Or.inr (Or.inr rfl)) (hd : (x == ("__debug__" : Str)) = false := by decide)
    (hcd : (x == ("__classdict__" : Str)) = false := by decide) : JB X G (.Name x pos) (dSee i) := imp (pe_var hN hv hd hcd) fun σ H Q ⟨c, ow, ps, w, R, e, q⟩ => by
  unfold dSee at e
  split at e
  · rename_i w' h
    cases e
    obtain ⟨v, ev, r⟩ := R.getV h
    exact ⟨v, ev, q v H (Same.refl H) (.inl r)⟩
  · rename_i x' h
    cases e
    obtain ⟨p, e1, e2, r⟩ := R.getO h
    exact ⟨_, e2, q _ H (Same.refl H) (.inr (.inl ⟨x', p, rfl, rfl, r⟩))⟩
  · rename_i w' h
    cases e
    obtain ⟨o, eo, _, v, rfl, r⟩ := R.get h
    refine ⟨v, eo, q v H (Same.refl H) ?_⟩
    rcases r with r | ⟨x, p, e1, e2, r, _⟩ | r
    · exact .inl r
    · exact .inr (.inl ⟨x, p, e1, e2, r⟩)
    · exact .inr (.inr (r.mono fun _ _ _ => trivial))
  · rename_i ks xss h
    cases e
    obtain ⟨o, eo, p, qs, _, rfl, ⟨ep, hp⟩, l1, l2, _, h⟩ := R.get h
    exact ⟨_, eo, q _ H (Same.refl H) (.inr (.inr ⟨ks, xss, p, qs, ep, rfl, rfl, hp, trivial, l1, l2, fun j q xs h1 h2 => ⟨(h j q xs h1 h2).2, trivial⟩⟩))⟩
  · cases e
def dC (w : PV) : DP := fun _ => .ok w
theorem p_con {t : V} {w : PV} (h : PE X e (tC t)) (hr : ∀ H A, Rep X.K G H A w t) : JP X G e (dC w) := imp h fun σ H Q ⟨c, ow, ps, w, R, e, q⟩ => by
  cases e
  exact q _ H (Same.refl H) (hr _ _)
theorem p_int {i j pos} : JP X G (.Constant (.int i) j pos) (dC (.int i)) := p_con pe_int fun _ _ => rfl
theorem p_bl {i j pos} : JP X G (.Constant (.bool i) j pos) (dC (.bl i)) := p_con pe_bl fun _ _ => rfl
theorem p_str {i j pos} : JP X G (.Constant (.str i) j pos) (dC (.str i)) := p_con pe_str fun _ _ => rfl
theorem p_topI {x : Str} {i : Int} {tk : Tok} {pos : Pos} (hg : Gl X x) (hm : X.mg x = some (.int i tk)) (hd : (x == ("__debug__" : Str)) = false := by decide) : JP X G (.Name x pos) (dC (.int i)) := p_con (pe_globI hg hm hd) fun _ _ => rfl
/-! ### two operands -/
def d2 (f : PV → PV → Rx PV) (a b : DP) : DP := fun ps => (a ps).bind fun x => (b ps).bind fun y => f x y
abbrev Used (H : Hp) (A : Av) : Prop := ∀ a, A a → H a ≠ none
def Op2 (K : PySem.W.Frag) (G : Pg) (f : PV → PV → Rx PV) (r : R2) : Prop := ∀ (H : Hp) (A : Av) (x y w : PV) (v u : V) (Q : VK), Used H A → f x y = .ok w → RepB K G H A x v → RepB K G H A y u → (∀ z H', Same H H' → Rep K G H' A w z → Q z H') → r v u H Q
theorem bin2 {K : PySem.W.Frag} {f : PV → PV → Rx PV} {r : R2} (hf : Op2 K G f r) {σ : L2.St} {H : Hp} {Q : VK} (h : tPv K G (d2 f da db) σ H Q) : tOp r (tPb K G da) (tPb K G db) σ H Q := by
  obtain ⟨c, ow, ps, w, R, e, q⟩ := h
  obtain ⟨x, e1, e⟩ := bind_ok e
  obtain ⟨y, e2, e⟩ := bind_ok e
  exact ⟨c, ow, ps, x, R, e1, fun v H1 s1 r1 => ⟨c, ow, ps, y, R.grow s1, e2, fun u H2 s2 r2 => hf H2 _ x y w v u Q ((R.grow s1).grow s2).used e (r1.same s2) r2 fun z H3 s3 r3 => q z H3 ((s1.trans s2).trans s3) r3⟩⟩
theorem p_op {op : Operator} {r : R2} {f : PV → PV → Rx PV} (ho : OpR X (binaryOp op) r) (hf : Op2 X.K G f r) (ha : JB X G a da) (hb : JB X G b db) : JP X G (.BinOp a op b pos) (d2 f da db) := imp (pe_op ho ha hb) fun _ _ _ => bin2 hf
theorem p_cmp {op : CmpOp} {r : R2} {f : PV → PV → Rx PV} (ho : OpR X (compareOp op) r) (hf : Op2 X.K G f r) (ha : JB X G a da) (hb : JB X G b db) (hm : behindInMarks op b = false) : JP X G (.Compare a [op] [b] pos) (d2 f da db) := imp (pe_cmpR ho ha hb hm) fun _ _ _ => bin2 hf
def dTr (d : DP) : DT := fun ps => (d ps).bind fun x => match x with | .bl b => .ok b | _ => .bad
theorem t_cmp {op : CmpOp} {r : R2} {f : PV → PV → Rx PV} (ho : OpR X (compareOp op) r) (hf : Op2 X.K G f r) (ha : JB X G a da) (hb : JB X G b db) (hm : behindInMarks op b = false) : JT X G (.Compare a [op] [b] pos) (dTr (d2 f da db)) :=
  impT (pt_cmpR ho ha hb hm) fun σ H Q ⟨c, ow, ps, b, R, e, q⟩ => by
    obtain ⟨x, e1, e2⟩ := bind_ok e
    have : x = .bl b := by
      cases x <;> first | (cases e2; rfl) | cases e2
    subst this
    exact bin2 hf ⟨c, ow, ps, _, R, e1, fun v H' s r => ⟨b, r, q H' s⟩⟩
theorem p_ix {f : PV → PV → Rx PV} (hf : Op2 X.K G f (rIx X.K)) (ha : JB X G a da) (hb : JB X G b db) (hs : PlainIx b) : JP X G (.Subscript a b pos) (d2 f da db) := imp (pe_ix ix_seq ha hb hs) fun _ _ _ => bin2 hf
def fI (g : Int → Int → PV) : PV → PV → Rx PV
  | .int i, .int j => .ok (g i j)
  | _, _ => .bad
def fIc (C : Int → Int → Prop) [∀ i j, Decidable (C i j)] (g : Int → Int → PV) : PV → PV → Rx PV
  | .int i, .int j => if C i j then .ok (g i j) else .bad
  | _, _ => .bad
/-- a flat value as it is -/
def flat : PV → V
  | .non => .non | .bl b => .bl b | .int i => .int i | .str x => .str x | _ => .ref 0
theorem o2_I {K : PySem.W.Frag} {g : Int → Int → PV} {g' : Int → Int → V} (h : ∀ i j H A, Rep K G H A (g i j) (g' i j)) : Op2 K G (fI g) (rI0 g') := by
  intro H A x y w v u Q hu e r1 r2 q
  cases x <;> try cases e
  cases y <;> try cases e
  exact ⟨_, _, r1.int, r2.int, q _ H (Same.refl H) (h _ _ _ _)⟩
theorem o2_Ic {K : PySem.W.Frag} {C : Int → Int → Prop} [∀ i j, Decidable (C i j)] {C' : Int → Int → Prop} {g : Int → Int → PV} {g' : Int → Int → V} (hc : ∀ i j, C i j → C' i j) (h : ∀ i j H A, Rep K G H A (g i j) (g' i j)) : Op2 K G (fIc C g) (rI C' g') := by
  intro H A x y w v u Q hu e r1 r2 q
  cases x <;> try cases e
  cases y <;> try cases e
  rename_i i j
  have e : (if C i j then Rx.ok (g i j) else .bad) = .ok w := e
  split at e
  · rename_i hC
    cases e
    exact ⟨_, _, r1.int, r2.int, hc _ _ hC, q _ H (Same.refl H) (h _ _ _ _)⟩
  · cases e
abbrev fAdd := fI fun i j => .int (i + j)
abbrev fSub := fI fun i j => .int (i - j)
abbrev fLt := fI fun i j => .bl (decide (i < j))
abbrev fLe := fI fun i j => .bl (decide (i ≤ j))
abbrev fGt := fI fun i j => .bl (decide (j < i))
abbrev fMul := fIc (fun i j => (-(2 ^ 64) < i ∧ i < 2 ^ 64) ∨ (-(2 ^ 64) < j ∧ j < 2 ^ 64)) fun i j => .int (i * j)
abbrev fMod := fIc (fun _ j => 0 < j) fun i j => .int (i % j)
abbrev fDiv := fIc (fun _ j => 0 < j ∧ j < 1073741824) fun i j => .int (i / j)
abbrev fPow := fIc (fun i j => 0 ≤ j ∧ j ≤ 1000000 ∧ i.natAbs < 2 ^ 64) fun i j => .int (i ^ j.toNat)
theorem p_add (ha : JB X G a da) (hb : JB X G b db) : JP X G (.BinOp a .Add b pos) (d2 fAdd da db) := p_op op_add (o2_I fun _ _ _ _ => rfl) ha hb
theorem p_sub (ha : JB X G a da) (hb : JB X G b db) : JP X G (.BinOp a .Sub b pos) (d2 fSub da db) := p_op op_sub (o2_I fun _ _ _ _ => rfl) ha hb
theorem p_mul (ha : JB X G a da) (hb : JB X G b db) : JP X G (.BinOp a .Mult b pos) (d2 fMul da db) := p_op op_mul (o2_Ic (fun _ _ h => h) fun _ _ _ _ => rfl) ha hb
theorem p_mod (ha : JB X G a da) (hb : JB X G b db) : JP X G (.BinOp a .Mod b pos) (d2 fMod da db) := p_op op_mod (o2_Ic (fun _ _ h => h) fun _ _ _ _ => rfl) ha hb
theorem p_div (ha : JB X G a da) (hb : JB X G b db) : JP X G (.BinOp a .FloorDiv b pos) (d2 fDiv da db) := p_op op_fdiv (o2_Ic (fun _ _ h => h) fun _ _ _ _ => rfl) ha hb
theorem p_pow (ha : JB X G a da) (hb : JB X G b db) : JP X G (.BinOp a .Pow b pos) (d2 fPow da db) := p_op op_pow (o2_Ic (fun _ _ h => h) fun _ _ _ _ => rfl) ha hb
theorem t_lt (ha : JB X G a da) (hb : JB X G b db) : JT X G (.Compare a [.Lt] [b] pos) (dTr (d2 fLt da db)) := t_cmp op_lt (o2_I fun _ _ _ _ => rfl) ha hb (nomark _)
theorem t_gt (ha : JB X G a da) (hb : JB X G b db) : JT X G (.Compare a [.Gt] [b] pos) (dTr (d2 fGt da db)) := t_cmp op_gt (o2_I fun _ _ _ _ => rfl) ha hb (nomark _)
/-! ### is None -/
def isN : PV → Bool
  | .non => true
  | _ => false
def dIsN (d : DP) : DP := fun ps => (d ps).bind fun x => .ok (.bl (isN x))
def dNotN (d : DP) : DP := fun ps => (d ps).bind fun x => .ok (.bl (!isN x))
/-! ### tests: a truth, and, or, not -/
theorem t_val {d : DP} (h : JP X G e d) (he : ∀ whole, isTrue e X.env whole = (do let v ← whole; standAt e.pos; holding [v] (truthy v)) := by intro _; rfl) : JT X G e (dTr d) := impT (pt_val h he) fun σ H Q ⟨c, ow, ps, b, R, e, q⟩ => by
  obtain ⟨x, e1, e2⟩ := bind_ok e
  have : x = .bl b := by
    cases x <;> first | (cases e2; rfl) | cases e2
  subst this
  exact ⟨c, ow, ps, _, R, e1, fun v H' s r => ⟨b, r, q H' s⟩⟩
def dAndT (a b : DT) : DT := fun ps => (a ps).bind fun x => if x = true then b ps else .ok false
def dOrT (a b : DT) : DT := fun ps => (a ps).bind fun x => if x = true then .ok true else b ps
def dNotT (a : DT) : DT := fun ps => (a ps).bind fun x => .ok (!x)
theorem or_t {K : PySem.W.Frag} {ta tb : DT} {σ : L2.St} {H : Hp} {Q : Bool → Hp → Prop} (h : tPt K G (dOrT ta tb) σ H Q) : tOr (tPt K G ta) (tPt K G tb) σ H Q := by
  obtain ⟨c, ow, ps, b, R, e, q⟩ := h
  obtain ⟨x, e1, e2⟩ := bind_ok e
  refine ⟨c, ow, ps, x, R, e1, fun H' s => ?_⟩
  split at e2
  · rename_i hx; subst hx
    cases e2
    exact iteT (q H' s)
  · rename_i hx
    have : x = false := by simpa using hx
    subst this
    exact iteF ⟨c, ow, ps, b, R.grow s, e2, fun H2 s2 => q H2 (s.trans s2)⟩
section
variable {ta tb : DT} {rest : List Expr}
theorem w_or1 (ha : JT X G a ta) : JW X G (.BoolOp .Or [a] pos) ta := pw_or1 ha
theorem w_or (ha : JT X G a ta) (hb : JW X G (.BoolOp .Or (b :: rest) pos) tb) : JW X G (.BoolOp .Or (a :: b :: rest) pos) (dOrT ta tb) := impW (pw_or ha hb) fun _ _ _ => or_t
theorem t_w (h : JW X G e ta) : JT X G e ta := PW.pt h
theorem t_not (ha : JT X G a ta) : JT X G (.UnaryOp .Not a pos) (dNotT ta) := impT (pt_not ha) fun σ H Q ⟨c, ow, ps, b, R, e, q⟩ => by
  obtain ⟨x, e1, e2⟩ := bind_ok e
  cases e2
  exact ⟨c, ow, ps, x, R, e1, fun H' s => q H' s⟩
end
/-! ### and, or, not as values (truths) -/
def dAndV (a b : DP) : DP := fun ps => (a ps).bind fun x => match x with | .bl true => b ps | .bl false => .ok (.bl false) | _ => .bad
def dOrV (a b : DP) : DP := fun ps => (a ps).bind fun x => match x with | .bl true => .ok (.bl true) | .bl false => b ps | _ => .bad
def dNotV (a : DP) : DP := fun ps => (a ps).bind fun x => match x with | .bl k => .ok (.bl (!k)) | _ => .bad
section
variable {rest : List Expr}
theorem p_one {op} (h : JP X G a da) : JP X G (.BoolOp op [a] pos) da := pe_one h
theorem p_andV (ha : JP X G a da) (hb : JP X G (.BoolOp .And (b :: rest) pos) db) : JP X G (.BoolOp .And (a :: b :: rest) pos) (dAndV da db) := imp (pe_and ha hb) fun σ H Q ⟨c, ow, ps, w, R, e, q⟩ => by
  obtain ⟨x, e1, e2⟩ := bind_ok e
  refine ⟨c, ow, ps, x, R, e1, fun v H' s r => ?_⟩
  split at e2
  · exact ⟨true, r, iteT ⟨c, ow, ps, w, R.grow s, e2, fun v2 H2 s2 r2 => q v2 H2 (s.trans s2) r2⟩⟩
  · cases e2; exact ⟨false, r, iteF (q _ H' s rfl)⟩
  · cases e2
theorem p_notV (ha : JP X G a da) : JP X G (.UnaryOp .Not a pos) (dNotV da) := imp (pe_not ha) fun σ H Q ⟨c, ow, ps, w, R, e, q⟩ => by
  obtain ⟨x, e1, e2⟩ := bind_ok e
  refine ⟨c, ow, ps, x, R, e1, fun v H' s r => ?_⟩
  split at e2
  · cases e2; exact ⟨_, r, q _ H' s rfl⟩
  · cases e2
def dNeg (d : DP) : DP := fun ps => (d ps).bind fun x => match x with | .int i => .ok (.int (-i)) | _ => .bad
def dIfV (t : DT) (a b : DP) : DP := fun ps => (t ps).bind fun x => if x = true then a ps else b ps
end
end
end DN
end
section
set_option Elab.async false
set_option linter.all false
set_option maxRecDepth 100000
set_option maxHeartbeats 4000000
namespace DN
open PySem PySem.Spec PyProof.Rows L2
section
variable {X : Cx} {G : Pg} {e a b : Expr} {es : List Expr} {da db : DP} {pos : Pos}
/-! ### items -/
def fIx : PV → PV → Rx PV
  | .lst xs, .int i => match atI xs i with | some w => .ok w | none => .bad
  | .tup xs, .int i => match atI xs i with | some w => .ok w | none => .bad
  | .str z, .int i => if z.length ≤ sizeLine then (match atI z.cps.toList i with | some c => .ok (.str ⟨#[c]⟩) | none => .bad) else .bad
  | _, _ => .bad
theorem atI_rep {K : PySem.W.Frag} {H : Hp} {A : Av} {xs : List PV} {vs : List V} {i : Int} {w : PV} (r : Reps K G H A xs vs) (e : atI xs i = some w) : ∃ v, atI vs i = some v ∧ Rep K G H A w v := by
  unfold atI at e ⊢
  rw [← r.len]
  cases q : ixN xs.length i with
  | none => rw [q] at e; cases e
  | some j =>
    rw [q] at e
    exact r.get e
theorem o2_ix {K : PySem.W.Frag} : Op2 K G fIx (rIx K) := by
  intro H A x y w v u Q hu e r1 r2 q
  cases x <;> try cases e
  · cases y <;> try cases e
    rename_i z i
    have e : (if z.length ≤ sizeLine then (match atI z.cps.toList i with | some c => Rx.ok (PV.str ⟨#[c]⟩) | none => .bad) else .bad) = .ok w := e
    split at e
    · rename_i hz
      split at e
      · rename_i c hc
        cases e
        exact .inr (.inr ⟨z, i, c, r1.str, r2.int, hz, hc, q _ H (Same.refl H) rfl⟩)
      · cases e
    · cases e
  · cases y <;> try cases e
    rename_i xs i
    have e : (match atI xs i with | some w => Rx.ok w | none => .bad) = .ok w := e
    split at e
    · rename_i w' hw
      cases e
      obtain ⟨p, vs, ev, sq, rs⟩ := r1.tup
      obtain ⟨v', e1, r'⟩ := atI_rep rs hw
      exact .inr (.inl ⟨p, vs, i, v', ev, r2.int, sq, e1, q _ H (Same.refl H) r'⟩)
    · cases e
  · cases y <;> try cases e
    rename_i xs i
    have e : (match atI xs i with | some w => Rx.ok w | none => .bad) = .ok w := e
    split at e
    · rename_i w' hw
      cases e
      obtain ⟨p, vs, ev, sq, rs⟩ := r1.lst
      obtain ⟨v', e1, r'⟩ := atI_rep rs hw
      exact .inl ⟨p, vs, i, v', ev, r2.int, sq, e1, q _ H (Same.refl H) r'⟩
    · cases e
theorem p_at (ha : JB X G a da) (hb : JB X G b db) (hs : PlainIx b) : JP X G (.Subscript a b pos) (d2 fIx da db) := p_ix o2_ix ha hb hs
/-! ### arguments, displays -/
def dNil : DA := fun _ => .ok []
def dCons (a : DP) (r : DA) : DA := fun ps => (a ps).bind fun x => (r ps).bind fun xs => .ok (x :: xs)
theorem a_nil : JA X G [] [] dNil := impA pa_nil fun σ H Q ⟨c, ow, ps, ws, R, e, q⟩ => by
  cases e
  exact q [] H (Same.refl H) ⟨rfl, rfl⟩
theorem a_cons {ms : List Bool} {d : DA} (ha : JP X G e da) (hr : JA X G ms es d) (hs : starEach (e :: es) X.env = (false, eval e X.env) :: starEach es X.env := by rfl) : JA X G (false :: ms) (e :: es) (dCons da d) :=
  impA (pa_cons ha hr hs) fun σ H Q ⟨c, ow, ps, ws, R, e, q⟩ => by
    obtain ⟨x, e1, e⟩ := bind_ok e
    obtain ⟨xs, e2, e⟩ := bind_ok e
    cases e
    exact ⟨c, ow, ps, x, R, e1, fun v H1 s1 r1 => ⟨c, ow, ps, xs, R.grow s1, e2, fun vs H2 s2 r2 => q (v :: vs) H2 (s1.trans s2) ⟨x, xs, v, vs, rfl, rfl, by rw [if_neg Bool.false_ne_true]; exact r1.same s2, r2⟩⟩⟩
theorem a_consB {ms : List Bool} {d : DA} (ha : JB X G e da) (hr : JA X G ms es d) (hs : starEach (e :: es) X.env = (false, eval e X.env) :: starEach es X.env := by rfl) : JA X G (true :: ms) (e :: es) (dCons da d) :=
  impA (pa_cons ha hr hs) fun σ H Q ⟨c, ow, ps, ws, R, e, q⟩ => by
    obtain ⟨x, e1, e⟩ := bind_ok e
    obtain ⟨xs, e2, e⟩ := bind_ok e
    cases e
    exact ⟨c, ow, ps, x, R, e1, fun v H1 s1 r1 => ⟨c, ow, ps, xs, R.grow s1, e2, fun vs H2 s2 r2 => q (v :: vs) H2 (s1.trans s2) ⟨x, xs, v, vs, rfl, rfl, by rw [if_pos rfl]; exact r1.same s2, r2⟩⟩⟩
theorem RepM.reps' {K : PySem.W.Frag} {H : Hp} {A : Av} : ∀ {ms : List Bool} {ws : List PV} {vs : List V}, RepM K G H A ms ws vs → ms.all (! ·) = true → Reps K G H A ws vs
  | [], ws, vs, h, _ => by obtain ⟨rfl, rfl⟩ := h; rfl
  | m :: ms, ws, vs, h, hm => by
    obtain ⟨w, wr, v, vr, rfl, rfl, r, rr⟩ := h
    rw [List.all_cons, Bool.and_eq_true] at hm
    have : m = false := by simpa using hm.1
    subst this
    rw [if_neg Bool.false_ne_true] at r
    exact ⟨v, vr, rfl, r, RepM.reps' rr hm.2⟩
def dTup (d : DA) : DP := fun ps => (d ps).bind fun ws => .ok (.tup ws)
/-! ### new lists: +, a slice, list(..) -/
def dCatL (a b : DP) : DA := fun ps => (a ps).bind fun x => (b ps).bind fun y => match x, y with | .lst xs, .lst ys => if xs.length + ys.length ≤ sizeLine then .ok (xs ++ ys) else .bad | _, _ => .bad
def dO0 : PSt → Rx (Option Int) := fun _ => .ok none
def dO1 (d : DP) : PSt → Rx (Option Int) := fun ps => (d ps).bind fun x => match x with | .int i => .ok (some i) | _ => .bad
def cutP (xs : List PV) (lo hi : Option Int) : List PV := (xs.drop (HT.sIx xs.length 0 lo)).take (HT.sIx xs.length xs.length hi - HT.sIx xs.length 0 lo)
def dCut (d : DP) (dl dh : PSt → Rx (Option Int)) : DA := fun ps => (d ps).bind fun x => (dl ps).bind fun lo => (dh ps).bind fun hi => match x with | .lst xs => .ok (cutP xs lo hi) | _ => .bad
/-! ### built-in functions -/
def dCall (f : List PV → Rx PV) (d : DA) : DP := fun ps => (d ps).bind f
def CbR (K : PySem.W.Frag) (G : Pg) (ms : List Bool) (f : List PV → Rx PV) (r : List V → Hp → VK → Prop) : Prop := ∀ (H : Hp) (A : Av) (ws : List PV) (vs : List V) (w : PV) (Q : VK), Used H A → f ws = .ok w → RepM K G H A ms ws vs → (∀ z H', Same H H' → Rep K G H' A w z → Q z H') → r vs H Q
theorem cb_of {K : PySem.W.Frag} {ms : List Bool} {f : List PV → Rx PV} {r : List V → Hp → VK → Prop} {d : DA} (hf : CbR K G ms f r) {σ : L2.St} {H : Hp} {Q : VK} (h : tPv K G (dCall f d) σ H Q) : tCB r (tPa K G ms d) σ H Q := by
  obtain ⟨c, ow, ps, w, R, e, q⟩ := h
  obtain ⟨ws, e1, e2⟩ := bind_ok e
  exact ⟨c, ow, ps, ws, R, e1, fun vs H' s r => hf H' _ ws vs w Q (R.grow s).used e2 r fun z H2 s2 r2 => q z H2 (s.trans s2) r2⟩
theorem p_callB {x : Str} {p : Pos} {id : String} {ms : List Bool} {f : List PV → Rx PV} {r : List V → Hp → VK → Prop} {d : DA} (hc : CallR X (.builtin id) r) (hf : CbR X.K G ms f r) (hg : Gl X x) (hm : X.mg x = none) (hv : bootBuiltins x = some (.builtin id)) (ha : JA X G ms (e :: es) d) (hn : x ≠ "__name__" := by decide) (hdb : (x == ("__debug__" : Str)) = false := by decide)
    (he : starEach (e :: es) X.env = (false, eval e X.env) :: starEach es X.env := by rfl) (hpl : (backTo pos (starEach es X.env)).any (·.1) = false := by rfl) : JP X G (.Call (.Name x p) (e :: es) [] pos) (dCall f d) := imp (pe_callB hc hg hm hv ha hn hdb he hpl) fun _ _ _ => cb_of hf
theorem RepM.one {K : PySem.W.Frag} {H : Hp} {A : Av} {ws : List PV} {vs : List V} (h : RepM K G H A [true] ws vs) : ∃ w v, ws = [w] ∧ vs = [v] ∧ RepB K G H A w v := by
  obtain ⟨w, wr, v, vr, rfl, rfl, r, rfl, rfl⟩ := h
  exact ⟨w, v, rfl, rfl, r⟩
theorem RepM.two {K : PySem.W.Frag} {H : Hp} {A : Av} {ws : List PV} {vs : List V} (h : RepM K G H A [true, true] ws vs) : ∃ w w' v v', ws = [w, w'] ∧ vs = [v, v'] ∧ RepB K G H A w v ∧ RepB K G H A w' v' := by
  obtain ⟨w, wr, v, vr, rfl, rfl, r, w', wr', v', vr', rfl, rfl, r', rfl, rfl⟩ := h
  exact ⟨w, w', v, v', rfl, rfl, r, r'⟩
def bLen : List PV → Rx PV
  | [.str y] => if y.length ≤ sizeLine then .ok (.int y.length) else .bad
  | [.lst xs] => .ok (.int xs.length)
  | [.tup xs] => .ok (.int xs.length)
  | _ => .bad
theorem cb_len {K : PySem.W.Frag} : CbR K G [true] bLen (fun xs H Q => ∃ x n, xs = [x] ∧ LenV K x H n ∧ Q (.int n) H) := by
  intro H A ws vs w Q hu e r q
  obtain ⟨x, v, rfl, rfl, rb⟩ := r.one
  clear r
  cases x <;> try cases e
  · rename_i y
    have e : (if y.length ≤ sizeLine then Rx.ok (PV.int y.length) else .bad) = .ok w := e
    split at e
    · rename_i hy
      cases e
      rw [rb.str]
      exact ⟨_, _, rfl, ⟨hy, rfl⟩, q _ H (Same.refl H) rfl⟩
    · cases e
  · obtain ⟨a, vs, rfl, sq, rs⟩ := rb.tup
    exact ⟨_, _, rfl, .inr ⟨vs, sq, rfl⟩, q _ H (Same.refl H) (by show _ = _; rw [rs.len])⟩
  · obtain ⟨a, vs, rfl, sq, rs⟩ := rb.lst
    exact ⟨_, _, rfl, .inl ⟨vs, sq, rfl⟩, q _ H (Same.refl H) (by show _ = _; rw [rs.len])⟩
def bList : List PV → Rx (List PV)
  | [.lst xs] => .ok xs
  | [.tup xs] => .ok xs
  | _ => .bad
def dCallN (f : List PV → Rx (List PV)) (d : DA) : DA := fun ps => (d ps).bind f
theorem n_list {x : Str} {p : Pos} {d : DA} (hg : Gl X "list") (hm : X.mg "list" = none) (ha : JA X G [true] [e] d)
    (he : starEach [e] X.env = (false, eval e X.env) :: starEach [] X.env := by rfl) (hpl : (backTo pos (starEach [] X.env)).any (·.1) = false := by rfl) : JN X G (.Call (.Name "list" p) [e] [] pos) (dCallN bList d) :=
  imp (pe_callTy call_list_of hg hm boot_list ha (by decide) (by decide) he hpl) fun σ H Q ⟨c, ow, ps, ws, R, e, q⟩ => by
    obtain ⟨xs, e1, e2⟩ := bind_ok e
    refine ⟨c, ow, ps, xs, R, e1, fun vs H' s r => ?_⟩
    obtain ⟨x, v, rfl, rfl, rb⟩ := r.one
    clear r
    cases x <;> try cases e2
    · obtain ⟨a, vs, rfl, sq, rs⟩ := rb.tup
      exact ⟨a, vs, rfl, .inr sq, fun l hl => q l vs _ (s.trans (same_upd hl _)) (s.free hl) upd_same ((Kp.take hl (same_upd hl _) fun a z => z.symm).reps rs)⟩
    · obtain ⟨a, vs, rfl, sq, rs⟩ := rb.lst
      exact ⟨a, vs, rfl, .inl sq, fun l hl => q l vs _ (s.trans (same_upd hl _)) (s.free hl) upd_same ((Kp.take hl (same_upd hl _) fun a z => z.symm).reps rs)⟩
/-! ### isinstance -/
def kd : PV → Nat
  | .non => 0 | .bl _ => 1 | .int _ => 2 | .str _ => 3 | .tup _ => 4 | .lst _ => 5 | .dic _ _ => 6 | .clo _ _ => 9 | .dit _ _ => 9 | .dbo _ _ => 9 | .obj k _ => k + 10
def tyOfKd (G : Pg) : Nat → Value
  | 0 => .type "NoneType" | 1 => .type "bool" | 2 => .type "int" | 3 => .type "str" | 4 => .type "tuple" | 5 => .type "list" | 6 => .type "dict" | 7 => .none | 8 => .none | 9 => .none
  | k + 10 => .ref (G.cA k)
/-- what is asked of a class for its own instances' type -/
def ClsTy (K : PySem.W.Frag) (C : Addr) : Prop := ∀ H a dx fs, H a = some (.ins C dx fs) → TyOf K H (.ref a) (.ref C)
def dIsi (l : List (Nat × Bool)) (d : DP) : DP := fun ps => (d ps).bind fun x => match l.lookup (kd x) with | some b => .ok (.bl b) | none => .bad
structure IsiOk (K : PySem.W.Frag) (G : Pg) (cv : Value) (l : List (Nat × Bool)) : Prop where
  kit : ∀ k b, l.lookup k = some b → PySem.W.kitOne K (tyOfKd G k) cv = some b
  cls : ∀ k b, l.lookup (k + 10) = some b → ClsTy K (G.cA k)
  n9 : ∀ b, l.lookup 9 ≠ some b
theorem call_isi (cv : Value) (l : List (Nat × Bool)) (ok : IsiOk X.K G cv l) : CallR X (.builtin "isinstance") (fun xs H Q => ∃ A w v c b, xs = [v, c] ∧ (∀ u, RelV c u → u = cv) ∧ RepB X.K G H A w v ∧ l.lookup (kd w) = some b ∧ Q (.bl b) H) := by
  intro pins s σ H xs us Q I r h
  obtain ⟨A, w, v, c, b, rfl, hc, rw', hl, q⟩ := h
  obtain ⟨u, u', rfl, ru, rc⟩ := vals2 r
  obtain rfl := hc _ rc
  have kit := ok.kit _ _ hl
  have fin : ∀ tk, EP X pins σ Q (.bool b) { s with toks := tk } := fun tk => ⟨.bl b, H, I.tok tk, rfl, q⟩
  cases w with
  | non => rw [rw'.non] at ru; exact isinst_ok I ru .non kit fin
  | bl k => rw [rw'.bl] at ru; exact isinst_ok I ru (.bl _) kit fin
  | int i => rw [rw'.int] at ru; exact isinst_ok I ru (.int _) kit fin
  | str i => rw [rw'.str] at ru; exact isinst_ok I ru (.str _) kit fin
  | tup ws =>
    obtain ⟨a, vs, rfl, sq, rs⟩ := rw'.tup
    cases (show u = Value.ref a from ru)
    obtain ⟨its, _, p, _⟩ := I.tuple sq
    obtain ⟨o, h1, h2, _⟩ := p
    exact PySem.W.kia_one PySem.W.kitx_tuple I.kIn ⟨o, h1, h2⟩ kit (fun z => nomatch z) fin
  | lst ws =>
    obtain ⟨a, vs, rfl, sq, rs⟩ := rw'.lst
    cases (show u = Value.ref a from ru)
    obtain ⟨its, _, ⟨o, n, h1, h2, _⟩, _⟩ := I.list sq
    exact PySem.W.kia_one PySem.W.kitx_list I.kIn ⟨o, h1, h2⟩ kit (fun z => nomatch z) fin
  | clo f ws => exact absurd hl (ok.n9 b)
  | dit ks ws => exact absurd hl (ok.n9 b)
  | dbo ks ws => exact absurd hl (ok.n9 b)
  | dic ks ws =>
    obtain ⟨a, vs, ep, rfl, hH, _, rs⟩ := rw'.dic
    exact isinst_ok I ru (.dK hH) kit fin
  | obj k ws =>
    obtain ⟨a, dx, vs, rfl, hH, _, rs⟩ := rw'.obj
    exact isinst_ok I ru (ok.cls k b hl H a dx _ hH) kit fin
theorem p_isi {ce : Expr} {cvv : V} {cv : Value} {l : List (Nat × Bool)} {p : Pos} (hg : Gl X "isinstance") (hm : X.mg "isinstance" = none) (ok : IsiOk X.K G cv l) (hcv : ∀ u, RelV cvv u → u = cv) (ha : JB X G e da) (hc : PE X ce (tC cvv))
    (he : starEach [e, ce] X.env = (false, eval e X.env) :: starEach [ce] X.env := by rfl) (he2 : starEach [ce] X.env = (false, eval ce X.env) :: starEach [] X.env := by rfl) (hpl : (backTo pos (starEach [ce] X.env)).any (·.1) = false := by rfl) :
    JP X G (.Call (.Name "isinstance" p) [e, ce] [] pos) (dIsi l da) :=
  imp (pe_callB (call_isi cv l ok) hg hm boot_isinstance (pa_cons ha (pa_cons hc pa_nil he2) he) (by decide) (by decide) he hpl) fun σ H Q ⟨c, ow, ps, w, R, e, q⟩ => by
    obtain ⟨x, e1, e2⟩ := bind_ok e
    refine ⟨c, ow, ps, x, R, e1, fun v H' s r => ?_⟩
    split at e2
    · rename_i b hb
      cases e2
      exact ⟨_, x, v, cvv, b, rfl, hcv, r, hb, q _ H' s rfl⟩
    · cases e2
/-! ### attributes -/
theorem zip_lookup {f : Str} {v : V} : ∀ {ns : List Str} {vs : List V} {j : Nat}, ns.Nodup → ns[j]? = some f → vs[j]? = some v → (ns.zip vs).lookup f = some v
  | [], vs, j, _, h, _ => by simp at h
  | n :: ns, [], j, _, _, h => by simp at h
  | n :: ns, u :: vs, 0, _, h1, h2 => by
    simp at h1 h2; subst h1; subst h2
    simp
  | n :: ns, u :: vs, j + 1, nd, h1, h2 => by
    have h1' : ns[j]? = some f := by simpa using h1
    have hne : (f == n) = false := by
      have : f ≠ n := fun z => by subst z; exact (List.nodup_cons.mp nd).1 (List.mem_of_getElem? h1')
      simpa using this
    rw [List.zip_cons_cons, List.lookup_cons, hne]
    exact zip_lookup (j := j) (List.nodup_cons.mp nd).2 h1' (by simpa using h2)
structure FldOk (K : PySem.W.Frag) (G : Pg) (f : Str) (l : List (Nat × Nat)) : Prop where
  all : ∀ k j, l.lookup k = some j → Cls K (G.cA k) ∧ NoAttr K (G.cA k) f ∧ (G.fN k).Nodup ∧ (G.fN k)[j]? = some f
def dFld (l : List (Nat × Nat)) (d : DP) : DP := fun ps => (d ps).bind fun x => match x with
  | .obj k xs => (match l.lookup k with | some j => (match xs[j]? with | some w => .ok w | none => .bad) | none => .bad)
  | _ => .bad
end
end DN
end
section
set_option Elab.async false
set_option linter.all false
set_option maxRecDepth 100000
set_option maxHeartbeats 4000000
namespace DN
open PySem PySem.Spec PyProof.Rows L2
/-! ### states without things of one's own -/
def SlF (K : PySem.W.Frag) (G : Pg) (B : Av) (H : Hp) (A : Av) : Sl → Option V → Prop
  | .no, _ => True
  | .v w, o => ∃ v, o = some v ∧ Rep K G H A w v
  | .own _, _ => False
  | .bor w, o => ∃ v, o = some v ∧ (Rep K G H A w v ∨ (∃ x p, w = x.pv ∧ v = .ref p ∧ RepO K G H A x p ∧ B p) ∨ RepD K G H A B w v)
  | .ino _, _ => False
  | .ini _ _, _ => False
  | .dol _ _, _ => False
  | .als _ _, _ => False
structure RepF (K : PySem.W.Frag) (G : Pg) (B : Av) (H : Hp) (A : Av) (ps : PSt) (σ : L2.St) : Prop where
  len : ps.length = σ.length
  slot : ∀ (i : Nat) (s : Sl) (o : Option V), ps[i]? = some s → σ[i]? = some o → SlF K G B H A s o
section
variable {K : PySem.W.Frag} {G : Pg} {H H' : Hp} {A A' B : Av} {ps : PSt} {σ : L2.St}
def ow0 : Ows := fun _ => none
theorem av0 {c : Fr} (a : Addr) : av c ow0 a → c.A0 a := by
  rintro (h | ⟨i, h⟩)
  · exact h
  · cases h
theorem RepB.keep {w : PV} {v : V} (h : RepB K G H A w v) (k : Kp K G H A H' A') (e : ∀ p o, H p = some o → Mt o → H' p = H p) : RepB K G H' A' w v := by
  rcases h with h | ⟨x, p, e1, e2, r⟩ | ⟨ks, xss, p, qs, ep, e1, e2, e3, b, l1, l2, h⟩
  · exact .inl (k.rep h)
  · obtain ⟨o, eo, mo⟩ := r.at
    exact .inr (.inl ⟨x, p, e1, e2, r.keep k (e p o eo mo)⟩)
  · refine .inr (.inr ⟨ks, xss, p, qs, ep, e1, e2, by rw [e p _ e3 (And.intro (fun _ z => by cases z) (fun _ _ z => by cases z))]; exact e3, b, l1, l2, fun j q xs h1 h2 => ?_⟩)
    obtain ⟨r, b⟩ := h j q xs h1 h2
    obtain ⟨o, eo, mo⟩ := r.at
    exact ⟨r.keep k (e q o eo mo), b⟩
theorem RepB.weak {w : PV} {v : V} (h : RepB K G H A w v) (f : ∀ a, A' a → A a) : RepB K G H A' w v := h.keep (Kp.weak f) fun _ _ _ _ => rfl
theorem RepF.toS (R : RepF K G B H A ps σ) (u : Used H A) (ub : Used H B) : RepS K G ⟨H, A, B, none⟩ H ow0 ps σ := by
  refine ⟨R.len, SmL.of (Same.refl H), (fun p e => (nomatch e)), u, (fun a z => ⟨ub a z, fun e => nomatch e⟩), (fun i p e => (nomatch e)), (fun i j p e => (nomatch e)), (fun _ _ e => (nomatch e)), fun i s o e1 e2 => ?_⟩
  have q := R.slot i s o e1 e2
  have k : Kp K G H A H (av ⟨H, A, B, none⟩ ow0) := Kp.weak fun a z => av0 a z
  cases s with
  | no => rfl
  | v w => obtain ⟨v, e, r⟩ := q; exact ⟨rfl, v, e, k.rep r⟩
  | own x => exact q.elim
  | ino x => exact q.elim
  | ini k xs => exact q.elim
  | dol ks xss => exact q.elim
  | als d j => exact q.elim
  | bor w =>
    obtain ⟨v, e, r⟩ := q
    refine ⟨rfl, v, e, ?_⟩
    rcases r with r | ⟨x, p, e1, e2, r, n⟩ | r
    · exact .inl (k.rep r)
    · exact .inr (.inl ⟨x, p, e1, e2, r.keep k rfl, n⟩)
    · exact .inr (.inr (r.keep k fun _ _ _ => rfl))
theorem RepF.ofS {c : Fr} (R : RepS K G c H ow0 ps σ) (hl : c.lx = none) : RepF K G c.B0 H c.A0 ps σ := by
  refine ⟨R.len, fun i s o e1 e2 => ?_⟩
  have q := R.slot i s o e1 e2
  have k : Kp K G H (av c ow0) H c.A0 := Kp.weak fun a z => .inl z
  cases s with
  | no => exact True.intro
  | v w => obtain ⟨_, v, e, r⟩ := q; exact ⟨v, e, k.rep r⟩
  | own x => obtain ⟨p, e, _⟩ := q; cases e
  | ino x => obtain ⟨_, _, p, _, e, _⟩ := q; rw [hl] at e; cases e
  | ini k xs => obtain ⟨_, _, p, _, e, _⟩ := q; rw [hl] at e; cases e
  | dol ks xss => obtain ⟨p, qs, e, _⟩ := q; cases e
  | als d j => obtain ⟨_, q', _, e⟩ := q; cases e
  | bor w =>
    obtain ⟨_, v, e, r⟩ := q
    refine ⟨v, e, ?_⟩
    rcases r with r | ⟨x, p, e1, e2, r, n⟩ | r
    · exact .inl (k.rep r)
    · exact .inr (.inl ⟨x, p, e1, e2, r.keep k rfl, n⟩)
    · exact .inr (.inr (r.keep k fun _ _ _ => rfl))
/-- what a block sees of a slot -/
def Sl.out : Sl → Sl
  | .own x => .bor x.pv
  | .ino x => .bor x.pv
  | .ini _ _ => .no
  | .dol _ _ => .no
  | .als _ _ => .no
  | s => s
def capP (own : List Str) (caps : List (Str × Nat)) (ps : PSt) : PSt := List.replicate own.length .no ++ caps.map fun p => ((ps[p.2]?).getD .no).out
theorem RepS.caps {c : Fr} {ow : Ows} (R : RepS K G c H ow ps σ) (own : List Str) (caps : List (Str × Nat)) : RepF K G (fun p => H p ≠ none) H (av c ow) (capP own caps ps) (capS own caps σ) := by
  refine ⟨by simp [capP, capS], fun i s o e1 e2 => ?_⟩
  unfold capP at e1
  unfold capS at e2
  rcases Nat.lt_or_ge i own.length with h | h
  · rw [List.getElem?_append_left (by simpa using h), List.getElem?_replicate, if_pos h] at e1
    cases e1
    exact True.intro
  · rw [List.getElem?_append_right (by simpa using h), List.length_replicate, List.getElem?_map] at e1 e2
    cases ep : caps[i - own.length]? with
    | none => rw [ep] at e1; cases e1
    | some p =>
      rw [ep] at e1 e2
      have e1 : ((ps[p.2]?).getD .no).out = s := Option.some.inj e1
      have e2 : (σ[p.2]?).getD none = o := Option.some.inj e2
      cases eq : ps[p.2]? with
      | none => rw [eq] at e1; subst e1; exact True.intro
      | some t =>
        obtain ⟨o', eo, q⟩ := R.get eq
        rw [eq] at e1; rw [eo] at e2
        have e2 : o' = o := e2
        subst e2
        subst e1
        cases t with
        | no => exact True.intro
        | v w => obtain ⟨_, v, e, r⟩ := q; exact ⟨v, e, r⟩
        | own x => obtain ⟨p, _, e, r⟩ := q; obtain ⟨o', eo, _⟩ := r.at; exact ⟨_, e, .inr (.inl ⟨x, p, rfl, rfl, r, by show H p ≠ none; rw [eo]; simp⟩)⟩
        | ino x => obtain ⟨_, _, p, e, _, r⟩ := q; obtain ⟨o', eo, _⟩ := r.at; exact ⟨_, e, .inr (.inl ⟨x, p, rfl, rfl, r, by show H p ≠ none; rw [eo]; simp⟩)⟩
        | ini k xs => exact True.intro
        | dol ks xss => exact True.intro
        | als d j => exact True.intro
        | bor w =>
          obtain ⟨_, v, e, r⟩ := q
          refine ⟨v, e, ?_⟩
          rcases r with r | ⟨x, p, e1, e2, r, _⟩ | r
          · exact .inl r
          · obtain ⟨o', eo, _⟩ := r.at
            exact .inr (.inl ⟨x, p, e1, e2, r, by show H p ≠ none; rw [eo]; simp⟩)
          · exact .inr (.inr (r.mono fun _ _ n => n))
end
/-! ### own defs -/
def spG (K : PySem.W.Frag) (G : Pg) (ms : List Bool) (g : List PV → Rx PV) : Sp := fun vs H Q _ => ∃ A ws w, Used H A ∧ RepM K G H A ms ws vs ∧ g ws = .ok w ∧ ∀ v H', Same H H' → Rep K G H' A w v → Q v H'
section
variable {X : Cx} {G : Pg} {e a b o : Expr} {es : List Expr} {da db : DP} {d : DA} {pos p apos : Pos} {x m : Str} {k : Nat} {ms : List Bool} {g : List PV → Rx PV}
theorem p_fn (h : FnAt X.prog X.w X.K X.mg X.base CX0 k x (spG X.K G ms g)) (hr : Room k X.A) (hg : Gl X x) (ha : JA X G ms (e :: es) d) (hdb : (x == ("__debug__" : Str)) = false := by decide)
    (he : starEach (e :: es) X.env = (false, eval e X.env) :: starEach es X.env := by rfl) (hpl : (backTo pos (starEach es X.env)).any (·.1) = false := by rfl) : JP X G (.Call (.Name x p) (e :: es) [] pos) (dCall g d) :=
  imp (pe_fn (E := E0) h hr hg pass0 ha hdb he hpl) fun σ H Q ⟨c, ow, ps, w, R, e, q⟩ => by
    obtain ⟨ws, e1, e2⟩ := bind_ok e
    exact ⟨c, ow, ps, ws, R, e1, fun vs H' s r => ⟨_, ws, w, (R.grow s).used, r, e2, fun v H2 s2 r2 => q v H2 (s.trans s2) r2⟩⟩
/-! ### methods -/
theorem zip_none {f : Str} : ∀ {ns : List Str} {vs : List V}, f ∉ ns → (ns.zip vs).lookup f = none
  | [], vs, _ => rfl
  | n :: ns, [], _ => rfl
  | n :: ns, u :: vs, h => by
    have h1 : (f == n) = false := by
      have : f ≠ n := fun z => h (by rw [z]; exact List.mem_cons_self)
      simpa using this
    rw [List.zip_cons_cons, List.lookup_cons, h1]
    exact zip_none fun z => h (List.mem_cons_of_mem _ z)
structure MtOk (P : Program) (w : World) (K : PySem.W.Frag) (mg : Str → Option Value) (base : Bs) (G : Pg) (k : Nat) (m : Str) (ms : List Bool) (tab : List (Nat × Nat)) (g : Nat → List PV → Rx PV) : Prop where
  all : ∀ c f, tab.lookup c = some f → MethAt P w K mg base CX0 k (G.cA c) m (spG K G (false :: ms) (g f)) ∧ m ∉ G.fN c
def dMeth (tab : List (Nat × Nat)) (g : Nat → List PV → Rx PV) (d : DP) (r : DA) : DP := fun ps => (d ps).bind fun x => match x with
  | .obj c xs => (match tab.lookup c with | some f => (r ps).bind fun ws => g f (.obj c xs :: ws) | none => .bad)
  | _ => .bad
theorem meth_of {tab : List (Nat × Nat)} {g : Nat → List PV → Rx PV} (h : MtOk X.prog X.w X.K X.mg X.base G k m ms tab g) {σ : L2.St} {H : Hp} {Q : VK} (hq : tPv X.K G (dMeth tab g da d) σ H Q) :
    tMethD (ι := { q : Nat × Nat // tab.lookup q.1 = some q.2 }) (fun i => G.cA i.1.1) m (fun i => spG X.K G (false :: ms) (g i.1.2)) E0 (tPv X.K G da) (tPa X.K G ms d) σ H Q := by
  obtain ⟨c, ow, ps, w, R, e, q⟩ := hq
  obtain ⟨x, e1, e2⟩ := bind_ok e
  refine ⟨c, ow, ps, x, R, e1, fun v H' s r => ?_⟩
  cases x with
  | obj kc xs =>
    have e2 : (match tab.lookup kc with | some f => (d ps).bind fun ws => g f (.obj kc xs :: ws) | none => .bad) = .ok w := e2
    split at e2
    · rename_i f hf
      obtain ⟨ws, e3, e4⟩ := bind_ok e2
      obtain ⟨a, dx, vs, ev, hH, hl, na, rs⟩ := id r
      refine ⟨⟨(kc, f), hf⟩, a, dx, _, ev, hH, zip_none (h.all kc f hf).2, c, ow, ps, ws, R.grow s, e3, fun vs2 H2 s2 r2 => ?_⟩
      exact ⟨_, .obj kc xs :: ws, w, ((R.grow s).grow s2).used, ⟨_, _, _, _, rfl, rfl, by rw [if_neg Bool.false_ne_true]; exact r.same s2, r2⟩, e4, fun v3 H3 s3 r3 => q v3 H3 ((s.trans s2).trans s3) r3⟩
    · cases e2
  | _ => cases e2
theorem p_meth {tab : List (Nat × Nat)} {g : Nat → List PV → Rx PV} {pl : Sem Bool} (h : MtOk X.prog X.w X.K X.mg X.base G k m ms tab g) (hr : Room k X.A) (ho : JP X G o da) (ha : JA X G ms (e :: es) d)
    (hst : starEach (e :: es) X.env = (false, eval e X.env) :: starEach es X.env := by rfl) (hpl : (backTo pos (starEach es X.env)).any (·.1) = false := by rfl)
    (ht : eval (.Call (.Attribute o m apos) (e :: es) [] pos) X.env = (do
      let ov ← eval o X.env
      standAt apos.atName
      let (f, first) ← holding [ov] (getMethod ov m pl)
      callWith pos f first (backTo pos (starEach (e :: es) X.env)) (backToKw pos (keywordEach [] X.env))) := by rfl) : JP X G (.Call (.Attribute o m apos) (e :: es) [] pos) (dMeth tab g da d) :=
  imp (pe_methD (ι := { q : Nat × Nat // tab.lookup q.1 = some q.2 }) (pl := pl) ho (fun i => (h.all i.1.1 i.1.2 i.2).1) hr pass0 ha hst hpl ht) fun _ _ _ => meth_of h
/-! ### new instances -/
def dNew (c : Nat) (d : DA) : DP := fun ps => (d ps).bind fun ws => .ok (.obj c ws)
theorem p_new {c : Nat} (h : NewAt X.prog X.w X.K X.mg X.base x (G.cA c) (G.fN c)) (hr : Room (k + 2) X.A) (hg : Gl X x) (ha : JA X G ms (e :: es) d) (hl : (G.fN c).length = ms.length) (hm : ms.all (! ·) = true := by rfl) (hdb : (x == ("__debug__" : Str)) = false := by decide)
    (he : starEach (e :: es) X.env = (false, eval e X.env) :: starEach es X.env := by rfl) (hpl : (backTo pos (starEach es X.env)).any (·.1) = false := by rfl) : JP X G (.Call (.Name x p) (e :: es) [] pos) (dNew c d) :=
  imp (pe_new h hr hg ha hdb he hpl) fun σ H Q ⟨f, ow, ps, w, R, e, q⟩ => by
    obtain ⟨ws, e1, e2⟩ := bind_ok e
    cases e2
    refine ⟨f, ow, ps, ws, R, e1, fun vs H' s r => ⟨by rw [r.len.2, hl], fun y dy n1 n2 ne => ?_⟩⟩
    have sn := newI_same (C := G.cA c) (fs := (G.fN c).zip vs) n1 n2
    exact q _ _ (s.trans sn) ⟨y, dy, vs, rfl, newI_at, by rw [r.len.2, hl], fun z => (R.grow s).used y z n1, (r.reps' hm).same sn⟩
/-! ### targets -/
abbrev DG := PV → PSt → Rx PSt
/-- a frozen value is stored: the heap stays -/
def tG (K : PySem.W.Frag) (G : Pg) (g : DG) : TG := fun v σ H Q => ∃ (c : Fr) (ow : Ows) (ps : PSt) (w : PV) (ps' : PSt), RepS K G c H ow ps σ ∧ Rep K G H (av c ow) w v ∧ g w ps = .ok ps' ∧
  ∀ σ' ow', RepS K G c H ow' ps' σ' → (∀ a, av c ow' a → av c ow a) → Q σ' H
def tGs (K : PySem.W.Frag) (G : Pg) (g : List PV → PSt → Rx PSt) : TGs := fun vs σ H Q => ∃ (c : Fr) (ow : Ows) (ps : PSt) (ws : List PV) (ps' : PSt), RepS K G c H ow ps σ ∧ Reps K G H (av c ow) ws vs ∧ g ws ps = .ok ps' ∧
  ∀ σ' ow', RepS K G c H ow' ps' σ' → (∀ a, av c ow' a → av c ow a) → Q σ' H
abbrev JG (X : Cx) (G : Pg) (t : Expr) (g : DG) : Prop := PG X t (tG X.K G g)
abbrev JGs (X : Cx) (G : Pg) (t : List Expr) (g : List PV → PSt → Rx PSt) : Prop := PGs X t (tGs X.K G g)
theorem impG {e : Expr} {t t' : TG} (h : PG X e t) (f : ∀ v σ H Q, t' v σ H Q → t v σ H Q) : PG X e t' := fun pins s σ H v u Q I r q => h pins s σ H v u Q I r (f v σ H Q q)
theorem impGs {e : List Expr} {t t' : TGs} (h : PGs X e t) (f : ∀ v σ H Q, t' v σ H Q → t v σ H Q) : PGs X e t' := fun pins s σ H v u Q I r q => h pins s σ H v u Q I r (f v σ H Q q)
def gSet (i : Nat) : DG := fun w ps => .ok (ps.set i (.v w))
theorem g_name {i : Nat} (hN : X.N.Nodup) (hi : X.N[i]? = some x) (hx : Loc X.env.scope x) (hf : X.fn x = true ∨ X.env.scope.names.lookup x = some .local := by first | exact .inl rfl | exact .inr rfl | assumption) : JG X G (.Name x pos) (gSet i) :=
  impG (pg_name hN hi hx hf) fun v σ H Q ⟨c, ow, ps, w, ps', R, r, e, q⟩ => by
    cases e
    exact q _ _ (R.setV r) av_off
def gNilD : List PV → PSt → Rx PSt
  | [], ps => .ok ps
  | _ :: _, _ => .bad
def gConsD (g : DG) (gs : List PV → PSt → Rx PSt) : List PV → PSt → Rx PSt
  | w :: ws, ps => (g w ps).bind fun ps' => gs ws ps'
  | [], _ => .bad
theorem gs_nil : JGs X G [] gNilD := impGs pgs_nil fun vs σ H Q ⟨c, ow, ps, ws, ps', R, r, e, q⟩ => by
  cases ws with
  | nil => cases e; exact ⟨r, q σ ow R fun _ z => z⟩
  | cons w ws => cases e
theorem gs_cons {t : Expr} {ts : List Expr} {g : DG} {gs : List PV → PSt → Rx PSt} (h1 : JG X G t g) (h2 : JGs X G ts gs) (hs : (assignEach (t :: ts) X.env).map (·.2) = assign t X.env :: (assignEach ts X.env).map (·.2) := by rfl) : JGs X G (t :: ts) (gConsD g gs) :=
  impGs (pgs_cons h1 h2 hs) fun vs σ H Q ⟨c, ow, ps, ws, ps', R, r, e, q⟩ => by
    cases ws with
    | nil => cases e
    | cons w ws =>
      obtain ⟨v, vr, rfl, r1, r2⟩ := r
      obtain ⟨ps1, e1, e2⟩ := bind_ok e
      refine ⟨v, vr, rfl, c, ow, ps, w, ps1, R, r1, e1, fun σ' ow' R' wk => ?_⟩
      exact ⟨c, ow', ps1, ws, ps', R', (Kp.weak wk).reps r2, e2, fun σ2 ow2 R2 wk2 => q σ2 ow2 R2 fun a z => wk a (wk2 a z)⟩
def gTupD (n : Nat) (gs : List PV → PSt → Rx PSt) : DG := fun w ps => match w with | .tup ws => if ws.length = n then gs ws ps else .bad | _ => .bad
theorem g_tup {ts : List Expr} {j n : Nat} {gs : List PV → PSt → Rx PSt} (hc : X.calm = true) (h : JGs X G ts gs) (hn : (assignEach ts X.env).length = n := by rfl) (hst : (assignEach ts X.env).findIdx? (·.1) = none := by rfl) : JG X G (.Tuple ts j pos) (gTupD n gs) :=
  impG (pg_tup hc h hn hst) fun v σ H Q ⟨c, ow, ps, w, ps', R, r, e, q⟩ => by
    cases w with
    | tup ws =>
      have e : (if ws.length = n then gs ws ps else .bad) = .ok ps' := e
      split at e
      · rename_i hl
        obtain ⟨a, vs, rfl, sq, rs⟩ := r
        exact ⟨a, vs, rfl, SqT.of sq, by rw [← rs.len]; exact hl, c, ow, ps, ws, ps', R, rs, e, q⟩
      · cases e
    | _ => cases e
end
end DN
end
section
set_option Elab.async false
set_option linter.all false
set_option maxRecDepth 100000
set_option maxHeartbeats 4000000
namespace DN
open PySem PySem.Spec PyProof.Rows L2
/-! ### what is walked -/
/-- J yields vs, as long as frozen things stay -/
def Wk (K : PySem.W.Frag) (G : Pg) (c : Fr) (J : It) (H : Hp) (A : Av) (vs : List V) : Prop := ∀ H' A', Kp K G H A H' A' → SmL c H' →
  (∀ (i : Nat) (x : V), vs[i]? = some x → J.go i H' ∧ ∀ y H2, J.yld i H' y H2 → H2 = H' ∧ y = x) ∧ J.stop vs.length H'
def WkS (J : It) (H : Hp) (vs : List V) : Prop := ∀ H', Same H H' → (∀ (i : Nat) (x : V), vs[i]? = some x → J.go i H' ∧ ∀ y H2, J.yld i H' y H2 → H2 = H' ∧ y = x) ∧ J.stop vs.length H'
def tPi (K : PySem.W.Frag) (G : Pg) (d : DA) : TI := fun σ H R => ∃ (c : Fr) (ow : Ows) (ps : PSt) (ws : List PV), RepS K G c H ow ps σ ∧ d ps = .ok ws ∧ ∀ J H' vs, Same H H' → Reps K G H' (av c ow) ws vs → Wk K G c J H' (av c ow) vs → R J H'
def tPs (K : PySem.W.Frag) (G : Pg) (d : DA) : TI := fun σ H R => ∃ (c : Fr) (ow : Ows) (ps : PSt) (ws : List PV), RepS K G c H ow ps σ ∧ d ps = .ok ws ∧ ∀ J H' vs, Same H H' → Reps K G H' (av c ow) ws vs → WkS J H' vs → R J H'
abbrev JI (X : Cx) (G : Pg) (tg it : Expr) (d : DA) : Prop := PI X tg it (tPi X.K G d)
abbrev JIs (X : Cx) (G : Pg) (tg it : Expr) (d : DA) : Prop := PI X tg it (tPs X.K G d)
section
variable {X : Cx} {G : Pg} {e a b o tg : Expr} {es : List Expr} {da db : DP} {d : DA} {pos p apos : Pos} {x m : Str} {k : Nat} {ms : List Bool}
theorem impI {it : Expr} {t t' : TI} (h : PI X tg it t) (f : ∀ σ H R, t' σ H R → t σ H R) : PI X tg it t' := fun pins s σ H R I q => h pins s σ H R I (f σ H R q)
def dItems (d : DP) : DA := fun ps => (d ps).bind fun x => match x with | .lst xs => .ok xs | _ => .bad
def dItemsT (d : DP) : DA := fun ps => (d ps).bind fun x => match x with | .tup xs => .ok xs | _ => .bad
theorem it_list {K : PySem.W.Frag} {a : Addr} {vs : List V} {H : Hp} (h : SqL K H a vs) : (∀ (i : Nat) (x : V), vs[i]? = some x → (Itl K a).go i H ∧ ∀ y H2, (Itl K a).yld i H y H2 → H2 = H ∧ y = x) ∧ (Itl K a).stop vs.length H :=
  ⟨fun i x e => ⟨⟨vs, x, h, e⟩, fun y H2 ⟨e2, hy⟩ => ⟨e2, Option.some.inj ((hy vs h).symm.trans e)⟩⟩, ⟨vs, h, Nat.le_refl _⟩⟩
theorem it_tup {K : PySem.W.Frag} {a : Addr} {vs : List V} {H : Hp} (h : SqT K H a vs) : (∀ (i : Nat) (x : V), vs[i]? = some x → (Itt K a).go i H ∧ ∀ y H2, (Itt K a).yld i H y H2 → H2 = H ∧ y = x) ∧ (Itt K a).stop vs.length H :=
  ⟨fun i x e => ⟨⟨vs, x, h, e⟩, fun y H2 ⟨e2, hy⟩ => ⟨e2, Option.some.inj ((hy vs h).symm.trans e)⟩⟩, ⟨vs, h, Nat.le_refl _⟩⟩
theorem i_list (h : JP X G e da) : JI X G tg e (dItems da) := impI (pi_list h) fun σ H R ⟨c, ow, ps, ws, S, e, q⟩ => by
  obtain ⟨x, e1, e2⟩ := bind_ok e
  refine ⟨c, ow, ps, x, S, e1, fun v H' s r => ?_⟩
  split at e2
  · cases e2
    obtain ⟨a, vs, rfl, rd, rs⟩ := r
    exact ⟨a, rfl, ⟨vs, rd.sq⟩, q _ H' vs s rs fun H2 A2 k _ => it_list (k.rdL rd).sq⟩
  · cases e2
def dItemsB (i : Nat) : DA := fun ps => match ps[i]? with | some (.bor (.lst xs)) => .ok xs | _ => .bad
theorem s_list (h : JB X G e da) : JIs X G tg e (dItems da) := impI (pi_list h) fun σ H R ⟨c, ow, ps, ws, S, e, q⟩ => by
  obtain ⟨x, e1, e2⟩ := bind_ok e
  refine ⟨c, ow, ps, x, S, e1, fun v H' s r => ?_⟩
  split at e2
  · cases e2
    obtain ⟨a, vs, rfl, rd, rs⟩ := r.lst
    exact ⟨a, rfl, ⟨vs, rd⟩, q _ H' vs s rs fun H2 k => it_list (k.seq rd)⟩
  · cases e2
/-- a tuple of the top -/
theorem i_topT {x : Str} {t : Addr} {ws : List PV} {vs : List V} (T : TopT X.K t vs) (hg : Gl X x) (hm : X.mg x = some (.ref t)) (hr : ∀ H A, Reps X.K G H A ws vs) (hd : (x == ("__debug__" : Str)) = false := by decide) : JI X G tg (.Name x pos) (dItemsT (dC (.tup ws))) :=
  impI (pi_tup (pe_globR hg hm hd)) fun σ H R ⟨c, ow, ps, ws', S, e, q⟩ => by
    cases e
    exact ⟨t, rfl, ⟨vs, T.sq H⟩, q _ H vs (Same.refl H) (hr H _) fun H2 A2 k _ => it_tup (T.sq H2)⟩
theorem s_of_i (h : JI X G tg e d) : JIs X G tg e d := impI h fun σ H R ⟨c, ow, ps, ws, S, e, q⟩ => ⟨c, ow, ps, ws, S, e, fun J H' vs s rs w => q J H' vs s rs fun H2 k => w H2 _ (Kp.of_same k) (S.grow (s.trans k)).same⟩
def rngP (lo : Int) (n : Nat) : List PV := (List.range n).map fun (i : Nat) => PV.int (lo + (i : Int))
theorem rng_reps {K : PySem.W.Frag} {H : Hp} {A : Av} {lo : Int} {n : Nat} : Reps K G H A (rngP lo n) (rngV lo n) := by
  unfold rngP rngV
  generalize List.range n = l
  induction l with
  | nil => rfl
  | cons x xs ih => exact ⟨_, _, rfl, rfl, ih⟩
theorem it_rng {lo : Int} {n : Nat} {H : Hp} : (∀ (i : Nat) (x : V), (rngV lo n)[i]? = some x → (Itr lo n).go i H ∧ ∀ y H2, (Itr lo n).yld i H y H2 → H2 = H ∧ y = x) ∧ (Itr lo n).stop (rngV lo n).length H := by
  refine ⟨fun i x e => ?_, by show n ≤ (rngV lo n).length; rw [rngV_len]; exact Nat.le_refl _⟩
  have h := (List.getElem?_eq_some_iff.mp e).1
  rw [rngV_len] at h
  rw [rngV_at h] at e
  exact ⟨h, fun y H2 ⟨e2, hy⟩ => ⟨e2, hy.trans (Option.some.inj e)⟩⟩
def dRng1 (d : DA) : DA := fun ps => (d ps).bind fun ws => match ws with | [.int j] => if -(2 ^ 62) ≤ j ∧ j < 2 ^ 62 then .ok (rngP 0 j.toNat) else .bad | _ => .bad
def dRng2 (d : DA) : DA := fun ps => (d ps).bind fun ws => match ws with | [.int i, .int j] => if -(2 ^ 62) ≤ i ∧ i < 2 ^ 62 ∧ -(2 ^ 62) ≤ j ∧ j < 2 ^ 62 then .ok (rngP i (j - i).toNat) else .bad | _ => .bad
theorem i_rng1 {ea : Expr} (hg : Gl X "range") (hm : X.mg "range" = none) (ha : JA X G [false] [ea] d) (hs : starEach [ea] X.env = [(false, eval ea X.env)] := by rfl) : JI X G tg (.Call (.Name "range" p) [ea] [] pos) (dRng1 d) :=
  impI (pi_range1 hg hm ha hs) fun σ H R ⟨c, ow, ps, ws, S, e, q⟩ => by
    obtain ⟨xs, e1, e2⟩ := bind_ok e
    refine ⟨c, ow, ps, xs, S, e1, fun vs H' s r => ?_⟩
    split at e2
    · split at e2
      · rename_i j hj
        cases e2
        obtain ⟨v, vr, rfl, r1, rfl⟩ := RepM.reps' r rfl
        exact ⟨j, by rw [show v = V.int j from r1], hj.1, hj.2, q _ H' _ s rng_reps fun _ _ _ _ => it_rng⟩
      · cases e2
    · cases e2
theorem i_rng2 {ea eb : Expr} (hg : Gl X "range") (hm : X.mg "range" = none) (ha : JA X G [false, false] [ea, eb] d) (hs : starEach [ea, eb] X.env = [(false, eval ea X.env), (false, eval eb X.env)] := by rfl) (hs2 : starEach [eb] X.env = [(false, eval eb X.env)] := by rfl) : JI X G tg (.Call (.Name "range" p) [ea, eb] [] pos) (dRng2 d) :=
  impI (pi_range2 hg hm ha hs hs2) fun σ H R ⟨c, ow, ps, ws, S, e, q⟩ => by
    obtain ⟨xs, e1, e2⟩ := bind_ok e
    refine ⟨c, ow, ps, xs, S, e1, fun vs H' s r => ?_⟩
    split at e2
    · split at e2
      · rename_i i j hj
        cases e2
        obtain ⟨v, vr, rfl, r1, v', vr', rfl, r2, rfl⟩ := RepM.reps' r rfl
        exact ⟨i, j, by rw [show v = V.int i from r1, show v' = V.int j from r2], hj, q _ H' _ s rng_reps fun _ _ _ _ => it_rng⟩
      · cases e2
    · cases e2
abbrev JTs (X : Cx) (G : Pg) (ifs : List Expr) (d : DT) : Prop := PTs X ifs (tPt X.K G d)
def dYes : DT := fun _ => .ok true
theorem ts_nil : JTs X G [] dYes := fun pins s σ H Q I h => pts_nil pins s σ H Q I (by
  obtain ⟨c, ow, ps, b, R, e, q⟩ := h
  cases e
  exact q H (Same.refl H))
def compD (g : DG) (dt : DT) (de : DP) : List PV → PSt → Rx (List PV)
  | [], _ => .ok []
  | x :: xs, ps => (g x ps).bind fun ps1 => (dt ps1).bind fun b => if b = true then (de ps1).bind fun y => (compD g dt de xs ps1).bind fun r => .ok (y :: r) else compD g dt de xs ps1
def dComp (own : List Str) (caps : List (Str × Nat)) (di : DA) (g : DG) (dt : DT) (de : DP) : DA := fun ps => (di ps).bind fun ws => if ws.length ≤ sizeLine then compD g dt de ws (capP own caps ps) else .bad
theorem comp_go {own : List Str} {caps : List (Str × Nat)} {di : DA} {g : DG} {dt : DT} {de : DP} (gk : ∀ (w : PV) (ps ps' : PSt), g w ps = .ok ps' → ∀ (i : Nat) (x : Ow), ps'[i]? = some (Sl.own x) → ps[i]? = some (Sl.own x)) {σ : L2.St} {H : Hp} {Q : VK}
    (h : tPn X.K G (dComp own caps di g dt de) σ H Q) : tComp own caps (tPs X.K G di) (tG X.K G g) (tPt X.K G dt) (tPv X.K G de) σ H Q := by
  obtain ⟨c, ow, ps, rs, R, e, q⟩ := h
  obtain ⟨ws, e1, e2⟩ := bind_ok e
  split at e2
  · rename_i hsz
    refine ⟨c, ow, ps, ws, R, e1, fun J H1 vs s1 rep wk => ?_⟩
    intro D hD
    have R1 := R.grow s1
    have hD0 : H D = none := s1.free hD
    let AD : Av := fun a => av c ow a ∨ a = D
    let B1 : Av := fun p => H1 p ≠ none
    have usedB : ∀ {H' : Hp}, Same H1 H' → Used H' B1 := fun {H'} s a z => by
      cases e3 : H1 a with
      | none => exact absurd e3 z
      | some o => rw [s _ _ e3]; simp
    have usedD : ∀ {H' : Hp}, Same H1 H' → H' D ≠ none → Used H' AD := by
      intro H' s hd a z
      rcases z with z | z
      · cases e3 : H1 a with
        | none => exact absurd e3 (R1.used a z)
        | some o => rw [s _ _ e3]; simp
      · rw [z]; exact hd
    refine ⟨fun i m σ' H' => ∃ (ps' : PSt) (ys : List PV) (us : List V) (rest : List PV), m = ws.length - i ∧ i ≤ ws.length ∧ RepF X.K G B1 H' AD ps' σ' ∧ (∀ (j : Nat) (x : Ow), ps'[j]? ≠ some (Sl.own x)) ∧ Same H1 H' ∧ Reps X.K G H' AD ws vs ∧ H' D = some (.lst us) ∧ Reps X.K G H' AD ys us ∧ ys.length ≤ i ∧
        compD g dt de (ws.drop i) ps' = .ok rest ∧ ys ++ rest = rs, ?_, ?_⟩
    · have sD : Same H1 (upd H1 D (.lst [])) := same_upd hD _
      have k : Kp X.K G H1 (av c ow) (upd H1 D (.lst [])) AD := Kp.take hD sD fun a z => z.symm
      have F0 := R1.caps own caps
      refine ⟨_, capP own caps ps, [], [], rs, rfl, Nat.zero_le _, ⟨F0.len, fun i s o h1 h2 => ?_⟩, fun j x z => ?_, sD, k.reps rep, upd_same, rfl, Nat.le_refl _, e2, rfl⟩
      · have q := F0.slot i s o h1 h2
        cases s with
        | no => exact True.intro
        | v w => obtain ⟨v, e, r⟩ := q; exact ⟨v, e, k.rep r⟩
        | own x => exact q.elim
        | ino x => exact q.elim
        | ini k xs => exact q.elim
        | dol ks xss => exact q.elim
        | als d j => exact q.elim
        | bor w =>
          obtain ⟨v, e, r⟩ := q
          refine ⟨v, e, ?_⟩
          rcases r with r | ⟨x, p, e1, e2, r, n⟩ | r
          · exact .inl (k.rep r)
          · obtain ⟨o', eo, _⟩ := r.at
            exact .inr (.inl ⟨x, p, e1, e2, r.keep k (by rw [sD _ _ eo, eo]), n⟩)
          · exact .inr (.inr (r.keep k fun p _ n => by
              cases e : H1 p with
              | none => exact absurd e n
              | some o => exact sD _ _ e))
      · have hl : j < (capP own caps ps).length := (List.getElem?_eq_some_iff.mp z).1
        have hl2 : j < (capS own caps σ).length := by rw [← F0.len]; exact hl
        exact (F0.slot j _ _ z (List.getElem?_eq_getElem hl2)).elim
    · rintro i m σ' H' ⟨ps', ys, us, rest, rfl, hi', F, no, sm, rep', hH, ry, hy, ec, er⟩
      have lv := rep'.len
      have wk' := wk H' sm
      rcases Nat.lt_or_ge i ws.length with hlt | hge
      · right
        have hdr : ws.drop i = ws[i] :: ws.drop (i + 1) := List.drop_eq_getElem_cons hlt
        rw [hdr] at ec
        have hgi : ws[i]? = some ws[i] := List.getElem?_eq_getElem hlt
        obtain ⟨v, hv, rv⟩ := rep'.get hgi
        obtain ⟨go, yl⟩ := wk'.1 i v hv
        refine ⟨go, _, fun _ _ h => h, fun y H2 hyl => ?_⟩
        obtain ⟨rfl, rfl⟩ := yl y H2 hyl
        obtain ⟨ps1, c1, ec⟩ := bind_ok ec
        obtain ⟨bb, c2, ec⟩ := bind_ok ec
        have u' : Used H2 AD := usedD sm (by rw [hH]; simp)
        have S' := F.toS u' (usedB sm)
        have kav : Kp X.K G H2 AD H2 (av ⟨H2, AD, B1, none⟩ ow0) := Kp.weak fun a z => av0 a z
        refine ⟨⟨H2, AD, B1, none⟩, ow0, ps', ws[i], ps1, S', kav.rep rv, c1, fun σ3 ow3 S3 wk3 => ?_⟩
        have no1 : ∀ (j : Nat) (x : Ow), ps1[j]? ≠ some (Sl.own x) := fun j x z => no j x (gk _ _ _ c1 j x z)
        have eow : ow3 = ow0 := by
          funext j
          cases q : ow3 j with
          | none => rfl
          | some p' => exact absurd (S3.fresh j p' q) (S3.a0 p' (av0 p' (wk3 p' (.inr ⟨j, q⟩))))
        subst eow
        refine ⟨⟨H2, AD, B1, none⟩, ow0, ps1, bb, S3, c2, fun H4 s4 => ?_⟩
        have S4 := S3.grow s4
        have aft : ∀ {H5 : Hp}, Same H2 H5 → RepF X.K G B1 H5 AD ps1 σ3 := fun s5 => RepF.ofS (S3.grow s5) rfl
        split at ec
        · rename_i hb
          subst hb
          refine iteT ?_
          obtain ⟨yw, c3, ec⟩ := bind_ok ec
          obtain ⟨r', c4, ec⟩ := bind_ok ec
          cases ec
          refine ⟨⟨H2, AD, B1, none⟩, ow0, ps1, yw, S4, c3, fun yv H5 s5 r5 => ?_⟩
          have s25 := s4.trans s5
          have hH5 : H5 D = some (.lst us) := s25 _ _ hH
          have r5' : Rep X.K G H5 AD yw yv := (Kp.weak fun a z => Or.inl z).rep r5
          have mD : Mt (HO.lst us) := And.intro (fun _ z => by cases z) (fun _ _ z => by cases z)
          have kD : ∀ u, Kp X.K G H5 AD (upd H5 D u) AD := fun u => Kp.own (.inr rfl) hH5 mD
          have F5 := aft s25
          refine ⟨us, hH5, ?_, ws.length - (i + 1), by omega, ps1, ys ++ [yw], us ++ [yv], r', rfl, hlt, ⟨F5.len, fun j s o h1 h2 => ?_⟩, no1, fun b u hb => ?_, (kD _).reps (rep'.same s25), upd_same, (kD _).reps ((ry.same s25).snoc r5'), by rw [List.length_append]; simp; omega, c4, by rw [← er, List.append_assoc]; rfl⟩
          · rw [← ry.len]; omega
          · have q := F5.slot j s o h1 h2
            cases s with
            | no => exact True.intro
            | v w => obtain ⟨v, e, r⟩ := q; exact ⟨v, e, (kD _).rep r⟩
            | own x => exact q.elim
            | ino x => exact q.elim
            | ini k xs => exact q.elim
            | dol ks xss => exact q.elim
            | als d j => exact q.elim
            | bor w =>
              obtain ⟨v, e, r⟩ := q
              refine ⟨v, e, ?_⟩
              rcases r with r | ⟨x, p', e1', e2', r, n⟩ | r
              · exact .inl ((kD _).rep r)
              · exact .inr (.inl ⟨x, p', e1', e2', r.keep (kD _) (upd_ne (by intro z; subst z; exact n hD)), n⟩)
              · exact .inr (.inr (r.keep (kD _) fun p' n _ => upd_ne (by intro z; subst z; exact n hD)))
          · rw [upd_ne (ne_of_none hb hD)]; exact s25 _ _ (sm _ _ hb)
        · rename_i hb
          have : bb = false := by simpa using hb
          subst this
          exact iteF ⟨ws.length - (i + 1), by omega, ps1, ys, us, rest, rfl, hlt, aft s4, no1, sm.trans s4, rep'.same s4, s4 _ _ hH, ry.same s4, by omega, ec, er⟩
      · left
        have : i = ws.length := Nat.le_antisymm hi' hge
        subst this
        rw [List.drop_length] at ec
        cases ec
        rw [List.append_nil] at er
        subst er
        refine ⟨by rw [lv]; exact wk'.2, q D us H' (s1.trans sm) hD0 hH ry⟩
  · cases e2
theorem n_comp {elt iter : Expr} {ifs : List Expr} {scope : Scope} {own : List Str} {caps : List (Str × Nat)} {di : DA} {g : DG} {dt : DT} {de : DP} (S : CompScope X scope own caps) (hc : X.calm = true) (hi : JIs X G tg iter di)
    (hg : ∀ C s₀ H₀ fp, JG (cxB X scope C (capN own caps) s₀ H₀ fp) G tg g) (ht : ∀ C s₀ H₀ fp, JTs (cxB X scope C (capN own caps) s₀ H₀ fp) G ifs dt) (he : ∀ C s₀ H₀ fp, JP (cxB X scope C (capN own caps) s₀ H₀ fp) G elt de)
    (gk : ∀ (w : PV) (ps ps' : PSt), g w ps = .ok ps' → ∀ (i : Nat) (x : Ow), ps'[i]? = some (Sl.own x) → ps[i]? = some (Sl.own x))
    (hs : ∀ x, foldedSetIterable iter X.env x = pure x := by intro _; rfl) : JN X G (.ListComp elt [⟨tg, iter, ifs, 0⟩] scope pos) (dComp own caps di g dt de) :=
  imp (pe_comp (wi := tPs X.K G di) (g := tG X.K G g) (tc := tPt X.K G dt) (te := tPv X.K G de) S hc hi hg ht he hs) fun σ H Q h => comp_go gk h
end
end DN
end
section
set_option Elab.async false
set_option linter.all false
set_option maxRecDepth 100000
set_option maxHeartbeats 4000000
namespace DN
open PySem PySem.Spec PyProof.Rows L2
section
variable {X : Cx} {G : Pg} {e a b o tg : Expr} {es : List Expr} {da db : DP} {d : DA} {dm : DM} {dma : DMA} {pos p apos cpos : Pos} {x m : Str} {k i : Nat} {ms : List Bool}
/-! ### expressions that change things of one's own -/
def mNil : DMA := fun ps => .ok ([], ps)
def mCons (a : DM) (r : DMA) : DMA := fun ps => (a ps).bind fun x => (r x.2).bind fun y => .ok (x.1 :: y.1, y.2)
theorem ma_nil : JMA X G [] mNil := impA pa_nil fun σ H Q ⟨c, ow, ps, ws, ps', R, e, q⟩ => by
  cases e
  exact q [] H ow R (Kp.of_same (Same.refl H)) rfl
theorem ma_cons (ha : JM X G e dm) (hr : JMA X G es dma) (hs : starEach (e :: es) X.env = (false, eval e X.env) :: starEach es X.env := by rfl) : JMA X G (e :: es) (mCons dm dma) :=
  impA (pa_cons ha hr hs) fun σ H Q ⟨c, ow, ps, ws, ps', R, e, q⟩ => by
    obtain ⟨⟨x, p1⟩, e1, e⟩ := bind_ok e
    obtain ⟨⟨xs, p2⟩, e2, e⟩ := bind_ok e
    cases e
    refine ⟨c, ow, ps, x, p1, R, e1, fun v H1 ow1 R1 k1 r1 => ⟨c, ow1, p1, xs, p2, R1, e2, fun vs H2 ow2 R2 k2 r2 => ?_⟩⟩
    exact q (v :: vs) H2 ow2 R2 (k1.trans k2) ⟨v, vs, rfl, k2.rep r1, r2⟩
def mTup (d : DMA) : DM := fun ps => (d ps).bind fun x => if x.1.length ≤ 1000 then .ok (.tup x.1, x.2) else .bad
theorem m_tup {x1} (h : JMA X G es dma) : JM X G (.Tuple es x1 pos) (mTup dma) := imp (pe_tup h) fun σ H Q ⟨c, ow, ps, w, ps', R, e, q⟩ => by
  obtain ⟨⟨ws, p1⟩, e1, e⟩ := bind_ok e
  split at e
  · rename_i hl
    cases e
    refine ⟨c, ow, ps, ws, p1, R, e1, fun vs H1 ow1 R1 k1 r1 => ⟨?_, fun p hp => ?_⟩⟩
    · rw [← r1.len]; exact Nat.le_of_lt (small1000 hl)
    · have s := same_upd hp (.tup vs)
      exact q _ _ ow1 (R1.grow s) (k1.trans (Kp.of_same s)) ⟨p, vs, rfl, upd_same, r1.same s⟩
  · cases e
def mPop (i : Nat) : DM := fun ps => match ps[i]? with
  | some (.own (.lst xs)) => (match xs.getLast? with | some w => .ok (w, ps.set i (.own (.lst xs.dropLast))) | none => .bad)
  | _ => .bad
theorem Reps.dropLast {K : PySem.W.Frag} {H : Hp} {A : Av} {ws : List PV} {vs : List V} (r : Reps K G H A ws vs) : Reps K G H A ws.dropLast vs.dropLast := by
  rw [List.dropLast_eq_take, List.dropLast_eq_take, r.len]
  exact r.take _
def mApp (i : Nat) (d : DM) : DM := fun ps => match ps[i]? with
  | some (.own (.lst _)) => (d ps).bind fun x => (match x.2[i]? with | some (.own (.lst xs)) => if xs.length < sizeLine then .ok (.non, x.2.set i (.own (.lst (xs ++ [x.1])))) else .bad | _ => .bad)
  | _ => .bad
theorem m_app (i : Nat) (he : JM X G e dm) (hline : (apos.endLine == cpos.line) = true := by rfl) (hN : X.N[i]? = some x := by rfl) (hv : Vis X.env.scope x := by first | exact Or.inl rfl | exact Or.inr (Or.inl rfl) | exact Or.inr (Or.inr rfl)) (hd : (x == ("__debug__" : Str)) = false := by decide)
    (hcd : (x == ("__classdict__" : Str)) = false := by decide) (hst : starEach [e] X.env = (false, eval e X.env) :: starEach [] X.env := by rfl) (hbase : attributeBase (.Name x pos) "append" X.env (eval (.Name x pos) X.env) = eval (.Name x pos) X.env := by rfl)
    (hpl : (backTo cpos (starEach ([] : List Expr) X.env)).any (·.1) = false := by rfl)
    (hfew : ((backTo cpos (starEach [e] X.env)).all (fun x => !x.1) && (backToKw cpos (keywordEach [] X.env)).all (fun x => x.1.isSome) && decide (([e] : List Expr).length + ([] : List Keyword).length + (if ([] : List Keyword).isEmpty then 0 else 1) < 30)) = true := by rfl) :
    JM X G (.Call (.Attribute (.Name x pos) "append" apos) [e] [] cpos) (mApp i dm) :=
  imp (pe_bm PySem.F.plainAttrs_list PySem.F.slot_list_append PySem.F.type_list_append mt_append (pe_var hN hv hd hcd) (pa_cons he pa_nil hst) hbase hfew hline hst hpl) fun σ H Q ⟨c, ow, ps, w, ps', R, e, q⟩ => by
    unfold mApp at e
    split at e
    · rename_i xs0 hx0
      obtain ⟨⟨w1, p1⟩, e1, e⟩ := bind_ok e
      split at e
      · rename_i xs hx
        split at e
        · rename_i hl
          cases e
          obtain ⟨p0, e2, e3, vs0, hH0, _⟩ := R.getO hx0
          refine ⟨.ref p0, e3, .inl ⟨rfl, _, SqL.of hH0⟩, c, ow, ps, w1, p1, R, e1, fun v H1 ow1 R1 k1 r1 => ?_⟩
          obtain ⟨p, e4, e5, vs, hH, rs⟩ := R1.getO hx
          rw [e3] at e5; cases e5
          have mD : Mt (HO.lst vs) := And.intro (fun _ z => by cases z) (fun _ _ z => by cases z)
          have k0 : Kp X.K G H1 (av c ow1) (upd H1 p0 (.lst (vs ++ [v]))) (av c ow1) := Kp.own (.inr ⟨i, e4⟩) hH mD
          have := R1.chg (y := .lst (xs ++ [w1])) (u := .lst (vs ++ [v])) hx e4 ⟨_, upd_same, k0.reps (rs.snoc r1)⟩
          exact ⟨p0, vs, v, rfl, rfl, hH, by rw [← rs.len]; exact hl, q .non _ ow1 this.1 (k1.trans this.2) rfl⟩
        · cases e
      · cases e
    · cases e
/-- the slot's own thing is handed on, frozen from now on -/
def mFrz (i : Nat) : DM := fun ps => match ps[i]? with
  | some (.own y) => .ok (y.pv, ps.set i (.v y.pv))
  | some (.v w) => .ok (w, ps)
  | _ => .bad
theorem m_frz (i : Nat) (hN : X.N[i]? = some x := by rfl) (hv : Vis X.env.scope x := by first | exact Or.inl rfl | exact Or.inr (Or.inl rfl) | exact Or.inr (Or.inr rfl)) (hd : (x == ("__debug__" : Str)) = false := by decide)
    (hcd : (x == ("__classdict__" : Str)) = false := by decide) : JM X G (.Name x pos) (mFrz i) := imp (pe_var hN hv hd hcd) fun σ H Q ⟨c, ow, ps, w, ps', R, e, q⟩ => by
  unfold mFrz at e
  split at e
  · rename_i y hy
    cases e
    obtain ⟨p, e1, R', r', k'⟩ := R.frz hy
    exact ⟨_, e1, q _ H _ R' k' r'⟩
  · rename_i w' hw
    cases e
    obtain ⟨v, ev, r⟩ := R.getV hw
    exact ⟨v, ev, q v H ow R (Kp.of_same (Same.refl H)) r⟩
  · cases e
/-- f(..), an argument of which changes things of one's own, or is handed on -/
def mCall (f : List PV → Rx PV) (d : DMA) : DM := fun ps => (d ps).bind fun x => (f x.1).bind fun w => .ok (w, x.2)
end
theorem av_on {c : Fr} {ow : Ows} {i : Nat} {p : Addr} : ∀ a, av c (onW ow i p) a → a = p ∨ av c ow a := by
  intro a h
  rcases h with h | ⟨j, h⟩
  · exact .inr (.inl h)
  · unfold onW at h
    split at h
    · cases h; exact .inl rfl
    · exact .inr (.inr ⟨j, h⟩)
/-! ### statements -/
inductive Rs where
  | nx (ps : PSt) | ret (w : PV) | retn (xs : List PV) | reti (w : PV) (x : Ow) | brk (ps : PSt) | cnt (ps : PSt) | bad | exc (c : Nat)
abbrev DS := PSt → Rs
def EndsAt (K : PySem.W.Frag) (G : Pg) (c : Fr) (H : Hp) (A : Av) (D : Ends) : Rs → Prop
  | .nx ps => ∀ σ H' ow, RepS K G c H' ow ps σ → Kp K G H A H' (av c ow) → D.nx σ H'
  | .ret w => ∀ v H', SmL c H' → Rep K G H' c.A0 w v → D.rt v H'
  | .reti w x => ∀ v H' p, SmL c H' → c.lx = some p → RepO K G H' c.A0 x p → Rep K G H' c.A0 w v → D.rt v H'
  | .retn xs => ∀ p vs H', SmL c H' → c.H0 p = none → H' p = some (.lst vs) → Reps K G H' (fun a => c.A0 a ∨ a = p) xs vs → D.rt (.ref p) H'
  | .brk ps => ∀ σ H' ow, RepS K G c H' ow ps σ → Kp K G H A H' (av c ow) → D.bk σ H'
  | .cnt ps => ∀ σ H' ow, RepS K G c H' ow ps σ → Kp K G H A H' (av c ow) → D.ct σ H'
  | .bad => False
  | .exc _ => False
theorem EndsAt.mono {K : PySem.W.Frag} {G : Pg} {c : Fr} {H H1 : Hp} {A A1 : Av} {D : Ends} {r : Rs} (h : EndsAt K G c H A D r) (k : Kp K G H A H1 A1) : EndsAt K G c H1 A1 D r := by
  cases r with
  | nx ps => exact fun σ H' ow R k' => h σ H' ow R (k.trans k')
  | ret w => exact h
  | retn xs => exact h
  | reti w x => exact h
  | brk ps => exact fun σ H' ow R k' => h σ H' ow R (k.trans k')
  | cnt ps => exact fun σ H' ow R k' => h σ H' ow R (k.trans k')
  | bad => exact h
  | exc c => exact h
def tD (K : PySem.W.Frag) (G : Pg) (d : DS) : TS := fun D σ H => ∃ (c : Fr) (ow : Ows) (ps : PSt), RepS K G c H ow ps σ ∧ EndsAt K G c H (av c ow) D (d ps)
abbrev JS (X : Cx) (G : Pg) (st : Stmt) (d : DS) : Prop := PS X st (tD X.K G d)
abbrev JSs (X : Cx) (G : Pg) (st : List Stmt) (d : DS) : Prop := PSs X st (tD X.K G d)
theorem impS {X : Cx} {st : Stmt} {t t' : TS} (h : PS X st t) (f : ∀ D σ H, t' D σ H → t D σ H) : PS X st t' := fun pins s σ H D I q => h pins s σ H D I (f D σ H q)
theorem impSs {X : Cx} {st : List Stmt} {t t' : TS} (h : PSs X st t) (f : ∀ D σ H, t' D σ H → t D σ H) : PSs X st t' := fun pins s σ H D I q => h pins s σ H D I (f D σ H q)
def Rx.st {α : Type} : Rx α → (α → Rs) → Rs
  | .ok a, f => f a
  | .bad, _ => .bad
  | .exc c, _ => .exc c
@[simp] theorem ok_st {α : Type} (a : α) (f : α → Rs) : (Rx.ok a).st f = f a := rfl
@[simp] theorem bad_st {α : Type} (f : α → Rs) : (Rx.bad : Rx α).st f = .bad := rfl
@[simp] theorem exc_st {α : Type} (c : Nat) (f : α → Rs) : (Rx.exc c : Rx α).st f = .exc c := rfl
theorem ends_st {α : Type} {K : PySem.W.Frag} {G : Pg} {c : Fr} {H : Hp} {A : Av} {D : Ends} {m : Rx α} {f : α → Rs} (h : EndsAt K G c H A D (m.st f)) : ∃ a, m = .ok a ∧ EndsAt K G c H A D (f a) := by
  cases m with
  | ok a => exact ⟨a, rfl, h⟩
  | bad => exact h.elim
  | exc c => exact h.elim
section
variable {X : Cx} {G : Pg} {e a b o tg : Expr} {es : List Expr} {da db : DP} {d : DA} {dm : DM} {ds du : DS} {st : Stmt} {rest : List Stmt} {pos p : Pos} {x m : Str} {k i : Nat}
def sNext : DS := fun ps => .nx ps
def sSeq (a b : DS) : DS := fun ps => match a ps with | .nx ps' => b ps' | r => r
theorem ss_nil : JSs X G [] sNext := impSs pss_nil fun D σ H ⟨c, ow, ps, R, q⟩ => q σ H ow R (Kp.of_same (Same.refl H))
theorem ss_one (h : JS X G st ds) : JSs X G [st] ds := pss_one h
theorem ss_cons (h1 : JS X G st ds) (h2 : JSs X G rest du) : JSs X G (st :: rest) (sSeq ds du) := impSs (pss_cons h1 h2) fun D σ H ⟨c, ow, ps, R, q⟩ => by
  refine ⟨c, ow, ps, R, ?_⟩
  unfold sSeq at q
  cases e : ds ps with
  | nx ps' => rw [e] at q; exact fun σ' H' ow' R' k => ⟨c, ow', ps', R', q.mono k⟩
  | ret w => rw [e] at q; exact q
  | retn xs => rw [e] at q; exact q
  | reti w x => rw [e] at q; exact q
  | brk ps' => rw [e] at q; exact q
  | cnt ps' => rw [e] at q; exact q
  | bad => rw [e] at q; exact q
  | exc c => rw [e] at q; exact q
def sBrk : DS := fun ps => .brk ps
def sCnt : DS := fun ps => .cnt ps
def sSet (i : Nat) (d : DP) : DS := fun ps => (d ps).st fun w => .nx (ps.set i (.v w))
theorem s_set (hN : X.N.Nodup) (hi : X.N[i]? = some x) (hx : Loc X.env.scope x) (he : JP X G e da) (hs : swapsWith e (some (.Name x p)) pos.line X.env = pure false := by rfl) (hf : X.fn x = true ∨ X.env.scope.names.lookup x = some .local := by first | exact .inl rfl | exact .inr rfl | assumption) :
    JS X G (.Assign [.Name x p] e pos) (sSet i da) := impS (ps_set hN hi hx he hs hf) fun D σ H ⟨c, ow, ps, R, q⟩ => by
  obtain ⟨w, e1, q⟩ := ends_st q
  exact ⟨c, ow, ps, w, R, e1, fun v H' s r => q _ _ _ ((R.grow s).setV r) ((Kp.of_same s).trans (Kp.weak av_off))⟩
def sSetM (i : Nat) (d : DM) : DS := fun ps => (d ps).st fun w => .nx (w.2.set i (.v w.1))
/-- a new list into a slot, one's own -/
def sOwn (i : Nat) (d : DA) : DS := fun ps => (d ps).st fun ws => if i < ps.length then .nx (ps.set i (.own (.lst ws))) else .bad
theorem s_own (hN : X.N.Nodup) (hi : X.N[i]? = some x) (hx : Loc X.env.scope x) (he : JN X G e d) (hs : swapsWith e (some (.Name x p)) pos.line X.env = pure false := by rfl) (hf : X.fn x = true ∨ X.env.scope.names.lookup x = some .local := by first | exact .inl rfl | exact .inr rfl | assumption) :
    JS X G (.Assign [.Name x p] e pos) (sOwn i d) := impS (ps_set hN hi hx he hs hf) fun D σ H ⟨c, ow, ps, R, q⟩ => by
  obtain ⟨ws, e1, q⟩ := ends_st q
  split at q
  · rename_i hl
    exact ⟨c, ow, ps, ws, R, e1, fun p vs H' s hp hv r => q _ _ _ (R.setO hl s hp ⟨vs, hv, r⟩) (Kp.take hp s av_on)⟩
  · exact q.elim
/-- any target -/
def sAsg (g : DG) (d : DP) : DS := fun ps => (d ps).st fun w => (g w ps).st fun ps' => .nx ps'
theorem s_asg {g : DG} (he : JP X G e da) (hg : JG X G tg g) (hs : swapsWithSole [tg] e pos.line X.env = pure false := by rfl) (hw : swappedStores [tg] e X.env = pure none := by rfl) (h1 : (assignEach [tg] X.env).map (·.2) = [assign tg X.env] := by rfl) : JS X G (.Assign [tg] e pos) (sAsg g da) :=
  impS (ps_asg he hg hs hw h1) fun D σ H ⟨c, ow, ps, R, q⟩ => by
    obtain ⟨w, e1, q⟩ := ends_st q
    obtain ⟨ps', e2, q⟩ := ends_st q
    exact ⟨c, ow, ps, w, R, e1, fun v H' s r => ⟨c, ow, ps, w, ps', R.grow s, r, e2, fun σ' ow' R' wk => q _ _ _ R' ((Kp.of_same s).trans (Kp.weak wk))⟩⟩
def sExpr (d : DM) : DS := fun ps => (d ps).st fun w => .nx w.2
theorem s_expr (he : JM X G e dm) (hs : swapsWith e none pos.line X.env = pure false := by rfl) : JS X G (.Expr e pos) (sExpr dm) := impS (ps_expr he hs) fun D σ H ⟨c, ow, ps, R, q⟩ => by
  obtain ⟨⟨w, ps'⟩, e1, q⟩ := ends_st q
  exact ⟨c, ow, ps, w, ps', R, e1, fun v H' ow' R' k r => q _ _ _ R' k⟩
def sRet (d : DP) : DS := fun ps => (d ps).st fun w => .ret w
theorem s_ret (he : JP X G e da) : JS X G (.Return (some e) pos) (sRet da) := impS (ps_ret he) fun D σ H ⟨c, ow, ps, R, q⟩ => by
  obtain ⟨w, e1, q⟩ := ends_st q
  exact ⟨c, ow, ps, w, R, e1, fun v H' s r => q v H' (R.same.trans s) ((Kp.weak fun a z => Or.inl z).rep r)⟩
def sRetM (d : DM) : DS := fun ps => (d ps).st fun w => .ret w.1
theorem s_retM (he : JM X G e dm) : JS X G (.Return (some e) pos) (sRetM dm) := impS (ps_ret he) fun D σ H ⟨c, ow, ps, R, q⟩ => by
  obtain ⟨⟨w, ps'⟩, e1, q⟩ := ends_st q
  exact ⟨c, ow, ps, w, ps', R, e1, fun v H' ow' R' k r => q v H' R'.same ((Kp.weak fun a z => Or.inl z).rep r)⟩
/-- a new list is handed out; a list of one's own is handed out -/
def sRetW (d : DA) : DS := fun ps => (d ps).st fun xs => .retn xs
def sRetO (i : Nat) : DS := fun ps => match ps[i]? with | some (.own (.lst xs)) => .retn xs | _ => .bad
def sRetN : DS := fun _ => .ret .non
def sIf (t : DT) (a b : DS) : DS := fun ps => (t ps).st fun x => if x = true then a ps else b ps
theorem s_if {c : Expr} {a b : List Stmt} {dt : DT} (hc : JT X G c dt) (ha : JSs X G a ds) (hb : JSs X G b du) : JS X G (.If c a b pos) (sIf dt ds du) := impS (ps_if hc ha hb) fun D σ H ⟨c, ow, ps, R, q⟩ => by
  obtain ⟨x, e1, q⟩ := ends_st q
  refine ⟨c, ow, ps, x, R, e1, fun H' s => ?_⟩
  split at q
  · rename_i hx; subst hx; exact iteT ⟨c, ow, ps, R.grow s, q.mono (Kp.of_same s)⟩
  · rename_i hx
    have : x = false := by simpa using hx
    subst this
    exact iteF ⟨c, ow, ps, R.grow s, q.mono (Kp.of_same s)⟩
/-- code that is never come to -/
def sNever : DS := fun _ => .bad
theorem s_never : JS X G st sNever := fun _ _ _ _ _ _ ⟨c, ow, ps, R, q⟩ => q.elim
/-! ### for -/
def forD (g : DG) (body : DS) : List PV → PSt → Rs
  | [], ps => .nx ps
  | w :: ws, ps => (g w ps).st fun ps1 => match body ps1 with
    | .nx ps2 => forD g body ws ps2
    | .cnt ps2 => forD g body ws ps2
    | .brk ps2 => .nx ps2
    | r => r
def sFor (di : DA) (g : DG) (body : DS) : DS := fun ps => (di ps).st fun ws => forD g body ws ps
theorem s_for {iter : Expr} {body : List Stmt} {di : DA} {g : DG} (hp : PassesOwn (model X.prog X.w) X.A X.env X.xe) (hc : X.calm = true) (hi : JI X G tg iter di) (hg : JG X G tg g) (hb : JSs X G body ds)
    (hs : ∀ x, foldedSetIterable iter X.env x = pure x := by intro _; rfl) : JS X G (.For tg iter body [] pos) (sFor di g ds) := impS (ps_for hp hc hi hg hb hs) fun D σ H ⟨c, ow, ps, R, q⟩ => by
  obtain ⟨ws, e1, q⟩ := ends_st q
  refine ⟨c, ow, ps, ws, R, e1, fun J H1 vs s1 rep wk => ?_⟩
  refine ⟨fun i m σ' H' => ∃ ow' ps', m = ws.length - i ∧ i ≤ ws.length ∧ RepS X.K G c H' ow' ps' σ' ∧ Kp X.K G H1 (av c ow) H' (av c ow') ∧ EndsAt X.K G c H' (av c ow') D (forD g ds (ws.drop i) ps'),
    ⟨_, ow, ps, rfl, Nat.zero_le _, R.grow s1, Kp.of_same (Same.refl _), q.mono (Kp.of_same s1)⟩, ?_⟩
  rintro i m σ' H' ⟨ow', ps', rfl, hi', R', k', q'⟩
  obtain ⟨wg, wst⟩ := wk H' _ k' R'.same
  rcases Nat.lt_or_ge i ws.length with hlt | hge
  · right
    rw [List.drop_eq_getElem_cons hlt] at q'
    obtain ⟨v, hv, rv⟩ := (k'.reps rep).get (List.getElem?_eq_getElem hlt)
    obtain ⟨go, yl⟩ := wg i v hv
    refine ⟨go, _, fun _ _ h => h, fun y H2 hyl => ?_⟩
    obtain ⟨rfl, rfl⟩ := yl y H2 hyl
    obtain ⟨ps1, c1, q'⟩ := ends_st q'
    refine ⟨c, ow', ps', ws[i], ps1, R', rv, c1, fun σ3 ow3 R3 wk3 => ?_⟩
    have k3 : Kp X.K G H1 (av c ow) H2 (av c ow3) := k'.trans (Kp.weak wk3)
    have q3 := q'.mono (Kp.weak (K := X.K) (G := G) (H := H2) wk3)
    refine ⟨c, ow3, ps1, R3, ?_⟩
    cases er : ds ps1 with
    | nx ps2 =>
      rw [er] at q3
      exact fun σ4 H4 ow4 R4 k4 => ⟨ws.length - (i + 1), by omega, ow4, ps2, rfl, hlt, R4, k3.trans k4, EndsAt.mono q3 k4⟩
    | cnt ps2 =>
      rw [er] at q3
      exact fun σ4 H4 ow4 R4 k4 => ⟨ws.length - (i + 1), by omega, ow4, ps2, rfl, hlt, R4, k3.trans k4, EndsAt.mono q3 k4⟩
    | brk ps2 => rw [er] at q3; exact q3
    | ret w => rw [er] at q3; exact q3
    | retn xs => rw [er] at q3; exact q3
    | reti w x => rw [er] at q3; exact q3
    | bad => rw [er] at q3; exact q3
    | exc c => rw [er] at q3; exact q3
  · left
    have : i = ws.length := Nat.le_antisymm hi' hge
    subst this
    rw [List.drop_length] at q'
    exact ⟨by rw [rep.len]; exact wst, q' σ' H' ow' R' (Kp.of_same (Same.refl _))⟩
end
/-! ### a def -/
def inP (ms : List Bool) (n : Nat) (ws : List PV) : PSt := (List.zipWith (fun m w => if m = true then Sl.bor w else Sl.v w) ms ws) ++ List.replicate (n - ws.length) .no
def runD (ms : List Bool) (n : Nat) (d : DS) (ws : List PV) : Rx PV := if ws.length = ms.length then (match d (inP ms n ws) with | .ret w => .ok w | .retn xs => .ok (.lst xs) | .nx _ => .ok .non | .exc c => .exc c | _ => .bad) else .bad
theorem inF {K : PySem.W.Frag} {G : Pg} {H : Hp} {A : Av} : ∀ {ms : List Bool} {ws : List PV} {vs : List V} {i : Nat} {s : Sl} {o : Option V}, RepM K G H A ms ws vs → (List.zipWith (fun m w => if m = true then Sl.bor w else Sl.v w) ms ws)[i]? = some s → (vs.map some)[i]? = some o → SlF K G (fun p => H p ≠ none) H A s o
  | [], ws, vs, i, s, o, h, e1, e2 => by obtain ⟨rfl, rfl⟩ := h; simp at e1
  | m :: ms, ws, vs, 0, s, o, h, e1, e2 => by
    obtain ⟨w, wr, v, vr, rfl, rfl, r, rr⟩ := h
    simp at e1 e2
    subst e1; subst e2
    cases m with
    | true =>
      simp only [if_pos]
      rw [if_pos rfl] at r
      refine ⟨v, rfl, ?_⟩
      rcases r with r | ⟨x, p, e1, e2, r⟩ | r
      · exact .inl r
      · obtain ⟨o', eo, _⟩ := r.at
        exact .inr (.inl ⟨x, p, e1, e2, r, by show H p ≠ none; rw [eo]; simp⟩)
      · exact .inr (.inr (r.mono fun _ _ n => n))
    | false =>
      rw [if_neg Bool.false_ne_true] at r
      exact ⟨v, rfl, r⟩
  | m :: ms, ws, vs, i + 1, s, o, h, e1, e2 => by
    obtain ⟨w, wr, v, vr, rfl, rfl, r, rr⟩ := h
    exact inF (i := i) rr (by simpa using e1) (by simpa using e2)
theorem in_rep {K : PySem.W.Frag} {G : Pg} {H : Hp} {A : Av} {ms : List Bool} {ws : List PV} {vs : List V} {N : List Str} (r : RepM K G H A ms ws vs) : RepF K G (fun p => H p ≠ none) H A (inP ms N.length ws) (L2.start N vs) := by
  have l1 := r.len.1
  have l2 := r.len.2
  refine ⟨by simp [inP, L2.start, l1, l2], fun i s o e1 e2 => ?_⟩
  unfold inP at e1
  unfold L2.start at e2
  rcases Nat.lt_or_ge i ms.length with h | h
  · rw [List.getElem?_append_left (by simp [l1]; omega)] at e1
    rw [List.getElem?_append_left (by simp [l2]; omega)] at e2
    exact inF r e1 e2
  · rw [List.getElem?_append_right (by simp [l1]; omega), List.getElem?_replicate] at e1
    split at e1
    · cases e1; exact True.intro
    · cases e1
/-- THE RULE for a def: its body's mirror -/
theorem fn_ok {P : Program} {w : World} {K : PySem.W.Frag} {mg : Str → Option Value} {base : Bs} {G : Pg} {x qual : Str} {st : Stmt} {f : Addr} {fd : FuncData} {N ps : List Str} {k : Nat} {ms : List Bool} {d : DS} (F : Fun K x qual st f fd) (S : FnScope N ps (defScope st)) (hm : ms.length = ps.length)
    (hb : ∀ (cdv : Value) (A : Around) (outer : List Env) (s : Shared) (H : Hp) (E : XK), Room k (A.deeper (envOfC qual (defScope st) s.heap.objs.size f cdv)) → JSs (cxOf CX0 P w K mg base N qual (defScope st) f cdv A outer s H E).nox G (defBody st) d) :
    FnOk P w K mg base CX0 (k + 1) f fd ps (spG K G ms (runD ms N.length d)) := by
  refine F.ok S (fun vs H Q E h => ?_) (fun cdv A outer s H vs Q E hr h => ?_)
  · obtain ⟨A, ws, w, u, r, _⟩ := h
    rw [r.len.2, hm]
  · obtain ⟨A', ws, w', u, r, e, q⟩ := h
    refine ⟨_, hb cdv A outer s H E hr, ?_⟩
    have F0 := in_rep (N := N) r
    have S0 := F0.toS u fun a z => z
    refine ⟨_, ow0, inP ms N.length ws, S0, ?_⟩
    unfold runD at e
    rw [if_pos r.len.1] at e
    cases ed : d (inP ms N.length ws) with
    | nx ps' => rw [ed] at e; cases e; exact fun σ' H' ow' R' _ => q .non H' (R'.same.same rfl) rfl
    | ret w2 => rw [ed] at e; cases e; exact fun v H' s r => q v H' (s.same rfl) r
    | reti w x => rw [ed] at e; cases e
    | retn xs => rw [ed] at e; cases e; exact fun p vs H' s hp hv r => q (.ref p) H' (s.same rfl) ⟨p, vs, rfl, .inl ⟨hv, fun z => u p z hp⟩, (Kp.weak fun a z => Or.inl z).reps r⟩
    | brk _ => rw [ed] at e; cases e
    | cnt _ => rw [ed] at e; cases e
    | bad => rw [ed] at e; cases e
    | exc _ => rw [ed] at e; cases e
end DN
end
section
set_option Elab.async false
set_option linter.all false
set_option maxRecDepth 100000
set_option maxHeartbeats 4000000
namespace DN
open PySem PySem.Spec PyProof.Rows L2
def isF : PV → Bool
  | .non => true | .bl _ => true | .int _ => true | .str _ => true | _ => false
mutual
def peq : PV → PV → Option Bool
  | .tup xs, .tup ys => peqs xs ys
  | .lst xs, .lst ys => if xs.length = ys.length then peqs xs ys else some false
  | .tup _, .lst _ => some false
  | .lst _, .tup _ => some false
  | .tup _, .non => some false | .tup _, .bl _ => some false | .tup _, .int _ => some false | .tup _, .str _ => some false
  | .lst _, .non => some false | .lst _, .bl _ => some false | .lst _, .int _ => some false | .lst _, .str _ => some false
  | .non, .tup _ => some false | .bl _, .tup _ => some false | .int _, .tup _ => some false | .str _, .tup _ => some false
  | .non, .lst _ => some false | .bl _, .lst _ => some false | .int _, .lst _ => some false | .str _, .lst _ => some false
  | .non, .non => some true | .bl a, .bl b => some (a == b) | .int a, .int b => some (a == b) | .str a, .str b => some (a == b)
  | .bl a, .int b => some ((if a then 1 else 0) == b) | .int a, .bl b => some (a == (if b then 1 else 0))
  | .non, .bl _ => some false | .non, .int _ => some false | .non, .str _ => some false
  | .bl _, .non => some false | .int _, .non => some false | .str _, .non => some false
  | .bl _, .str _ => some false | .str _, .bl _ => some false | .int _, .str _ => some false | .str _, .int _ => some false
  | _, _ => none
def peqs : List PV → List PV → Option Bool
  | [], [] => some true
  | x :: xs, y :: ys => match peq x y, peqs xs ys with | some a, some b => some (a && b) | _, _ => none
  | [], _ :: _ => some false
  | _ :: _, [] => some false
end
mutual
def PV.depth : PV → Nat
  | .tup xs => pdepths xs + 1
  | .lst xs => pdepths xs + 1
  | _ => 0
def pdepths : List PV → Nat
  | [] => 0
  | x :: xs => max x.depth (pdepths xs)
end
theorem peq_tt (xs ys : List PV) : peq (.tup xs) (.tup ys) = peqs xs ys := rfl
theorem peq_ll (xs ys : List PV) : peq (.lst xs) (.lst ys) = if xs.length = ys.length then peqs xs ys else some false := rfl
def eAt : List PV → List PV → Nat → Bool
  | x :: _, y :: _, 0 => (peq x y).getD false
  | _ :: xs, _ :: ys, j + 1 => eAt xs ys j
  | _, _, _ => false
theorem peqs_cons {x y : PV} {xs ys : List PV} {b : Bool} (h : peqs (x :: xs) (y :: ys) = some b) : ∃ a c, peq x y = some a ∧ peqs xs ys = some c ∧ b = (a && c) := by
  rw [peqs] at h
  cases e1 : peq x y with
  | none => rw [e1] at h; simp at h
  | some a =>
    cases e2 : peqs xs ys with
    | none => rw [e1, e2] at h; simp at h
    | some c => rw [e1, e2] at h; simp at h; exact ⟨a, c, rfl, rfl, h.symm⟩
theorem peqs_all : ∀ {xs ys : List PV} {b : Bool}, peqs xs ys = some b → ((List.range (min xs.length ys.length)).all (eAt xs ys) && xs.length == ys.length) = b
  | [], [], b, h => by rw [peqs] at h; cases h; rfl
  | [], y :: ys, b, h => by rw [peqs] at h; cases h; simp
  | x :: xs, [], b, h => by rw [peqs] at h; cases h; simp
  | x :: xs, y :: ys, b, h => by
    obtain ⟨a, c, e1, e2, rfl⟩ := peqs_cons h
    have ih := peqs_all e2
    rw [← ih, List.length_cons, List.length_cons, Nat.add_min_add_right, List.range_succ_eq_map, List.all_cons, List.all_map]
    have q1 : ((eAt (x :: xs) (y :: ys)) ∘ Nat.succ) = eAt xs ys := rfl
    have q2 : eAt (x :: xs) (y :: ys) 0 = a := by show (peq x y).getD false = a; rw [e1]; rfl
    have q3 : (xs.length + 1 == ys.length + 1) = (xs.length == ys.length) := by simp
    rw [q1, q2, q3, Bool.and_assoc]
section
variable {X : Cx} {G : Pg} {pins : List (Addr × Obj)} {σ : L2.St} {H : Hp} {s : Shared} {A0 : Av}
theorem list_inj' (I : Inv X pins σ H s) {a : Addr} {xs ys : List V} (h : SqL X.K H a xs) (h' : SqL X.K H a ys) : xs = ys := by
  obtain ⟨i1, r1, p1, _⟩ := I.list h
  obtain ⟨i2, r2, p2, _⟩ := I.list h'
  obtain ⟨o, n, e, c, d, q⟩ := p1
  obtain ⟨o', n', e', c', d', q'⟩ := p2
  rw [e] at e'; cases e'
  rw [q] at q'
  have : i1 = i2 := by
    have := (Data.seq.inj q').1
    simpa using this
  subst this
  exact r1.inj r2
mutual
theorem rep_inj (I : Inv X pins σ H s) : ∀ {x y : PV} {v : V} {b : Bool}, Rep X.K G H A0 x v → Rep X.K G H A0 y v → peq x y = some b → b = true
  | .tup xs, y, v, b, h, h', e => by
    obtain ⟨a, vs, rfl, sq, rs⟩ := h
    cases y with
    | tup ys =>
      obtain ⟨a', vs', e2, sq', rs'⟩ := h'
      cases e2
      have := I.tuple_inj (SqT.of sq) (SqT.of sq')
      subst this
      exact reps_inj I rs rs' e
    | lst ys =>
      obtain ⟨a', vs', e2, sq', rs'⟩ := h'
      cases e2
      obtain ⟨_, _, ⟨o, h1, h2, _⟩, _⟩ := I.tuple (SqT.of sq)
      obtain ⟨_, _, ⟨o', _, h1', h2', _⟩, _⟩ := I.list sq'.sq
      rw [h1] at h1'; cases h1'
      rw [h2] at h2'; exact absurd (Value.type.inj h2') (by decide)
    | non => cases h'
    | bl _ => cases h'
    | int _ => cases h'
    | str _ => cases h'
    | _ => cases e
  | .lst xs, y, v, b, h, h', e => by
    obtain ⟨a, vs, rfl, sq, rs⟩ := h
    cases y with
    | lst ys =>
      obtain ⟨a', vs', e2, sq', rs'⟩ := h'
      cases e2
      have := list_inj' I sq.sq sq'.sq
      subst this
      rw [peq_ll, if_pos (by rw [rs.len, rs'.len])] at e
      exact reps_inj I rs rs' e
    | tup ys =>
      obtain ⟨a', vs', e2, sq', rs'⟩ := h'
      cases e2
      obtain ⟨_, _, ⟨o, h1, h2, _⟩, _⟩ := I.tuple (SqT.of sq')
      obtain ⟨_, _, ⟨o', _, h1', h2', _⟩, _⟩ := I.list sq.sq
      rw [h1] at h1'; cases h1'
      rw [h2] at h2'; exact absurd (Value.type.inj h2') (by decide)
    | non => cases h'
    | bl _ => cases h'
    | int _ => cases h'
    | str _ => cases h'
    | _ => cases e
  | .non, y, v, b, h, h', e => by
    cases h
    cases y with
    | non => cases h' <;> (cases e; simp)
    | bl _ => cases h' <;> (cases e; simp)
    | int _ => cases h' <;> (cases e; simp)
    | str _ => cases h' <;> (cases e; simp)
    | tup _ => obtain ⟨_, _, z, _⟩ := h'; cases z
    | lst _ => obtain ⟨_, _, z, _⟩ := h'; cases z
    | dic _ _ => obtain ⟨_, _, _, z, _⟩ := h'; cases z
    | dit _ _ => obtain ⟨_, _, _, z, _⟩ := h'; cases z
    | dbo _ _ => exact h'.elim
    | clo _ _ => obtain ⟨_, _, _, z, _⟩ := h'; cases z
    | obj _ _ => obtain ⟨_, _, _, z, _⟩ := h'; cases z
  | .bl k, y, v, b, h, h', e => by
    cases h
    cases y with
    | non => cases h' <;> (cases e; simp)
    | bl _ => cases h' <;> (cases e; simp)
    | int _ => cases h' <;> (cases e; simp)
    | str _ => cases h' <;> (cases e; simp)
    | tup _ => obtain ⟨_, _, z, _⟩ := h'; cases z
    | lst _ => obtain ⟨_, _, z, _⟩ := h'; cases z
    | dic _ _ => obtain ⟨_, _, _, z, _⟩ := h'; cases z
    | dit _ _ => obtain ⟨_, _, _, z, _⟩ := h'; cases z
    | dbo _ _ => exact h'.elim
    | clo _ _ => obtain ⟨_, _, _, z, _⟩ := h'; cases z
    | obj _ _ => obtain ⟨_, _, _, z, _⟩ := h'; cases z
  | .int k, y, v, b, h, h', e => by
    cases h
    cases y with
    | non => cases h' <;> (cases e; simp)
    | bl _ => cases h' <;> (cases e; simp)
    | int _ => cases h' <;> (cases e; simp)
    | str _ => cases h' <;> (cases e; simp)
    | tup _ => obtain ⟨_, _, z, _⟩ := h'; cases z
    | lst _ => obtain ⟨_, _, z, _⟩ := h'; cases z
    | dic _ _ => obtain ⟨_, _, _, z, _⟩ := h'; cases z
    | dit _ _ => obtain ⟨_, _, _, z, _⟩ := h'; cases z
    | dbo _ _ => exact h'.elim
    | clo _ _ => obtain ⟨_, _, _, z, _⟩ := h'; cases z
    | obj _ _ => obtain ⟨_, _, _, z, _⟩ := h'; cases z
  | .str k, y, v, b, h, h', e => by
    cases h
    cases y with
    | non => cases h' <;> (cases e; simp)
    | bl _ => cases h' <;> (cases e; simp)
    | int _ => cases h' <;> (cases e; simp)
    | str _ => cases h' <;> (cases e; simp)
    | tup _ => obtain ⟨_, _, z, _⟩ := h'; cases z
    | lst _ => obtain ⟨_, _, z, _⟩ := h'; cases z
    | dic _ _ => obtain ⟨_, _, _, z, _⟩ := h'; cases z
    | dit _ _ => obtain ⟨_, _, _, z, _⟩ := h'; cases z
    | dbo _ _ => exact h'.elim
    | clo _ _ => obtain ⟨_, _, _, z, _⟩ := h'; cases z
    | obj _ _ => obtain ⟨_, _, _, z, _⟩ := h'; cases z
  | .obj k xs, y, v, b, h, h', e => by
    cases y <;> cases e
  | .dic k xs, y, v, b, h, h', e => by
    cases y <;> cases e
  | .dbo k xs, y, v, b, h, h', e => h.elim
  | .dit k xs, y, v, b, h, h', e => by
    cases y <;> cases e
  | .clo k xs, y, v, b, h, h', e => by
    cases y <;> cases e
theorem reps_inj (I : Inv X pins σ H s) : ∀ {xs ys : List PV} {vs : List V} {b : Bool}, Reps X.K G H A0 xs vs → Reps X.K G H A0 ys vs → peqs xs ys = some b → b = true
  | [], [], vs, b, h, h', e => by rw [peqs] at e; cases e; rfl
  | [], y :: ys, vs, b, h, h', e => by
    obtain ⟨v, r, e2, _⟩ := h'
    have h : vs = [] := h
    rw [h] at e2; cases e2
  | x :: xs, [], vs, b, h, h', e => by
    obtain ⟨v, r, e2, _⟩ := h
    have h' : vs = [] := h'
    rw [h'] at e2; cases e2
  | x :: xs, y :: ys, vs, b, h, h', e => by
    obtain ⟨v, r, rfl, h1, h2⟩ := h
    obtain ⟨v', r', e2, h1', h2'⟩ := h'
    cases e2
    obtain ⟨a, c, e1, e2, rfl⟩ := peqs_cons e
    rw [rep_inj I h1 h1' e1, reps_inj I h2 h2' e2]; rfl
end
mutual
theorem eqp (I : Inv X pins σ H s) : ∀ {x y : PV} {v v' : V} {u u' : Value} {A : Around} {b : Bool}, A.units + x.depth < cLine → Rep X.K G H A0 x v → Rep X.K G H A0 y v' → RelV v u → RelV v' u' → peq x y = some b → SeqAt.EqAt A s u u' b
  | .tup xs, y, v, v', u, u', A, b, hu, h, h', r, r', e => by
    have hu0 : A.units < cLine := Nat.lt_of_le_of_lt (Nat.le_add_right _ _) hu
    have h0 := h
    obtain ⟨a, vs, rfl, sq, rs⟩ := h
    obtain rfl : u = Value.ref a := r
    obtain ⟨its, r1, p1, _⟩ := I.tuple (SqT.of sq)
    cases y with
    | tup ys =>
      have h0' := h'
      obtain ⟨a', vs', rfl, sq', rs'⟩ := h'
      obtain rfl : u' = Value.ref a' := r'
      by_cases ea : a = a'
      · subst ea
        rw [rep_inj I h0 h0' e]
        exact SeqAt.EqAt.same _
      · obtain ⟨its', r2, p2, _⟩ := I.tuple (SqT.of sq')
        have hd : (PV.tup xs).depth = pdepths xs + 1 := by rw [PV.depth]
        rw [peq_tt] at e
        refine SeqAt.EqAt.of_refs ea ?_
        have q := SeqAt.RcAt.tuples (A := A) (e := eAt xs ys) p1 p2 (by omega) fun j h1 h2 => by
          have h1' : j < its.length := by simpa using h1
          have h2' : j < its'.length := by simpa using h2
          have := eqps I (A := A.in1) (j := j) (by show A.units + 1 + pdepths xs < cLine; omega) rs rs' r1 r2 e (List.getElem?_eq_getElem h1') (List.getElem?_eq_getElem h2')
          simpa using this
        have e4 : its.toArray.size = xs.length := by rw [List.size_toArray, ← r1.length, rs.len]
        have e5 : its'.toArray.size = ys.length := by rw [List.size_toArray, ← r2.length, rs'.len]
        rw [e4, e5, peqs_all e] at q
        exact q
    | lst ys =>
      obtain ⟨a', vs', rfl, sq', rs'⟩ := h'
      obtain rfl : u' = Value.ref a' := r'
      obtain ⟨its', r2, p2, _⟩ := I.list sq'.sq
      cases e
      exact SeqAt.EqAt.tuple_list p1 p2.isList hu0
    | non => cases h'; cases r'; cases e; exact SeqAt.EqAt.tuple_none p1 hu0
    | bl k => cases h'; cases r'; cases e; exact SeqAt.EqAt.tuple_bool k p1 hu0
    | int k => cases h'; obtain ⟨t, rfl⟩ := r'; cases e; exact SeqAt.EqAt.tuple_int k t p1 hu0
    | str k => cases h'; obtain ⟨t, rfl⟩ := r'; cases e; exact SeqAt.EqAt.tuple_str k t p1 hu0
    | _ => cases e
  | .lst xs, y, v, v', u, u', A, b, hu, h, h', r, r', e => by
    have hu0 : A.units < cLine := Nat.lt_of_le_of_lt (Nat.le_add_right _ _) hu
    have h0 := h
    obtain ⟨a, vs, rfl, sq, rs⟩ := h
    obtain rfl : u = Value.ref a := r
    obtain ⟨its, r1, p1, _⟩ := I.list sq.sq
    cases y with
    | lst ys =>
      have h0' := h'
      obtain ⟨a', vs', rfl, sq', rs'⟩ := h'
      obtain rfl : u' = Value.ref a' := r'
      by_cases ea : a = a'
      · subst ea
        rw [rep_inj I h0 h0' e]
        exact SeqAt.EqAt.same _
      · obtain ⟨its', r2, p2, _⟩ := I.list sq'.sq
        have hd : (PV.lst xs).depth = pdepths xs + 1 := by rw [PV.depth]
        have e4 : its.toArray.size = xs.length := by rw [List.size_toArray, ← r1.length, rs.len]
        have e5 : its'.toArray.size = ys.length := by rw [List.size_toArray, ← r2.length, rs'.len]
        refine SeqAt.EqAt.of_refs ea ?_
        rw [peq_ll] at e
        by_cases hl : xs.length = ys.length
        · rw [if_pos hl] at e
          have q := SeqAt.RcAt.lists (A := A) (e := eAt xs ys) p1.isList p2.isList (by rw [e4, e5, hl]) (by omega) fun j h1 h2 => by
            have h1' : j < its.length := by simpa using h1
            have h2' : j < its'.length := by simpa using h2
            have := eqps I (A := A.in1) (j := j) (by show A.units + 1 + pdepths xs < cLine; omega) rs rs' r1 r2 e (List.getElem?_eq_getElem h1') (List.getElem?_eq_getElem h2')
            simpa using this
          have q2 := peqs_all e
          rw [hl, Nat.min_self, beq_self_eq_true, Bool.and_true] at q2
          rw [e4, hl, q2] at q
          exact q
        · rw [if_neg hl] at e
          cases e
          exact SeqAt.RcAt.lists_lengths p1.isList p2.isList (by rw [e4, e5]; simpa using hl) hu0
    | tup ys =>
      obtain ⟨a', vs', rfl, sq', rs'⟩ := h'
      obtain rfl : u' = Value.ref a' := r'
      obtain ⟨its', r2, p2, _⟩ := I.tuple (SqT.of sq')
      cases e
      exact SeqAt.EqAt.list_tuple p1.isList p2 hu0
    | non => cases h'; cases r'; cases e; exact SeqAt.EqAt.list_none p1.isList hu0
    | bl k => cases h'; cases r'; cases e; exact SeqAt.EqAt.list_bool k p1.isList hu0
    | int k => cases h'; obtain ⟨t, rfl⟩ := r'; cases e; exact SeqAt.EqAt.list_int k t p1.isList hu0
    | str k => cases h'; obtain ⟨t, rfl⟩ := r'; cases e; exact SeqAt.EqAt.list_str k t p1.isList hu0
    | _ => cases e
  | .non, y, v, v', u, u', A, b, hu, h, h', r, r', e => by
    have hu0 : A.units < cLine := Nat.lt_of_le_of_lt (Nat.le_add_right _ _) hu
    cases h
    cases r
    cases y with
    | non => cases h'; cases r'; cases e; exact SeqAt.EqAt.same _
    | bl k => cases h'; cases r'; cases e; exact SeqAt.EqAt.none_bool k
    | int k => cases h'; obtain ⟨t, rfl⟩ := r'; cases e; exact SeqAt.EqAt.none_int k t
    | str k => cases h'; obtain ⟨t, rfl⟩ := r'; cases e; exact SeqAt.EqAt.none_str k t
    | tup ys =>
      obtain ⟨a', vs', rfl, sq', rs'⟩ := h'
      obtain rfl : u' = Value.ref a' := r'
      obtain ⟨its', r2, p2, _⟩ := I.tuple (SqT.of sq')
      cases e
      exact SeqAt.EqAt.none_tuple p2 hu0
    | lst ys =>
      obtain ⟨a', vs', rfl, sq', rs'⟩ := h'
      obtain rfl : u' = Value.ref a' := r'
      obtain ⟨its', r2, p2, _⟩ := I.list sq'.sq
      cases e
      exact SeqAt.EqAt.none_list p2.isList hu0
    | _ => cases e
  | .bl k0, y, v, v', u, u', A, b, hu, h, h', r, r', e => by
    have hu0 : A.units < cLine := Nat.lt_of_le_of_lt (Nat.le_add_right _ _) hu
    cases h
    cases r
    cases y with
    | non => cases h'; cases r'; cases e; exact SeqAt.EqAt.bool_none k0
    | bl k => cases h'; cases r'; cases e; exact SeqAt.EqAt.bool_bool k0 k
    | int k => cases h'; obtain ⟨t, rfl⟩ := r'; cases e; exact SeqAt.EqAt.bool_int k0 k t
    | str k => cases h'; obtain ⟨t, rfl⟩ := r'; cases e; exact SeqAt.EqAt.bool_str k0 k t
    | tup ys =>
      obtain ⟨a', vs', rfl, sq', rs'⟩ := h'
      obtain rfl : u' = Value.ref a' := r'
      obtain ⟨its', r2, p2, _⟩ := I.tuple (SqT.of sq')
      cases e
      exact SeqAt.EqAt.bool_tuple k0 p2 hu0
    | lst ys =>
      obtain ⟨a', vs', rfl, sq', rs'⟩ := h'
      obtain rfl : u' = Value.ref a' := r'
      obtain ⟨its', r2, p2, _⟩ := I.list sq'.sq
      cases e
      exact SeqAt.EqAt.bool_list k0 p2.isList hu0
    | _ => cases e
  | .int k0, y, v, v', u, u', A, b, hu, h, h', r, r', e => by
    have hu0 : A.units < cLine := Nat.lt_of_le_of_lt (Nat.le_add_right _ _) hu
    cases h
    obtain ⟨t0, rfl⟩ := r
    cases y with
    | non => cases h'; cases r'; cases e; exact SeqAt.EqAt.int_none k0 t0
    | bl k => cases h'; cases r'; cases e; exact SeqAt.EqAt.int_bool k0 t0 k
    | int k => cases h'; obtain ⟨t, rfl⟩ := r'; cases e; exact SeqAt.EqAt.int_int k0 t0 k t
    | str k => cases h'; obtain ⟨t, rfl⟩ := r'; cases e; exact SeqAt.EqAt.int_str k0 t0 k t
    | tup ys =>
      obtain ⟨a', vs', rfl, sq', rs'⟩ := h'
      obtain rfl : u' = Value.ref a' := r'
      obtain ⟨its', r2, p2, _⟩ := I.tuple (SqT.of sq')
      cases e
      exact SeqAt.EqAt.int_tuple k0 t0 p2 hu0
    | lst ys =>
      obtain ⟨a', vs', rfl, sq', rs'⟩ := h'
      obtain rfl : u' = Value.ref a' := r'
      obtain ⟨its', r2, p2, _⟩ := I.list sq'.sq
      cases e
      exact SeqAt.EqAt.int_list k0 t0 p2.isList hu0
    | _ => cases e
  | .str k0, y, v, v', u, u', A, b, hu, h, h', r, r', e => by
    have hu0 : A.units < cLine := Nat.lt_of_le_of_lt (Nat.le_add_right _ _) hu
    cases h
    obtain ⟨t0, rfl⟩ := r
    cases y with
    | non => cases h'; cases r'; cases e; exact SeqAt.EqAt.str_none k0 t0
    | bl k => cases h'; cases r'; cases e; exact SeqAt.EqAt.str_bool k0 t0 k
    | int k => cases h'; obtain ⟨t, rfl⟩ := r'; cases e; exact SeqAt.EqAt.str_int k0 t0 k t
    | str k => cases h'; obtain ⟨t, rfl⟩ := r'; cases e; exact SeqAt.EqAt.str_str k0 t0 k t
    | tup ys =>
      obtain ⟨a', vs', rfl, sq', rs'⟩ := h'
      obtain rfl : u' = Value.ref a' := r'
      obtain ⟨its', r2, p2, _⟩ := I.tuple (SqT.of sq')
      cases e
      exact SeqAt.EqAt.str_tuple k0 t0 p2 hu0
    | lst ys =>
      obtain ⟨a', vs', rfl, sq', rs'⟩ := h'
      obtain rfl : u' = Value.ref a' := r'
      obtain ⟨its', r2, p2, _⟩ := I.list sq'.sq
      cases e
      exact SeqAt.EqAt.str_list k0 t0 p2.isList hu0
    | _ => cases e
  | .obj k xs, y, v, v', u, u', A, b, hu, h, h', r, r', e => by
    cases y <;> cases e
  | .dic k xs, y, v, v', u, u', A, b, hu, h, h', r, r', e => by
    cases y <;> cases e
  | .dbo k xs, y, v, v', u, u', A, b, hu, h, h', r, r', e => h.elim
  | .dit k xs, y, v, v', u, u', A, b, hu, h, h', r, r', e => by
    cases y <;> cases e
  | .clo k xs, y, v, v', u, u', A, b, hu, h, h', r, r', e => by
    cases y <;> cases e
theorem eqps (I : Inv X pins σ H s) : ∀ {xs ys : List PV} {vs vs' : List V} {us us' : List Value} {A : Around} {j : Nat} {u u' : Value} {b : Bool}, A.units + pdepths xs < cLine → Reps X.K G H A0 xs vs → Reps X.K G H A0 ys vs' → Vals vs us → Vals vs' us' → peqs xs ys = some b →
    us[j]? = some u → us'[j]? = some u' → SeqAt.EqAt A s u u' (eAt xs ys j)
  | [], ys, vs, vs', us, us', A, j, u, u', b, hu, h, h', r, r', e, q, q' => by
    have h : vs = [] := h
    subst h; cases r
    simp at q
  | x :: xs, [], vs, vs', us, us', A, j, u, u', b, hu, h, h', r, r', e, q, q' => by
    have h' : vs' = [] := h'
    subst h'; cases r'
    simp at q'
  | x :: xs, y :: ys, vs, vs', us, us', A, j, u, u', b, hu, h, h', r, r', e, q, q' => by
    obtain ⟨v, t, rfl, h1, h2⟩ := h
    obtain ⟨v', t', rfl, h1', h2'⟩ := h'
    obtain ⟨a, c, e1, e2, rfl⟩ := peqs_cons e
    have hd : pdepths (x :: xs) = max x.depth (pdepths xs) := by rw [pdepths]
    cases r with
    | cons rx rt =>
      cases r' with
      | cons rx' rt' =>
        cases j with
        | zero =>
          simp at q q'
          subst q; subst q'
          have : eAt (x :: xs) (y :: ys) 0 = a := by show (peq x y).getD false = a; rw [e1]; rfl
          rw [this]
          exact eqp I (by omega) h1 h1' rx rx' e1
        | succ j => exact eqps I (j := j) (by omega) h2 h2' rt rt' e2 (by simpa using q) (by simpa using q')
end
theorem rcp (I : Inv X pins σ H s) : ∀ {x y : PV} {v v' : V} {u u' : Value} {A : Around} {b : Bool}, A.units + x.depth < cLine → RepB X.K G H A0 x v → RepB X.K G H A0 y v' → RelV v u → RelV v' u' → peq x y = some b → SeqAt.RcAt A s u u' b := by
  intro x y v v' u u' A b hu h h' r r' e
  have hu0 : A.units < cLine := Nat.lt_of_le_of_lt (Nat.le_add_right _ _) hu
  cases x with
  | tup xs =>
    obtain ⟨a, vs, rfl, sq, rs⟩ := h.tup
    obtain rfl : u = Value.ref a := r
    obtain ⟨its, r1, p1, _⟩ := I.tuple sq
    cases y with
    | tup ys =>
      obtain ⟨a', vs', rfl, sq', rs'⟩ := h'.tup
      obtain rfl : u' = Value.ref a' := r'
      obtain ⟨its', r2, p2, _⟩ := I.tuple sq'
      rw [peq_tt] at e
      have hd : (PV.tup xs).depth = pdepths xs + 1 := by rw [PV.depth]
      have e4 : its.toArray.size = xs.length := by rw [List.size_toArray, ← r1.length, rs.len]
      have e5 : its'.toArray.size = ys.length := by rw [List.size_toArray, ← r2.length, rs'.len]
      have q := SeqAt.RcAt.tuples (A := A) (s := s) (e := eAt xs ys) p1 p2 (by omega) fun j h1 h2 => by
          have h1' : j < its.length := by simpa using h1
          have h2' : j < its'.length := by simpa using h2
          have := eqps I (A := A.in1) (j := j) (by show A.units + 1 + pdepths xs < cLine; omega) rs rs' r1 r2 e (List.getElem?_eq_getElem h1') (List.getElem?_eq_getElem h2')
          simpa using this
      rw [e4, e5, peqs_all e] at q
      exact q
    | lst ys =>
      obtain ⟨a', vs', rfl, sq', rs'⟩ := h'.lst
      obtain rfl : u' = Value.ref a' := r'
      obtain ⟨its', r2, p2, _⟩ := I.list sq'
      cases e
      exact SeqAt.RcAt.tuple_list p1 p2.isList hu0
    | non => rw [h'.non] at r'; cases r'; cases e; exact SeqAt.RcAt.tuple_none p1 hu0
    | bl k => rw [h'.bl] at r'; cases r'; cases e; exact SeqAt.RcAt.tuple_bool k p1 hu0
    | int k => rw [h'.int] at r'; obtain ⟨t, rfl⟩ := r'; cases e; exact SeqAt.RcAt.tuple_int k t p1 hu0
    | str k => rw [h'.str] at r'; obtain ⟨t, rfl⟩ := r'; cases e; exact SeqAt.RcAt.tuple_str k t p1 hu0
    | _ => cases e
  | lst xs =>
    obtain ⟨a, vs, rfl, sq, rs⟩ := h.lst
    obtain rfl : u = Value.ref a := r
    obtain ⟨its, r1, p1, _⟩ := I.list sq
    cases y with
    | tup ys =>
      obtain ⟨a', vs', rfl, sq', rs'⟩ := h'.tup
      obtain rfl : u' = Value.ref a' := r'
      obtain ⟨its', r2, p2, _⟩ := I.tuple sq'
      cases e
      exact SeqAt.RcAt.list_tuple p1.isList p2 hu0
    | lst ys =>
      obtain ⟨a', vs', rfl, sq', rs'⟩ := h'.lst
      obtain rfl : u' = Value.ref a' := r'
      obtain ⟨its', r2, p2, _⟩ := I.list sq'
      rw [peq_ll] at e
      have hd : (PV.lst xs).depth = pdepths xs + 1 := by rw [PV.depth]
      have e4 : its.toArray.size = xs.length := by rw [List.size_toArray, ← r1.length, rs.len]
      have e5 : its'.toArray.size = ys.length := by rw [List.size_toArray, ← r2.length, rs'.len]
      by_cases hl : xs.length = ys.length
      · rw [if_pos hl] at e
        have q := SeqAt.RcAt.lists (A := A) (s := s) (e := eAt xs ys) p1.isList p2.isList (by rw [e4, e5, hl]) (by omega) fun j h1 h2 => by
            have h1' : j < its.length := by simpa using h1
            have h2' : j < its'.length := by simpa using h2
            have := eqps I (A := A.in1) (j := j) (by show A.units + 1 + pdepths xs < cLine; omega) rs rs' r1 r2 e (List.getElem?_eq_getElem h1') (List.getElem?_eq_getElem h2')
            simpa using this
        have q2 := peqs_all e
        rw [hl, Nat.min_self, beq_self_eq_true, Bool.and_true] at q2
        rw [e4, hl, q2] at q
        exact q
      · rw [if_neg hl] at e
        cases e
        exact SeqAt.RcAt.lists_lengths p1.isList p2.isList (by rw [e4, e5]; simpa using hl) hu0
    | non => rw [h'.non] at r'; cases r'; cases e; exact SeqAt.RcAt.list_none p1.isList hu0
    | bl k => rw [h'.bl] at r'; cases r'; cases e; exact SeqAt.RcAt.list_bool k p1.isList hu0
    | int k => rw [h'.int] at r'; obtain ⟨t, rfl⟩ := r'; cases e; exact SeqAt.RcAt.list_int k t p1.isList hu0
    | str k => rw [h'.str] at r'; obtain ⟨t, rfl⟩ := r'; cases e; exact SeqAt.RcAt.list_str k t p1.isList hu0
    | _ => cases e
  | non =>
    rw [h.non] at r
    cases r
    cases y with
    | non => rw [h'.non] at r'; cases r'; cases e; exact SeqAt.RcAt.none_none
    | bl k => rw [h'.bl] at r'; cases r'; cases e; exact SeqAt.RcAt.none_bool k
    | int k => rw [h'.int] at r'; obtain ⟨t, rfl⟩ := r'; cases e; exact SeqAt.RcAt.none_int k t
    | str k => rw [h'.str] at r'; obtain ⟨t, rfl⟩ := r'; cases e; exact SeqAt.RcAt.none_str k t
    | tup ys =>
      obtain ⟨a', vs', rfl, sq', rs'⟩ := h'.tup
      obtain rfl : u' = Value.ref a' := r'
      obtain ⟨its', r2, p2, _⟩ := I.tuple sq'
      cases e
      exact SeqAt.RcAt.none_tuple p2 hu0
    | lst ys =>
      obtain ⟨a', vs', rfl, sq', rs'⟩ := h'.lst
      obtain rfl : u' = Value.ref a' := r'
      obtain ⟨its', r2, p2, _⟩ := I.list sq'
      cases e
      exact SeqAt.RcAt.none_list p2.isList hu0
    | _ => cases e
  | bl k0 =>
    rw [h.bl] at r
    cases r
    cases y with
    | non => rw [h'.non] at r'; cases r'; cases e; exact SeqAt.RcAt.bool_none k0
    | bl k => rw [h'.bl] at r'; cases r'; cases e; exact SeqAt.RcAt.bool_bool k0 k
    | int k => rw [h'.int] at r'; obtain ⟨t, rfl⟩ := r'; cases e; exact SeqAt.RcAt.bool_int k0 k t
    | str k => rw [h'.str] at r'; obtain ⟨t, rfl⟩ := r'; cases e; exact SeqAt.RcAt.bool_str k0 k t
    | tup ys =>
      obtain ⟨a', vs', rfl, sq', rs'⟩ := h'.tup
      obtain rfl : u' = Value.ref a' := r'
      obtain ⟨its', r2, p2, _⟩ := I.tuple sq'
      cases e
      exact SeqAt.RcAt.bool_tuple k0 p2 hu0
    | lst ys =>
      obtain ⟨a', vs', rfl, sq', rs'⟩ := h'.lst
      obtain rfl : u' = Value.ref a' := r'
      obtain ⟨its', r2, p2, _⟩ := I.list sq'
      cases e
      exact SeqAt.RcAt.bool_list k0 p2.isList hu0
    | _ => cases e
  | int k0 =>
    rw [h.int] at r
    obtain ⟨t0, rfl⟩ := r
    cases y with
    | non => rw [h'.non] at r'; cases r'; cases e; exact SeqAt.RcAt.int_none k0 t0
    | bl k => rw [h'.bl] at r'; cases r'; cases e; exact SeqAt.RcAt.int_bool k0 t0 k
    | int k => rw [h'.int] at r'; obtain ⟨t, rfl⟩ := r'; cases e; exact SeqAt.RcAt.int_int k0 t0 k t
    | str k => rw [h'.str] at r'; obtain ⟨t, rfl⟩ := r'; cases e; exact SeqAt.RcAt.int_str k0 t0 k t
    | tup ys =>
      obtain ⟨a', vs', rfl, sq', rs'⟩ := h'.tup
      obtain rfl : u' = Value.ref a' := r'
      obtain ⟨its', r2, p2, _⟩ := I.tuple sq'
      cases e
      exact SeqAt.RcAt.int_tuple k0 t0 p2 hu0
    | lst ys =>
      obtain ⟨a', vs', rfl, sq', rs'⟩ := h'.lst
      obtain rfl : u' = Value.ref a' := r'
      obtain ⟨its', r2, p2, _⟩ := I.list sq'
      cases e
      exact SeqAt.RcAt.int_list k0 t0 p2.isList hu0
    | _ => cases e
  | str k0 =>
    rw [h.str] at r
    obtain ⟨t0, rfl⟩ := r
    cases y with
    | non => rw [h'.non] at r'; cases r'; cases e; exact SeqAt.RcAt.str_none k0 t0
    | bl k => rw [h'.bl] at r'; cases r'; cases e; exact SeqAt.RcAt.str_bool k0 t0 k
    | int k => rw [h'.int] at r'; obtain ⟨t, rfl⟩ := r'; cases e; exact SeqAt.RcAt.str_int k0 t0 k t
    | str k => rw [h'.str] at r'; obtain ⟨t, rfl⟩ := r'; cases e; exact SeqAt.RcAt.str_str k0 t0 k t
    | tup ys =>
      obtain ⟨a', vs', rfl, sq', rs'⟩ := h'.tup
      obtain rfl : u' = Value.ref a' := r'
      obtain ⟨its', r2, p2, _⟩ := I.tuple sq'
      cases e
      exact SeqAt.RcAt.str_tuple k0 t0 p2 hu0
    | lst ys =>
      obtain ⟨a', vs', rfl, sq', rs'⟩ := h'.lst
      obtain rfl : u' = Value.ref a' := r'
      obtain ⟨its', r2, p2, _⟩ := I.list sq'
      cases e
      exact SeqAt.RcAt.str_list k0 t0 p2.isList hu0
    | _ => cases e
  | obj _ _ => cases y <;> cases e
  | dic _ _ => cases y <;> cases e
  | dit _ _ => cases y <;> cases e
  | dbo _ _ => cases y <;> cases e
  | clo _ _ => cases y <;> cases e
theorem rnp (I : Inv X pins σ H s) : ∀ {x y : PV} {v v' : V} {u u' : Value} {A : Around} {b : Bool}, A.units + x.depth < cLine → RepB X.K G H A0 x v → RepB X.K G H A0 y v' → RelV v u → RelV v' u' → peq x y = some b → SeqAt.RcNeAt A s u u' (!b) := by
  intro x y v v' u u' A b hu h h' r r' e
  have hu0 : A.units < cLine := Nat.lt_of_le_of_lt (Nat.le_add_right _ _) hu
  cases x with
  | tup xs =>
    obtain ⟨a, vs, rfl, sq, rs⟩ := h.tup
    obtain rfl : u = Value.ref a := r
    obtain ⟨its, r1, p1, _⟩ := I.tuple sq
    cases y with
    | tup ys =>
      obtain ⟨a', vs', rfl, sq', rs'⟩ := h'.tup
      obtain rfl : u' = Value.ref a' := r'
      obtain ⟨its', r2, p2, _⟩ := I.tuple sq'
      rw [peq_tt] at e
      have hd : (PV.tup xs).depth = pdepths xs + 1 := by rw [PV.depth]
      have e4 : its.toArray.size = xs.length := by rw [List.size_toArray, ← r1.length, rs.len]
      have e5 : its'.toArray.size = ys.length := by rw [List.size_toArray, ← r2.length, rs'.len]
      have q := SeqAt.RcNeAt.tuples (A := A) (s := s) (e := eAt xs ys) p1 p2 (by omega) fun j h1 h2 => by
          have h1' : j < its.length := by simpa using h1
          have h2' : j < its'.length := by simpa using h2
          have := eqps I (A := A.in1) (j := j) (by show A.units + 1 + pdepths xs < cLine; omega) rs rs' r1 r2 e (List.getElem?_eq_getElem h1') (List.getElem?_eq_getElem h2')
          simpa using this
      rw [e4, e5, peqs_all e] at q
      exact q
    | lst ys =>
      obtain ⟨a', vs', rfl, sq', rs'⟩ := h'.lst
      obtain rfl : u' = Value.ref a' := r'
      obtain ⟨its', r2, p2, _⟩ := I.list sq'
      cases e
      exact SeqAt.RcNeAt.tuple_list p1 p2.isList hu0
    | non => rw [h'.non] at r'; cases r'; cases e; exact SeqAt.RcNeAt.tuple_none p1 hu0
    | bl k => rw [h'.bl] at r'; cases r'; cases e; exact SeqAt.RcNeAt.tuple_bool k p1 hu0
    | int k => rw [h'.int] at r'; obtain ⟨t, rfl⟩ := r'; cases e; exact SeqAt.RcNeAt.tuple_int k t p1 hu0
    | str k => rw [h'.str] at r'; obtain ⟨t, rfl⟩ := r'; cases e; exact SeqAt.RcNeAt.tuple_str k t p1 hu0
    | _ => cases e
  | lst xs =>
    obtain ⟨a, vs, rfl, sq, rs⟩ := h.lst
    obtain rfl : u = Value.ref a := r
    obtain ⟨its, r1, p1, _⟩ := I.list sq
    cases y with
    | tup ys =>
      obtain ⟨a', vs', rfl, sq', rs'⟩ := h'.tup
      obtain rfl : u' = Value.ref a' := r'
      obtain ⟨its', r2, p2, _⟩ := I.tuple sq'
      cases e
      exact SeqAt.RcNeAt.list_tuple p1.isList p2 hu0
    | lst ys =>
      obtain ⟨a', vs', rfl, sq', rs'⟩ := h'.lst
      obtain rfl : u' = Value.ref a' := r'
      obtain ⟨its', r2, p2, _⟩ := I.list sq'
      rw [peq_ll] at e
      have hd : (PV.lst xs).depth = pdepths xs + 1 := by rw [PV.depth]
      have e4 : its.toArray.size = xs.length := by rw [List.size_toArray, ← r1.length, rs.len]
      have e5 : its'.toArray.size = ys.length := by rw [List.size_toArray, ← r2.length, rs'.len]
      by_cases hl : xs.length = ys.length
      · rw [if_pos hl] at e
        have q := SeqAt.RcNeAt.lists (A := A) (s := s) (e := eAt xs ys) p1.isList p2.isList (by rw [e4, e5, hl]) (by omega) fun j h1 h2 => by
            have h1' : j < its.length := by simpa using h1
            have h2' : j < its'.length := by simpa using h2
            have := eqps I (A := A.in1) (j := j) (by show A.units + 1 + pdepths xs < cLine; omega) rs rs' r1 r2 e (List.getElem?_eq_getElem h1') (List.getElem?_eq_getElem h2')
            simpa using this
        have q2 := peqs_all e
        rw [hl, Nat.min_self, beq_self_eq_true, Bool.and_true] at q2
        rw [e4, hl, q2] at q
        exact q
      · rw [if_neg hl] at e
        cases e
        exact SeqAt.RcNeAt.lists_lengths p1.isList p2.isList (by rw [e4, e5]; simpa using hl) hu0
    | non => rw [h'.non] at r'; cases r'; cases e; exact SeqAt.RcNeAt.list_none p1.isList hu0
    | bl k => rw [h'.bl] at r'; cases r'; cases e; exact SeqAt.RcNeAt.list_bool k p1.isList hu0
    | int k => rw [h'.int] at r'; obtain ⟨t, rfl⟩ := r'; cases e; exact SeqAt.RcNeAt.list_int k t p1.isList hu0
    | str k => rw [h'.str] at r'; obtain ⟨t, rfl⟩ := r'; cases e; exact SeqAt.RcNeAt.list_str k t p1.isList hu0
    | _ => cases e
  | non =>
    rw [h.non] at r
    cases r
    cases y with
    | non => rw [h'.non] at r'; cases r'; cases e; exact SeqAt.RcNeAt.none_none
    | bl k => rw [h'.bl] at r'; cases r'; cases e; exact SeqAt.RcNeAt.none_bool k
    | int k => rw [h'.int] at r'; obtain ⟨t, rfl⟩ := r'; cases e; exact SeqAt.RcNeAt.none_int k t
    | str k => rw [h'.str] at r'; obtain ⟨t, rfl⟩ := r'; cases e; exact SeqAt.RcNeAt.none_str k t
    | tup ys =>
      obtain ⟨a', vs', rfl, sq', rs'⟩ := h'.tup
      obtain rfl : u' = Value.ref a' := r'
      obtain ⟨its', r2, p2, _⟩ := I.tuple sq'
      cases e
      exact SeqAt.RcNeAt.none_tuple p2 hu0
    | lst ys =>
      obtain ⟨a', vs', rfl, sq', rs'⟩ := h'.lst
      obtain rfl : u' = Value.ref a' := r'
      obtain ⟨its', r2, p2, _⟩ := I.list sq'
      cases e
      exact SeqAt.RcNeAt.none_list p2.isList hu0
    | _ => cases e
  | bl k0 =>
    rw [h.bl] at r
    cases r
    cases y with
    | non => rw [h'.non] at r'; cases r'; cases e; exact SeqAt.RcNeAt.bool_none k0
    | bl k => rw [h'.bl] at r'; cases r'; cases e; exact SeqAt.RcNeAt.bool_bool k0 k
    | int k => rw [h'.int] at r'; obtain ⟨t, rfl⟩ := r'; cases e; exact SeqAt.RcNeAt.bool_int k0 k t
    | str k => rw [h'.str] at r'; obtain ⟨t, rfl⟩ := r'; cases e; exact SeqAt.RcNeAt.bool_str k0 k t
    | tup ys =>
      obtain ⟨a', vs', rfl, sq', rs'⟩ := h'.tup
      obtain rfl : u' = Value.ref a' := r'
      obtain ⟨its', r2, p2, _⟩ := I.tuple sq'
      cases e
      exact SeqAt.RcNeAt.bool_tuple k0 p2 hu0
    | lst ys =>
      obtain ⟨a', vs', rfl, sq', rs'⟩ := h'.lst
      obtain rfl : u' = Value.ref a' := r'
      obtain ⟨its', r2, p2, _⟩ := I.list sq'
      cases e
      exact SeqAt.RcNeAt.bool_list k0 p2.isList hu0
    | _ => cases e
  | int k0 =>
    rw [h.int] at r
    obtain ⟨t0, rfl⟩ := r
    cases y with
    | non => rw [h'.non] at r'; cases r'; cases e; exact SeqAt.RcNeAt.int_none k0 t0
    | bl k => rw [h'.bl] at r'; cases r'; cases e; exact SeqAt.RcNeAt.int_bool k0 t0 k
    | int k => rw [h'.int] at r'; obtain ⟨t, rfl⟩ := r'; cases e; exact SeqAt.RcNeAt.int_int k0 t0 k t
    | str k => rw [h'.str] at r'; obtain ⟨t, rfl⟩ := r'; cases e; exact SeqAt.RcNeAt.int_str k0 t0 k t
    | tup ys =>
      obtain ⟨a', vs', rfl, sq', rs'⟩ := h'.tup
      obtain rfl : u' = Value.ref a' := r'
      obtain ⟨its', r2, p2, _⟩ := I.tuple sq'
      cases e
      exact SeqAt.RcNeAt.int_tuple k0 t0 p2 hu0
    | lst ys =>
      obtain ⟨a', vs', rfl, sq', rs'⟩ := h'.lst
      obtain rfl : u' = Value.ref a' := r'
      obtain ⟨its', r2, p2, _⟩ := I.list sq'
      cases e
      exact SeqAt.RcNeAt.int_list k0 t0 p2.isList hu0
    | _ => cases e
  | str k0 =>
    rw [h.str] at r
    obtain ⟨t0, rfl⟩ := r
    cases y with
    | non => rw [h'.non] at r'; cases r'; cases e; exact SeqAt.RcNeAt.str_none k0 t0
    | bl k => rw [h'.bl] at r'; cases r'; cases e; exact SeqAt.RcNeAt.str_bool k0 t0 k
    | int k => rw [h'.int] at r'; obtain ⟨t, rfl⟩ := r'; cases e; exact SeqAt.RcNeAt.str_int k0 t0 k t
    | str k => rw [h'.str] at r'; obtain ⟨t, rfl⟩ := r'; cases e; exact SeqAt.RcNeAt.str_str k0 t0 k t
    | tup ys =>
      obtain ⟨a', vs', rfl, sq', rs'⟩ := h'.tup
      obtain rfl : u' = Value.ref a' := r'
      obtain ⟨its', r2, p2, _⟩ := I.tuple sq'
      cases e
      exact SeqAt.RcNeAt.str_tuple k0 t0 p2 hu0
    | lst ys =>
      obtain ⟨a', vs', rfl, sq', rs'⟩ := h'.lst
      obtain rfl : u' = Value.ref a' := r'
      obtain ⟨its', r2, p2, _⟩ := I.list sq'
      cases e
      exact SeqAt.RcNeAt.str_list k0 t0 p2.isList hu0
    | _ => cases e
  | obj _ _ => cases y <;> cases e
  | dic _ _ => cases y <;> cases e
  | dit _ _ => cases y <;> cases e
  | dbo _ _ => cases y <;> cases e
  | clo _ _ => cases y <;> cases e
/-! ### == and != -/
def fEq (x y : PV) : Rx PV := if x.depth < 100 then (match peq x y with | some b => .ok (.bl b) | none => .bad) else .bad
def fNe (x y : PV) : Rx PV := if x.depth < 100 then (match peq x y with | some b => .ok (.bl (!b)) | none => .bad) else .bad
def rEqP (K : PySem.W.Frag) (G : Pg) (neg : Bool) : R2 := fun v u H Q => ∃ A x y b, x.depth < 100 ∧ RepB K G H A x v ∧ RepB K G H A y u ∧ peq x y = some b ∧ Q (.bl (if neg then !b else b)) H
theorem op_eqP (hu : X.A.units + 100 < cLine) : OpR X (compareOp .Eq) (rEqP X.K G false) := by
  intro pins s σ H v u v' u' Q I rx ry h
  obtain ⟨A, x, y, b, hd, h1, h2, e, q⟩ := h
  exact rcp I (by omega) h1 h2 rx ry e X.prog X.w _ _ ⟨.bl b, H, I, rfl, q⟩
theorem op_neP (hu : X.A.units + 100 < cLine) : OpR X (compareOp .NotEq) (rEqP X.K G true) := by
  intro pins s σ H v u v' u' Q I rx ry h
  obtain ⟨A, x, y, b, hd, h1, h2, e, q⟩ := h
  exact rnp I (by omega) h1 h2 rx ry e X.prog X.w _ _ ⟨.bl (!b), H, I, rfl, q⟩
theorem o2_eq {K : PySem.W.Frag} : Op2 K G fEq (rEqP K G false) := by
  intro H A x y w v u Q hu e r1 r2 q
  unfold fEq at e
  split at e
  · rename_i hd
    split at e
    · rename_i b hb; cases e; exact ⟨A, x, y, b, hd, r1, r2, hb, q _ H (Same.refl H) rfl⟩
    · cases e
  · cases e
theorem o2_ne {K : PySem.W.Frag} : Op2 K G fNe (rEqP K G true) := by
  intro H A x y w v u Q hu e r1 r2 q
  unfold fNe at e
  split at e
  · rename_i hd
    split at e
    · rename_i b hb; cases e; exact ⟨A, x, y, b, hd, r1, r2, hb, q _ H (Same.refl H) rfl⟩
    · cases e
  · cases e
section
variable {e a b : Expr} {da db : DP} {pos : Pos}
theorem hu100 {A : Around} {k : Nat} (hr : Room k A) : A.units + 100 < cLine := by have := hr.un; omega
theorem p_eq {k : Nat} (hr : Room k X.A) (ha : JB X G a da) (hb : JB X G b db) : JP X G (.Compare a [.Eq] [b] pos) (d2 fEq da db) := p_cmp (op_eqP (hu100 hr)) o2_eq ha hb (nomark _)
theorem t_eq {k : Nat} (hr : Room k X.A) (ha : JB X G a da) (hb : JB X G b db) : JT X G (.Compare a [.Eq] [b] pos) (dTr (d2 fEq da db)) := t_cmp (op_eqP (hu100 hr)) o2_eq ha hb (nomark _)
theorem t_ne {k : Nat} (hr : Room k X.A) (ha : JB X G a da) (hb : JB X G b db) : JT X G (.Compare a [.NotEq] [b] pos) (dTr (d2 fNe da db)) := t_cmp (op_neP (hu100 hr)) o2_ne ha hb (nomark _)
end
end
end DN
end
section
set_option Elab.async false
set_option linter.all false
set_option maxRecDepth 100000
set_option maxHeartbeats 4000000
namespace DN
open PySem PySem.Spec PyProof.Rows L2
/-! ### tables -/
section
variable {P : Program} {w : World} {K : PySem.W.Frag} {mg : Str → Option Value} {base : Bs} {G : Pg} {n : Nat} {m f : Str} {ms : List Bool}
theorem look_cons {α : Type} {c c' : Nat} {x y : α} {l : List (Nat × α)} (h : List.lookup c' ((c, x) :: l) = some y) : (c' = c ∧ y = x) ∨ l.lookup c' = some y := by
  rw [List.lookup_cons] at h
  by_cases e : c' = c
  · subst e
    simp at h
    exact .inl ⟨rfl, h.symm⟩
  · have : (c' == c) = false := by simpa using e
    rw [this] at h
    exact .inr h
theorem mt_nil {g : Nat → List PV → Rx PV} : MtOk P w K mg base G n m ms [] g := ⟨fun c f h => by simp at h⟩
theorem mt_cons {g : Nat → List PV → Rx PV} {c fi : Nat} {l : List (Nat × Nat)} (h : MethAt P w K mg base CX0 n (G.cA c) m (spG K G (false :: ms) (g fi))) (hm : m ∉ G.fN c) (r : MtOk P w K mg base G n m ms l g) : MtOk P w K mg base G n m ms ((c, fi) :: l) g :=
  ⟨fun c' f' e => by
    rcases look_cons e with ⟨rfl, rfl⟩ | e
    · exact ⟨h, hm⟩
    · exact r.all c' f' e⟩
theorem fl_nil : FldOk K G f [] := ⟨fun c j h => by simp at h⟩
theorem fl_cons {c j : Nat} {l : List (Nat × Nat)} (h1 : Cls K (G.cA c)) (h2 : NoAttr K (G.cA c) f) (h3 : (G.fN c).Nodup) (h4 : (G.fN c)[j]? = some f) (r : FldOk K G f l) : FldOk K G f ((c, j) :: l) :=
  ⟨fun c' f' e => by
    rcases look_cons e with ⟨rfl, rfl⟩ | e
    · exact ⟨h1, h2, h3, h4⟩
    · exact r.all c' f' e⟩
theorem is_nil {cv : Value} : IsiOk K G cv [] := ⟨fun c j h => by simp at h, fun c j h => by simp at h, fun b h => by simp at h⟩
theorem is_cons {cv : Value} {q : Nat} {b : Bool} {l : List (Nat × Bool)} (h1 : PySem.W.kitOne K (tyOfKd G q) cv = some b) (h2 : q < 9) (r : IsiOk K G cv l) : IsiOk K G cv ((q, b) :: l) :=
  ⟨fun c' f' e => by
    rcases look_cons e with ⟨rfl, rfl⟩ | e
    · exact h1
    · exact r.kit c' f' e, fun c' f' e => by
    rcases look_cons e with ⟨z, rfl⟩ | e
    · omega
    · exact r.cls c' f' e, fun b e => by
    rcases look_cons e with ⟨z, rfl⟩ | e
    · omega
    · exact r.n9 b e⟩
theorem is_consC {cv : Value} {c : Nat} {b : Bool} {l : List (Nat × Bool)} (h1 : PySem.W.kitOne K (.ref (G.cA c)) cv = some b) (h2 : ClsTy K (G.cA c)) (r : IsiOk K G cv l) : IsiOk K G cv ((c + 10, b) :: l) :=
  ⟨fun c' f' e => by
    rcases look_cons e with ⟨rfl, rfl⟩ | e
    · exact h1
    · exact r.kit c' f' e, fun c' f' e => by
    rcases look_cons e with ⟨z, rfl⟩ | e
    · have : c' = c := by omega
      subst this; exact h2
    · exact r.cls c' f' e, fun b e => by
    rcases look_cons e with ⟨z, rfl⟩ | e
    · omega
    · exact r.n9 b e⟩
theorem clsTy {C : Addr} (h : ClsF K C) : ClsTy K C := fun H a dx fs e => h.ty e
theorem ty_only {n : String} : ∀ u, RelV (V.ty n) u → u = Value.type n := fun _ h => h
theorem spG_none {f : Addr} {fd : FuncData} {ps : List Str} {g : List PV → Rx PV} (h : ∀ ws, g ws = .bad) : FnOk P w K mg base CX0 n f fd ps (spG K G ms g) := fn_none fun vs H Q E ⟨A, ws, w, u, r, e, q⟩ => by rw [h] at e; cases e
end
theorem gk_set {i : Nat} : ∀ (w : PV) (ps ps' : PSt), gSet i w ps = .ok ps' → ∀ (j : Nat) (x : Ow), ps'[j]? = some (Sl.own x) → ps[j]? = some (Sl.own x) := by
  intro w ps ps' e j x h
  cases e
  by_cases hj : j = i
  · subst hj
    have hl : j < ps.length := by
      have := (List.getElem?_eq_some_iff.mp h).1
      simpa using this
    rw [List.getElem?_set_self hl] at h
    cases h
  · rw [List.getElem?_set_ne (fun z => hj z.symm)] at h
    exact h
/-! ### the law -/
theorem law_sp {K : PySem.W.Frag} {G : Pg} {H : Hp} {a : Addr} {ns : List Int} {g : List PV → Rx PV} (hO : Only H) (hS : SqL K H a (ns.map V.int)) (hg : g [.lst (ns.map PV.int)] = .ok (.bl true)) : spG K G [false] g [.ref a] H (fun v _ => v = .bl true) fun _ _ _ => False := by
  refine ⟨fun _ => False, [.lst (ns.map PV.int)], .bl true, fun a z => z.elim, ⟨_, _, _, _, rfl, rfl, ?_, rfl, rfl⟩, hg, fun v H' s r => r⟩
  rw [if_neg Bool.false_ne_true]
  refine ⟨a, _, rfl, ?_, Reps.ints ns⟩
  rcases hS with (h | ⟨o, h⟩) | h
  · exact .inl ⟨h, fun z => z⟩
  · exact .inr (.inl ⟨o, h⟩)
  · exact .inr (.inr h)
end DN
end
section
set_option Elab.async false
set_option linter.all false
set_option maxRecDepth 100000
set_option maxHeartbeats 4000000
namespace DN
open PySem PySem.Spec PyProof.Rows L2
section
variable {X : Cx} {G : Pg} {e a b o tg : Expr} {es : List Expr} {da db : DP} {d : DA} {pos p apos cpos : Pos} {x m : Str} {k i : Nat}
end
/-! ### the law's promise, whatever the classes' addresses -/
def spL (K : PySem.W.Frag) (fN : Nat → List Str) (nF : Nat → Nst) (g : List PV → Rx PV) : Sp := fun vs H Q E => ∀ cA, spG K ⟨cA, fN, nF⟩ [false] g vs H Q E
theorem law_of {P : Program} {w : World} {K : PySem.W.Frag} {mg : Str → Option Value} {k : Nat} {fa : Addr} {x : Str} {fN : Nat → List Str} {nF : Nat → Nst} {g : List PV → Rx PV} {ts : List Addr}
    (h : ∃ (cA : Nat → Addr) (fd : FuncData), (∀ (s : Shared) (v : Value), BindsTo s fd ⟨[v], []⟩ [(x, v)]) ∧ ∀ base : Bs, K.In base → base.Ns mainGlobals mg → base.tabs = ts → FnOk P w K mg base CX0 k fa fd [x] (spG K ⟨cA, fN, nF⟩ [false] g)) :
    ∃ fd : FuncData, (∀ (s : Shared) (v : Value), BindsTo s fd ⟨[v], []⟩ [(x, v)]) ∧ ∀ base : Bs, K.In base → base.Ns mainGlobals mg → base.tabs = ts → FnOk P w K mg base CX0 k fa fd [x] (spL K fN nF g) := by
  obtain ⟨cA, fd, h1, h2⟩ := h
  exact ⟨fd, h1, fun base k1 k2 k3 => (h2 base k1 k2 k3).imp fun vs H Q E q => q cA⟩
end DN
end
section
set_option Elab.async false
set_option linter.all false
set_option maxRecDepth 100000
set_option maxHeartbeats 4000000
namespace DN
open PySem L2
/-! ### the mirrors' parts as equations -/
def fin : Rs → Rx PV
  | .ret w => .ok w
  | .retn xs => .ok (.lst xs)
  | .nx _ => .ok .non
  | .exc c => .exc c
  | _ => .bad
theorem runD_eq (ms : List Bool) (n : Nat) (d : DS) (ws : List PV) : runD ms n d ws = if ws.length = ms.length then fin (d (inP ms n ws)) else .bad := by
  unfold runD fin
  split
  · cases d (inP ms n ws) <;> rfl
  · rfl
theorem runD_of {ms : List Bool} {n : Nat} {d : DS} {ws : List PV} (h : ws.length = ms.length) : runD ms n d ws = fin (d (inP ms n ws)) := by rw [runD_eq, if_pos h]
@[simp] theorem fin_ret (w : PV) : fin (.ret w) = .ok w := rfl
@[simp] theorem fin_retn (xs : List PV) : fin (.retn xs) = .ok (.lst xs) := rfl
def finW : Rs → Rx PV
  | .retn xs => .ok (.lst xs)
  | .exc c => .exc c
  | _ => .bad
@[simp] theorem finW_retn (xs : List PV) : finW (.retn xs) = .ok (.lst xs) := rfl
@[simp] theorem finW_exc (c : Nat) : finW (.exc c) = .exc c := rfl
@[simp] theorem fin_nx (ps : PSt) : fin (.nx ps) = .ok .non := rfl
@[simp] theorem fin_exc (c : Nat) : fin (.exc c) = .exc c := rfl
def isiK (l : List (Nat × Bool)) (q : Nat) : Rx PV := match l.lookup q with | some b => .ok (.bl b) | none => .bad
def isiP (l : List (Nat × Bool)) (x : PV) : Rx PV := isiK l (kd x)
@[simp] theorem isiP_non (l : List (Nat × Bool)) : isiP l .non = isiK l 0 := rfl
@[simp] theorem isiP_bl (l : List (Nat × Bool)) (b : Bool) : isiP l (.bl b) = isiK l 1 := rfl
@[simp] theorem isiP_int (l : List (Nat × Bool)) (b : Int) : isiP l (.int b) = isiK l 2 := rfl
@[simp] theorem isiP_str (l : List (Nat × Bool)) (b : Str) : isiP l (.str b) = isiK l 3 := rfl
@[simp] theorem isiP_tup (l : List (Nat × Bool)) (b : List PV) : isiP l (.tup b) = isiK l 4 := rfl
@[simp] theorem isiP_lst (l : List (Nat × Bool)) (b : List PV) : isiP l (.lst b) = isiK l 5 := rfl
@[simp] theorem isiP_obj (l : List (Nat × Bool)) (k : Nat) (b : List PV) : isiP l (.obj k b) = isiK l (k + 10) := rfl
/-! what follows is taken up only when the way is known -/
def Rs.next (x : Rs) (r : DS) : Rs := match x with | .nx ps' => r ps' | y => y
def ifR (x : Rx Bool) (s r : DS) (ps : PSt) : Rs := x.st fun b => if b = true then s ps else r ps
def andR (x : Rx Bool) (u : DT) (ps : PSt) : Rx Bool := x.bind fun b => if b = true then u ps else .ok false
def orR (x : Rx Bool) (u : DT) (ps : PSt) : Rx Bool := x.bind fun b => if b = true then .ok true else u ps
def andVR (x : Rx PV) (b : DP) (ps : PSt) : Rx PV := x.bind fun y => match y with | .bl true => b ps | .bl false => .ok (.bl false) | _ => .bad
def orVR (x : Rx PV) (b : DP) (ps : PSt) : Rx PV := x.bind fun y => match y with | .bl true => .ok (.bl true) | .bl false => b ps | _ => .bad
def ifVR (x : Rx Bool) (a b : DP) (ps : PSt) : Rx PV := x.bind fun y => if y = true then a ps else b ps
def bind2 (x y : Rx PV) (f : PV → PV → Rx PV) : Rx PV := x.bind fun u => y.bind fun v => f u v
def consR (x : Rx PV) (xs : Rx (List PV)) : Rx (List PV) := x.bind fun u => xs.bind fun us => .ok (u :: us)
section
variable (ps : PSt) (i : Nat) (a b : DP) (d : DA) (t u : DT) (s r : DS) (f : PV → PV → Rx PV)
@[simp] theorem next_nx : (Rs.nx ps).next r = r ps := rfl
@[simp] theorem next_ret (w : PV) : (Rs.ret w).next r = .ret w := rfl
@[simp] theorem next_retn (xs : List PV) : (Rs.retn xs).next r = .retn xs := rfl
@[simp] theorem next_reti (w : PV) (x : Ow) : (Rs.reti w x).next r = .reti w x := rfl
@[simp] theorem next_brk : (Rs.brk ps).next r = .brk ps := rfl
@[simp] theorem next_cnt : (Rs.cnt ps).next r = .cnt ps := rfl
@[simp] theorem next_exc (c : Nat) : (Rs.exc c).next r = .exc c := rfl
@[simp] theorem ifR_t : ifR (.ok true) s r ps = s ps := rfl
@[simp] theorem ifR_f : ifR (.ok false) s r ps = r ps := rfl
@[simp] theorem ifR_x (c : Nat) : ifR (.exc c) s r ps = .exc c := rfl
@[simp] theorem andR_t : andR (.ok true) t ps = t ps := rfl
@[simp] theorem andR_f : andR (.ok false) t ps = .ok false := rfl
@[simp] theorem orR_t : orR (.ok true) t ps = .ok true := rfl
@[simp] theorem orR_f : orR (.ok false) t ps = t ps := rfl
@[simp] theorem andVR_t : andVR (.ok (.bl true)) b ps = b ps := rfl
@[simp] theorem andVR_f : andVR (.ok (.bl false)) b ps = .ok (.bl false) := rfl
@[simp] theorem orVR_t : orVR (.ok (.bl true)) b ps = .ok (.bl true) := rfl
@[simp] theorem orVR_f : orVR (.ok (.bl false)) b ps = b ps := rfl
@[simp] theorem ifVR_t : ifVR (.ok true) a b ps = a ps := rfl
@[simp] theorem ifVR_f : ifVR (.ok false) a b ps = b ps := rfl
@[simp] theorem bind2_ok (x y : PV) : bind2 (.ok x) (.ok y) f = f x y := rfl
@[simp] theorem consR_ok (x : PV) (xs : List PV) : consR (.ok x) (.ok xs) = .ok (x :: xs) := rfl
@[simp] theorem e_var : dVar i ps = match ps[i]? with | some (.v w) => .ok w | _ => .bad := rfl
@[simp] theorem e_see : dSee i ps = match ps[i]? with | some (.v w) => .ok w | some (.own x) => .ok x.pv | some (.bor w) => .ok w | some (.dol ks xss) => .ok (.dbo ks (xss.map PV.lst)) | _ => .bad := rfl
@[simp] theorem e_C (w : PV) : dC w ps = .ok w := rfl
@[simp] theorem e_2 : d2 f a b ps = bind2 (a ps) (b ps) f := rfl
@[simp] theorem e_Tr : dTr a ps = (a ps).bind fun x => match x with | .bl b => .ok b | _ => .bad := rfl
@[simp] theorem e_andT : dAndT t u ps = andR (t ps) u ps := rfl
@[simp] theorem e_orT : dOrT t u ps = orR (t ps) u ps := rfl
@[simp] theorem e_notT : dNotT t ps = (t ps).bind fun x => .ok (!x) := rfl
@[simp] theorem e_andV : dAndV a b ps = andVR (a ps) b ps := rfl
@[simp] theorem e_orV : dOrV a b ps = orVR (a ps) b ps := rfl
@[simp] theorem e_notV : dNotV a ps = (a ps).bind fun x => match x with | .bl k => .ok (.bl (!k)) | _ => .bad := rfl
@[simp] theorem e_neg : dNeg a ps = (a ps).bind fun x => match x with | .int i => .ok (.int (-i)) | _ => .bad := rfl
@[simp] theorem e_ifV : dIfV t a b ps = ifVR (t ps) a b ps := rfl
@[simp] theorem e_isN : dIsN a ps = (a ps).bind fun x => .ok (.bl (isN x)) := rfl
@[simp] theorem e_notN : dNotN a ps = (a ps).bind fun x => .ok (.bl (!isN x)) := rfl
@[simp] theorem e_nil : dNil ps = .ok [] := rfl
@[simp] theorem e_cons : dCons a d ps = consR (a ps) (d ps) := rfl
@[simp] theorem e_tup : dTup d ps = (d ps).bind fun ws => .ok (.tup ws) := rfl
@[simp] theorem e_ofN : dOfN d ps = (d ps).bind fun ws => .ok (.lst ws) := rfl
@[simp] theorem e_call (g : List PV → Rx PV) : dCall g d ps = (d ps).bind g := rfl
@[simp] theorem e_callN (g : List PV → Rx (List PV)) : dCallN g d ps = (d ps).bind g := rfl
@[simp] theorem e_new (c : Nat) : dNew c d ps = (d ps).bind fun ws => .ok (.obj c ws) := rfl
@[simp] theorem e_items : dItems a ps = (a ps).bind fun x => match x with | .lst xs => .ok xs | _ => .bad := rfl
@[simp] theorem e_itemsT : dItemsT a ps = (a ps).bind fun x => match x with | .tup xs => .ok xs | _ => .bad := rfl
@[simp] theorem e_isi (l : List (Nat × Bool)) : dIsi l a ps = (a ps).bind (isiP l) := rfl
@[simp] theorem e_cut (dl dh : PSt → Rx (Option Int)) : dCut a dl dh ps = (a ps).bind fun x => (dl ps).bind fun lo => (dh ps).bind fun hi => match x with | .lst xs => .ok (cutP xs lo hi) | _ => .bad := rfl
@[simp] theorem e_O0 : dO0 ps = .ok none := rfl
@[simp] theorem e_O1 : dO1 a ps = (a ps).bind fun x => match x with | .int i => .ok (some i) | _ => .bad := rfl
@[simp] theorem e_catL : dCatL a b ps = (a ps).bind fun x => (b ps).bind fun y => match x, y with | .lst xs, .lst ys => if xs.length + ys.length ≤ sizeLine then .ok (xs ++ ys) else .bad | _, _ => .bad := rfl
@[simp] theorem e_next : sNext ps = .nx ps := rfl
@[simp] theorem e_brk : sBrk ps = .brk ps := rfl
@[simp] theorem e_cnt : sCnt ps = .cnt ps := rfl
@[simp] theorem e_seq : sSeq s r ps = (s ps).next r := rfl
@[simp] theorem e_set : sSet i a ps = (a ps).st fun w => .nx (ps.set i (.v w)) := rfl
@[simp] theorem e_setM (m : DM) : sSetM i m ps = (m ps).st fun w => .nx (w.2.set i (.v w.1)) := rfl
@[simp] theorem e_own : sOwn i d ps = (d ps).st fun ws => if i < ps.length then .nx (ps.set i (.own (.lst ws))) else .bad := rfl
@[simp] theorem e_asg (g : DG) : sAsg g a ps = (a ps).st fun w => (g w ps).st fun ps' => .nx ps' := rfl
@[simp] theorem e_expr (m : DM) : sExpr m ps = (m ps).st fun w => .nx w.2 := rfl
@[simp] theorem e_retW : sRetW d ps = (d ps).st fun xs => .retn xs := rfl
@[simp] theorem e_retO : sRetO i ps = match ps[i]? with | some (.own (.lst xs)) => .retn xs | _ => .bad := rfl
@[simp] theorem e_ret : sRet a ps = (a ps).st fun w => .ret w := rfl
@[simp] theorem e_retM (m : DM) : sRetM m ps = (m ps).st fun w => .ret w.1 := rfl
@[simp] theorem e_retN : sRetN ps = .ret .non := rfl
@[simp] theorem e_if : sIf t s r ps = ifR (t ps) s r ps := rfl
@[simp] theorem e_for (g : DG) : sFor d g s ps = (d ps).st fun ws => forD g s ws ps := rfl
@[simp] theorem e_lift : dLift a ps = (a ps).bind fun w => .ok (w, ps) := rfl
@[simp] theorem e_mnil : mNil ps = .ok ([], ps) := rfl
@[simp] theorem e_mcons (m : DM) (n : DMA) : mCons m n ps = (m ps).bind fun x => (n x.2).bind fun y => .ok (x.1 :: y.1, y.2) := rfl
@[simp] theorem e_mtup (n : DMA) : mTup n ps = (n ps).bind fun x => if x.1.length ≤ 1000 then .ok (.tup x.1, x.2) else .bad := rfl
@[simp] theorem e_mcall (n : DMA) (g : List PV → Rx PV) : mCall g n ps = (n ps).bind fun x => (g x.1).bind fun w => .ok (w, x.2) := rfl
@[simp] theorem e_frz : mFrz i ps = match ps[i]? with | some (.own y) => .ok (y.pv, ps.set i (.v y.pv)) | some (.v w) => .ok (w, ps) | _ => .bad := rfl
@[simp] theorem e_pop : mPop i ps = match ps[i]? with | some (.own (.lst xs)) => (match xs.getLast? with | some w => .ok (w, ps.set i (.own (.lst xs.dropLast))) | none => .bad) | _ => .bad := rfl
@[simp] theorem e_app (m : DM) : mApp i m ps = match ps[i]? with
  | some (.own (.lst _)) => (m ps).bind fun x => (match x.2[i]? with | some (.own (.lst xs)) => if xs.length < sizeLine then .ok (.non, x.2.set i (.own (.lst (xs ++ [x.1])))) else .bad | _ => .bad)
  | _ => .bad := rfl
@[simp] theorem e_gset (w : PV) : gSet i w ps = .ok (ps.set i (.v w)) := rfl
@[simp] theorem e_gnil : gNilD [] ps = .ok ps := rfl
@[simp] theorem e_gcons (g : DG) (gs : List PV → PSt → Rx PSt) (w : PV) (ws : List PV) : gConsD g gs (w :: ws) ps = (g w ps).bind fun ps' => gs ws ps' := rfl
@[simp] theorem e_gtup (n : Nat) (gs : List PV → PSt → Rx PSt) (ws : List PV) : gTupD n gs (.tup ws) ps = if ws.length = n then gs ws ps else .bad := rfl
@[simp] theorem e_fIi (g : Int → Int → PV) (x y : Int) : fI g (.int x) (.int y) = .ok (g x y) := rfl
@[simp] theorem e_fIc (C : Int → Int → Prop) [∀ i j, Decidable (C i j)] (g : Int → Int → PV) (x y : Int) : fIc C g (.int x) (.int y) = if C x y then .ok (g x y) else .bad := rfl
@[simp] theorem e_eqI (x y : Int) : fEq (.int x) (.int y) = .ok (.bl (x == y)) := rfl
@[simp] theorem e_eqS (x y : Str) : fEq (.str x) (.str y) = .ok (.bl (x == y)) := rfl
@[simp] theorem e_eqB (x y : Bool) : fEq (.bl x) (.bl y) = .ok (.bl (x == y)) := rfl
@[simp] theorem e_neI (x y : Int) : fNe (.int x) (.int y) = .ok (.bl (!(x == y))) := rfl
@[simp] theorem e_neS (x y : Str) : fNe (.str x) (.str y) = .ok (.bl (!(x == y))) := rfl
@[simp] theorem e_neB (x y : Bool) : fNe (.bl x) (.bl y) = .ok (.bl (!(x == y))) := rfl
@[simp] theorem e_ixL (xs : List PV) (j : Int) : fIx (.lst xs) (.int j) = match atI xs j with | some w => .ok w | none => .bad := rfl
@[simp] theorem e_ixT (xs : List PV) (j : Int) : fIx (.tup xs) (.int j) = match atI xs j with | some w => .ok w | none => .bad := rfl
@[simp] theorem e_lenL (xs : List PV) : bLen [.lst xs] = .ok (.int xs.length) := rfl
@[simp] theorem e_lenT (xs : List PV) : bLen [.tup xs] = .ok (.int xs.length) := rfl
@[simp] theorem e_fornil (g : DG) : forD g s [] ps = .nx ps := rfl
end
/-- a method of an object -/
def callM (tab : List (Nat × Nat)) (g : Nat → List PV → Rx PV) (x : PV) (ws : List PV) : Rx PV := match x with
  | .obj c xs => (match tab.lookup c with | some f => g f (.obj c xs :: ws) | none => .bad)
  | _ => .bad
def callD (tab : List (Nat × Nat)) (g : Nat → List PV → Rx PV) (x : PV) (m : Rx (List PV)) : Rx PV := match x with
  | .obj c xs => (match tab.lookup c with | some f => m.bind fun ws => g f (.obj c xs :: ws) | none => .bad)
  | _ => .bad
@[simp] theorem callD_ok (tab : List (Nat × Nat)) (g : Nat → List PV → Rx PV) (x : PV) (ws : List PV) : callD tab g x (.ok ws) = callM tab g x ws := rfl
@[simp] theorem e_meth (tab : List (Nat × Nat)) (g : Nat → List PV → Rx PV) (a : DP) (d : DA) (ps : PSt) : dMeth tab g a d ps = (a ps).bind fun x => callD tab g x (d ps) := rfl
def fldP (l : List (Nat × Nat)) (x : PV) : Rx PV := match x with
  | .obj k xs => (match l.lookup k with | some j => (match xs[j]? with | some w => .ok w | none => .bad) | none => .bad)
  | _ => .bad
@[simp] theorem e_fld (l : List (Nat × Nat)) (a : DP) (ps : PSt) : dFld l a ps = (a ps).bind (fldP l) := rfl
end DN
end
section
set_option Elab.async false
set_option linter.all false
set_option maxRecDepth 100000
set_option maxHeartbeats 4000000
namespace DN
open PySem PySem.Spec PyProof.Rows L2
section
variable {X : Cx} {G : Pg} {e a b o tg : Expr} {es : List Expr} {da db : DP} {d : DA} {pos p p2 apos cpos : Pos} {x m : Str} {k i : Nat}
/-! ### all, any of a list of truths -/
theorem vals_bl {bs : List Bool} {us : List Value} (r : Vals (bs.map V.bl) us) {i : Nat} {v : Value} (h : us[i]? = some v) : ∃ b, bs[i]? = some b ∧ v = .bool b := by
  have hi : i < us.length := (List.getElem?_eq_some_iff.mp h).1
  have hl : (bs.map V.bl).length = us.length := r.length
  have hi' : i < bs.length := by rw [List.length_map] at hl; omega
  obtain ⟨u, e1, e2⟩ := r.get (i := i) (x := V.bl bs[i]) (by rw [List.getElem?_map, List.getElem?_eq_getElem hi']; rfl)
  rw [h] at e1; cases e1
  exact ⟨bs[i], List.getElem?_eq_getElem hi', e2⟩
theorem call_allB (hc : X.calm = true) : CallR X (.builtin "all") (fun xs H Q => ∃ p bs, xs = [.ref p] ∧ SqL X.K H p (List.map V.bl bs) ∧ Q (.bl (bs.all id)) H) := by
  intro pins s σ H xs us Q I r h
  obtain ⟨p, bs, rfl, hS, q⟩ := h
  obtain ⟨u, rfl, ru⟩ := vals1 r
  obtain rfl : u = Value.ref p := ru
  obtain ⟨its, ri, pl, _⟩ := I.list hS
  have hl := pl.isList
  have hlt : p < s.heap.objs.size := by obtain ⟨_, e, _⟩ := hl; exact Heap.lt_size e
  refine call_all_walk (wpAny_pyIter_list hl ?_)
  refine ⟨s.heap.objs.size, [s.heap.objs.size, p], [s.heap.objs.size], its.toArray.size, _, _, fun i => (bs[i]?).getD true, rfl, Walks.list (A := X.A.in1) (I.ok.hd hc) _ p (Nat.ne_of_lt hlt) its.toArray,
    ⟨⟨_, Heap.get?_push_size _ rfl, rfl, rfl⟩, hl.push _⟩, fun i v s' Q' E' hP hQ => ?_, fun h' tk hk => ?_⟩
  · obtain ⟨b, e, rfl⟩ := vals_bl ri (i := i) (v := v) (by simpa using hP)
    simp only [e, Option.getD_some] at hQ
    exact wpAny_truthy_bool hQ
  · have e : ((List.range its.toArray.size).all fun i => (bs[i]?).getD true) = bs.all id := by
      have hl : its.length = bs.length := by rw [← ri.length, List.length_map]
      rw [List.size_toArray, hl]; exact LSm.range_all bs
    rw [e]
    exact ⟨.bl _, H, I.kept (LSm.kept_iter hk), rfl, q⟩
def blsOf : List PV → Option (List Bool)
  | [] => some []
  | .bl i :: r => (blsOf r).map (i :: ·)
  | _ :: _ => none
theorem blsOf_of : ∀ {xs : List PV} {ns : List Bool}, blsOf xs = some ns → xs = ns.map PV.bl
  | [], ns, h => by cases h; rfl
  | x :: r, ns, h => by
    cases x <;> try cases h
    rename_i i
    have h : (blsOf r).map (i :: ·) = some ns := h
    cases q : blsOf r with
    | none => rw [q] at h; cases h
    | some ms => rw [q] at h; cases h; rw [blsOf_of q]; rfl
theorem Reps.of_bls {K : PySem.W.Frag} {H : Hp} {A : Av} : ∀ {ns : List Bool} {vs : List V}, Reps K G H A (ns.map PV.bl) vs → vs = ns.map V.bl
  | [], vs, h => h
  | n :: ns, vs, h => by
    obtain ⟨v, r, e, h1, h2⟩ := h
    have h1 : v = .bl n := h1
    rw [e, h1, Reps.of_bls h2]; rfl
def bAll : List PV → Rx PV
  | [.lst xs] => match blsOf xs with | some ns => .ok (.bl (ns.all id)) | none => .bad
  | _ => .bad
theorem cb_all {K : PySem.W.Frag} : CbR K G [true] bAll (fun xs H Q => ∃ p bs, xs = [V.ref p] ∧ SqL K H p (List.map V.bl bs) ∧ Q (.bl (bs.all id)) H) := by
  intro H A ws vs w Q hu e r q
  obtain ⟨x, v, rfl, rfl, rb⟩ := r.one
  clear r
  cases x <;> try cases e
  rename_i xs
  have e : (match blsOf xs with | some ns => Rx.ok (PV.bl (ns.all id)) | none => .bad) = .ok w := e
  split at e
  · rename_i ns h
    cases e
    obtain ⟨a, vs, rfl, sq, rs⟩ := rb.lst
    rw [blsOf_of h] at rs
    rw [rs.of_bls] at sq
    exact ⟨a, ns, rfl, sq, q _ H (Same.refl H) rfl⟩
  · cases e
def dLRng (d : DA) : DA := fun ps => (d ps).bind fun ws => match ws with | [.int j] => if -(2 ^ 62) ≤ j ∧ j ≤ 2 ^ 24 then .ok (rngP 0 j.toNat) else .bad | _ => .bad
end
@[simp] theorem e_lrng (ps : PSt) (d : DA) : dLRng d ps = (d ps).bind fun ws => match ws with | [.int j] => if -(2 ^ 62) ≤ j ∧ j ≤ 2 ^ 24 then .ok (rngP 0 j.toNat) else .bad | _ => .bad := rfl
/-! ### isinstance(x, (C, D)) -/
def dIsiT (l m : List (Nat × Bool)) (d : DP) : DP := fun ps => (d ps).bind fun x => match l.lookup (kd x), m.lookup (kd x) with | some a, some b => .ok (.bl (a || b)) | _, _ => .bad
section
variable {X : Cx} {G : Pg} {e c1 c2 : Expr} {da : DP} {pos p : Pos}
end
def isiP2 (l m : List (Nat × Bool)) (x : PV) : Rx PV := match l.lookup (kd x), m.lookup (kd x) with | some a, some b => .ok (.bl (a || b)) | _, _ => .bad
@[simp] theorem e_isiT (l m : List (Nat × Bool)) (a : DP) (ps : PSt) : dIsiT l m a ps = (a ps).bind (isiP2 l m) := rfl
end DN
end
section
set_option Elab.async false
set_option linter.all false
set_option maxRecDepth 100000
set_option maxHeartbeats 4000000
namespace DN
open PySem L2
end DN
end
section
set_option Elab.async false
set_option linter.all false
set_option maxRecDepth 100000
set_option maxHeartbeats 4000000
namespace L2
open PySem PySem.Spec PyProof.Rows
/-! ### a text, sign by sign -/
def Its (x : Str) : It := ⟨fun i _ => i < x.cps.size, fun i H v H' => H' = H ∧ ∃ c, x.cps[i]? = some c ∧ v = .str ⟨#[c]⟩, fun i _ => x.cps.size ≤ i⟩
theorem turn_str {P : Program} {w : World} {K : PySem.W.Frag} {tg : Expr} {ty : String} {x : Str} {t : Tok} (hty : ty = "str_ascii_iterator" ∨ ty = "str_iterator") (it : Addr) : Turn P w K tg (Its x) [it] it (fun i h => h.IsStrIter it ty x t i) where
  mem := by simp
  obj := fun i h st b hb => by
    have e : b = it := by simpa using hb
    subst e
    obtain ⟨o, e, c, d⟩ := st
    exact ⟨o, e, fun v z => by rw [d] at z; cases z⟩
  keep := fun i h h' st k => let ⟨o, ho, r⟩ := st; ⟨o, k it (by simp) o ho, r⟩
  item := by
    intro X hP hw hK hc i pins s σ H E I hf st hg
    subst hP hw hK
    obtain ⟨f0, f1, f2, f3, f4, f5⟩ := hf it (by simp)
    have hg : i < x.cps.size := hg
    have hx : x.cps[i]? = some x.cps[i] := by simp [hg]
    have fin : ∀ h' : Heap, h'.IsStrIter it ty x t (i + 1) → Heap.SameBut it s.heap h' → ∃ u, some (Value.str ⟨#[x.cps[i]]⟩ s.toks) = some u ∧
        wpAny (model X.prog X.w) X.A (letOwnedTupleGo tg (.ref it) u) (fun _ s2 => ∃ v H', Inv X pins σ H' s2 ∧ RelV v u ∧ (Its x).yld i H v H' ∧ (s2.heap.IsStrIter it ty x t (i + 1)) ∧ ∀ b ∈ [it], H' b = none) E { s with heap := h', toks := s.toks + 1 } := by
      intro h' st' sb
      have I1 : Inv X pins σ H { s with heap := h', toks := s.toks + 1 } := I.turned (fun b o hb e => (sb.2 b hb).trans e) f0 f1 f3 f4 f5
      obtain ⟨o, e, c, d⟩ := id st'
      exact ⟨_, rfl, go_of (s := { s with heap := h', toks := s.toks + 1 }) (n := ty) e c d (by rcases hty with rfl | rfl <;> decide) ⟨.str ⟨#[x.cps[i]]⟩, H, I1, ⟨_, rfl⟩, ⟨rfl, _, hx, rfl⟩, st', fun b hb => (hf b hb).1⟩⟩
    rcases hty with rfl | rfl
    · exact wpAny_pyNext_ascii_item st hx fin
    · exact wpAny_pyNext_wide_item st hx fin
  done := by
    intro X hP hw hK hc i pins s σ H E I hf st hg
    subst hP hw hK
    obtain ⟨f0, f1, f2, f3, f4, f5⟩ := hf it (by simp)
    have hx : x.cps[i]? = none := by have : x.cps.size ≤ i := hg; simp [this]
    rcases hty with rfl | rfl
    · exact wpAny_pyNext_ascii_end (I.ok.hd hc) st hx fun h' eb => ⟨rfl, I.turned (t' := s.toks) (fun b o hb e => eb b o hb e) f0 f1 f3 f4 f5⟩
    · exact wpAny_pyNext_wide_end (I.ok.hd hc) st hx fun h' eb => ⟨rfl, I.turned (t' := s.toks) (fun b o hb e => eb b o hb e) f0 f1 f3 f4 f5⟩
  self := fun _ _ _ _ _ st h => by
    rcases hty with rfl | rfl
    · exact wpAny_pyIter_striter_ascii st h
    · exact wpAny_pyIter_striter_wide st h
section
variable {X : Cx} {tg : Expr}
def iStr (tl : TE) : TI := fun σ H R => tl σ H fun v H1 => ∃ x, v = .str x ∧ R (Its x) H1
theorem pi_str {l : Expr} {tl : TE} (hl : PE X l tl) : PI X tg l (iStr tl) := by
  intro pins s σ H R I h
  refine thn (hl pins s σ H _ I h) fun v s1 ⟨x, H1, I1, r1, q1⟩ => ?_
  obtain ⟨y, e, q⟩ := q1
  subst e
  obtain ⟨t, rfl⟩ := r1
  have fp : ∀ b ∈ [s1.heap.objs.size], FpOk X pins H1 b := fun b hb => by
    have e : b = s1.heap.objs.size := by simpa using hb
    subst e
    exact I1.fpOk (Nat.le_refl _) (I1.hok.fresh (Nat.le_refl _))
  cases ha : y.cps.all (· < 128)
  · exact wpAny_pyIter_wide ha ⟨s1.heap.objs.size, [s1.heap.objs.size], _, _, H1, rfl, I1.kept (t' := s1.toks) fun b o e => Heap.get?_push_of_some _ e, turn_str (ty := "str_iterator") (x := y) (t := t) (.inr rfl) _, ⟨_, Heap.get?_push_size _ rfl, rfl, rfl⟩, fp, q⟩
  · exact wpAny_pyIter_ascii ha ⟨s1.heap.objs.size, [s1.heap.objs.size], _, _, H1, rfl, I1.kept (t' := s1.toks) fun b o e => Heap.get?_push_of_some _ e, turn_str (ty := "str_ascii_iterator") (x := y) (t := t) (.inl rfl) _, ⟨_, Heap.get?_push_size _ rfl, rfl, rfl⟩, fp, q⟩
end
end L2
namespace DN
open PySem PySem.Spec PyProof.Rows L2
def sgV (x : Str) : List V := x.cps.toList.map fun c => V.str ⟨#[c]⟩
def sgP (x : Str) : List PV := x.cps.toList.map fun c => PV.str ⟨#[c]⟩
theorem sg_reps {K : PySem.W.Frag} {G : Pg} {H : Hp} {A : Av} {x : Str} : Reps K G H A (sgP x) (sgV x) := by
  unfold sgP sgV
  generalize x.cps.toList = l
  induction l with
  | nil => rfl
  | cons x xs ih => exact ⟨_, _, rfl, rfl, ih⟩
theorem it_str {x : Str} {H : Hp} : (∀ (i : Nat) (v : V), (sgV x)[i]? = some v → (Its x).go i H ∧ ∀ y H2, (Its x).yld i H y H2 → H2 = H ∧ y = v) ∧ (Its x).stop (sgV x).length H := by
  refine ⟨fun i v e => ?_, by show x.cps.size ≤ (sgV x).length; unfold sgV; simp⟩
  unfold sgV at e
  rw [List.getElem?_map] at e
  cases q : x.cps.toList[i]? with
  | none => rw [q] at e; cases e
  | some c =>
    rw [q] at e; cases e
    have h : i < x.cps.size := by simpa using (List.getElem?_eq_some_iff.mp q).1
    have q' : x.cps[i]? = some c := by simpa using q
    exact ⟨h, fun y H2 ⟨e2, c', hc, hy⟩ => ⟨e2, by rw [hc] at q'; cases q'; exact hy⟩⟩
section
variable {X : Cx} {G : Pg} {e a b o tg iter : Expr} {es : List Expr} {body : List Stmt} {da db dk dv : DP} {d : DA} {ds : DS} {pos pos' p apos : Pos} {x m : Str} {k i : Nat} {ms : List Bool}
def dItemsS (d : DP) : DA := fun ps => (d ps).bind fun x => match x with | .str y => .ok (sgP y) | _ => .bad
theorem i_str (h : JP X G e da) : JI X G tg e (dItemsS da) := impI (pi_str h) fun σ H R ⟨c, ow, ps, ws, S, e, q⟩ => by
  obtain ⟨x, e1, e2⟩ := bind_ok e
  refine ⟨c, ow, ps, x, S, e1, fun v H' s r => ?_⟩
  split at e2
  · cases e2
    exact ⟨_, r, q _ H' _ s sg_reps fun _ _ _ _ => it_str⟩
  · cases e2
@[simp] theorem e_itemsS (d : DP) (ps : PSt) (y : Str) (h : d ps = .ok (.str y)) : dItemsS d ps = .ok (sgP y) := by unfold dItemsS; rw [h]; rfl
/-! ### a dict of one's own -/
def keyP : PV → Option Key
  | .int i => some (.inl i)
  | .str y => some (.inr y)
  | _ => none
theorem key_rep {K : PySem.W.Frag} {H : Hp} {A : Av} {w : PV} {v : V} {k : Key} (r : Rep K G H A w v) (e : keyP w = some k) : v = kV k := by
  cases w <;> simp [keyP] at e
  · subst e; exact r
  · subst e; exact r
def inK (ks : List Key) (k : Key) : Bool := ks.any fun k' => decide (k' = k)
theorem inK_mem {ks : List Key} {k : Key} : inK ks k = true ↔ k ∈ ks := by unfold inK; simp
def putXs {α : Type} (ks : List Key) (xs : List α) (k : Key) (w : α) : List α := if inK ks k = true then List.zipWith (fun k' x => if k' = k then w else x) ks xs else xs ++ [w]
theorem any_zip {k : Key} : ∀ {ks : List Key} {vs : List V}, ks.length = vs.length → (((ks.zip vs).any fun kv => decide (kv.1 = k)) = true ↔ k ∈ ks)
  | [], vs, h => by simp
  | a :: ks, [], h => by simp at h
  | a :: ks, v :: vs, h => by
    have := any_zip (k := k) (ks := ks) (vs := vs) (by simpa using h)
    rw [List.zip_cons_cons, List.any_cons, Bool.or_eq_true, this, List.mem_cons]
    simp [eq_comm]
theorem reps_zw {K : PySem.W.Frag} {H : Hp} {A : Av} {k : Key} {w : PV} {v : V} (r : Rep K G H A w v) : ∀ {ks : List Key} {ws : List PV} {vs : List V}, Reps K G H A ws vs → Reps K G H A (List.zipWith (fun k' x => if k' = k then w else x) ks ws) (List.zipWith (fun k' x => if k' = k then v else x) ks vs)
  | [], ws, vs, h => rfl
  | a :: ks, [], vs, h => by have h : vs = [] := h; subst h; rfl
  | a :: ks, x :: ws, vs, h => by
    obtain ⟨u, rr, rfl, h1, h2⟩ := h
    refine ⟨_, _, rfl, ?_, reps_zw r h2⟩
    by_cases e : a = k
    · simp only [if_pos e]; exact r
    · simp only [if_neg e]; exact h1
theorem Reps.put {K : PySem.W.Frag} {H : Hp} {A : Av} {ks : List Key} {k : Key} {w : PV} {v : V} {ws : List PV} {vs : List V} (h : Reps K G H A ws vs) (r : Rep K G H A w v) : Reps K G H A (putXs ks ws k w) (putXs ks vs k v) := by
  unfold putXs
  split
  · exact reps_zw r h
  · exact h.snoc r
def sOwnD (i : Nat) : DS := fun ps => if i < ps.length then .nx (ps.set i (.own (.dic [] []))) else .bad
theorem s_ownD (hN : X.N.Nodup) (hi : X.N[i]? = some x) (hx : Loc X.env.scope x) (hs : swapsWith (.Dict [] [] pos') (some (.Name x p)) pos.line X.env = pure false := by rfl) (hf : X.fn x = true ∨ X.env.scope.names.lookup x = some .local := by first | exact .inl rfl | exact .inr rfl | assumption) :
    JS X G (.Assign [.Name x p] (.Dict [] [] pos') pos) (sOwnD i) := impS (ps_set hN hi hx pe_dnewK hs hf) fun D σ H ⟨c, ow, ps, R, q⟩ => by
  unfold sOwnD at q
  split at q
  · rename_i hl
    intro p hp
    have s := same_upd hp (HO.dK [] 0)
    exact q _ _ _ (R.setO hl s hp ⟨[], 0, upd_same, rfl, rfl⟩) (Kp.take hp s av_on)
  · exact q.elim
def bLenD : List PV → Rx PV
  | [.dic ks xs] => if ks.length = xs.length then .ok (.int ks.length) else .bad
  | [.dbo ks xs] => if ks.length = xs.length then .ok (.int ks.length) else .bad
  | _ => .bad
theorem cb_lenD {K : PySem.W.Frag} : CbR K G [true] bLenD (fun xs H Q => ∃ a kvs ep, xs = [V.ref a] ∧ H a = some (.dK kvs ep) ∧ Q (.int kvs.length) H) := by
  intro H A ws vs w Q hu e r q
  obtain ⟨x, v, rfl, rfl, rb⟩ := r.one
  clear r
  cases x
  case dic ks xs =>
    have e : (if ks.length = xs.length then Rx.ok (PV.int ks.length) else .bad) = .ok w := e
    split at e
    · cases e
      obtain ⟨a, us, ep, rfl, hH, l, rs⟩ := rb.dic
      refine ⟨a, _, _, rfl, hH, ?_⟩
      rw [List.length_zip, ← l, Nat.min_self]
      exact q _ _ (Same.refl H) rfl
    · cases e
  case dbo ks xs =>
    have e : (if ks.length = xs.length then Rx.ok (PV.int ks.length) else .bad) = .ok w := e
    split at e
    · cases e
      obtain ⟨a, qs, xss, ep, rfl, rfl, hH, l, _, _⟩ := rb.dbo
      refine ⟨a, _, _, rfl, hH, ?_⟩
      rw [List.length_zip, List.length_map, ← l, Nat.min_self]
      exact q _ _ (Same.refl H) rfl
    · cases e
  all_goals cases e
end
end DN
end
section
set_option Elab.async false
set_option linter.all false
set_option maxRecDepth 100000
set_option maxHeartbeats 4000000
namespace DN
open PySem PySem.Spec PyProof.Rows L2
/-! ### dicts: read -/
def getP {α : Type} : List Key → List α → Key → Option α
  | k' :: ks, x :: xs, k => if k' = k then some x else getP ks xs k
  | _, _, _ => none
theorem val_zip {k : Key} : ∀ {ks : List Key} {vs : List V}, valV (ks.zip vs) k = getP ks vs k
  | [], vs => by cases vs <;> rfl
  | a :: ks, [] => rfl
  | a :: ks, v :: vs => by
    rw [List.zip_cons_cons, getP]
    by_cases e : a = k
    · rw [valV_pos (p := (a, v)) e, if_pos e]
    · rw [valV_neg (p := (a, v)) e, if_neg e, val_zip]
section
variable {K : PySem.W.Frag} {G : Pg} {H : Hp} {A : Av}
theorem get_rep {k : Key} : ∀ {ks : List Key} {ws : List PV} {vs : List V}, Reps K G H A ws vs → (∀ w, getP ks ws k = some w → ∃ v, getP ks vs k = some v ∧ Rep K G H A w v) ∧ (getP ks vs k).isSome = (getP ks ws k).isSome
  | [], ws, vs, h => ⟨fun w e => (by cases ws <;> cases e), by cases ws <;> cases vs <;> rfl⟩
  | a :: ks, [], vs, h => by
    have h : vs = [] := h
    subst h
    exact ⟨fun w e => (by cases e), rfl⟩
  | a :: ks, x :: ws, vs, h => by
    obtain ⟨v, r, rfl, h1, h2⟩ := h
    have ih := get_rep (k := k) (ks := ks) h2
    by_cases e : a = k
    · simp only [getP, if_pos e]
      exact ⟨fun w q => ⟨v, rfl, by cases q; exact h1⟩, by simp⟩
    · simp only [getP, if_neg e]
      exact ih
theorem get_dbo {k : Key} : ∀ {ks : List Key} {xss : List (List PV)} {qs : List Addr}, ks.length = qs.length → xss.length = qs.length → (∀ (j : Nat) q l, qs[j]? = some q → xss[j]? = some l → RepO K G H A (.lst l) q) → (∀ w, getP ks (xss.map PV.lst) k = some w → ∃ q l, w = .lst l ∧ getP ks (qs.map V.ref) k = some (.ref q) ∧ RepO K G H A (.lst l) q) ∧ (getP ks (qs.map V.ref) k).isSome = (getP ks (xss.map PV.lst) k).isSome
  | [], xss, qs, h1, h2, h => ⟨fun w e => (by cases xss <;> cases e), by cases xss <;> cases qs <;> rfl⟩
  | a :: ks, xss, [], h1, h2, h => nomatch h1
  | a :: ks, [], q :: qs, h1, h2, h => nomatch h2
  | a :: ks, l :: xss, q :: qs, h1, h2, h => by
    have ih := get_dbo (k := k) (ks := ks) (xss := xss) (qs := qs) (by simpa using h1) (by simpa using h2) fun j q l e1 e2 => h (j + 1) q l (by simpa using e1) (by simpa using e2)
    by_cases e : a = k
    · simp only [List.map_cons, getP, if_pos e]
      exact ⟨fun w r => ⟨q, l, by cases r; rfl, rfl, h 0 q l rfl rfl⟩, by simp⟩
    · simp only [List.map_cons, getP, if_neg e]
      exact ih
end
section
variable {X : Cx} {G : Pg} {e a b o i f value : Expr} {es : List Expr} {da db dd dk dv : DP} {d : DA} {dm : DM} {pos pos' p apos cpos tpos : Pos} {x : Str} {j : Nat}
def fDGet : PV → PV → Rx PV
  | .dic ks xs, y => match keyP y with
    | some k => (match getP ks xs k with | some w => .ok w | none => .bad)
    | none => .bad
  | _, _ => .bad
theorem keyB {K : PySem.W.Frag} {H : Hp} {A : Av} {w : PV} {v : V} {k : Key} (r : RepB K G H A w v) (e : keyP w = some k) : v = kV k := by
  cases w <;> simp [keyP] at e
  · subst e; exact r.int
  · subst e; exact r.str
theorem p_dget (hu : X.A.units + 1 < cLine) (ha : JB X G o da) (hb : JB X G i db) (hs : NoSl i) : JP X G (.Subscript o i pos) (d2 fDGet da db) := imp (pe_dget hu ha hb hs) fun σ H Q ⟨c, ow, ps, w, R, e, q⟩ => by
  obtain ⟨x, e1, ea⟩ := bind_ok e
  clear e
  obtain ⟨y, e2, e⟩ := bind_ok ea
  clear ea
  refine ⟨c, ow, ps, x, R, e1, fun v H1 s1 r1 => ⟨c, ow, ps, y, R.grow s1, e2, fun u H2 s2 r2 => ?_⟩⟩
  cases x
  case dic ks xs =>
   have e : (match keyP y with | some k => (match getP ks xs k with | some w => Rx.ok w | none => .bad) | none => .bad) = .ok w := e
   split at e
   · rename_i k hk
     split at e
     · rename_i w' hw
       cases e
       obtain ⟨a, vs, ep, rfl, hH, l, rs⟩ := (r1.same s2).dic
       obtain ⟨v', hv, rv⟩ := (get_rep (k := k) (ks := ks) rs).1 _ hw
       refine ⟨a, v', rfl, ?_, q v' H2 (s1.trans s2) rv⟩
       rw [keyB r2 hk, ← hv, ← val_zip]
       exact DGet.k hH
     · cases e
   · cases e
  all_goals cases e
/-- d[k] where d is a dict of lists that is only looked at: so is the list -/
def fDGetB : PV → PV → Rx PV
  | .dic ks xs, y => match keyP y with
    | some k => (match getP ks xs k with | some w => .ok w | none => .bad)
    | none => .bad
  | .dbo ks xs, y => match keyP y with
    | some k => (match getP ks xs k with | some w => .ok w | none => .bad)
    | none => .bad
  | _, _ => .bad
theorem b_dgetB (hu : X.A.units + 1 < cLine) (ha : JB X G o da) (hb : JB X G i db) (hs : NoSl i) : JB X G (.Subscript o i pos) (d2 fDGetB da db) := imp (pe_dget hu ha hb hs) fun σ H Q ⟨c, ow, ps, w, R, e, q⟩ => by
  obtain ⟨x, e1, ea⟩ := bind_ok e
  clear e
  obtain ⟨y, e2, e⟩ := bind_ok ea
  clear ea
  refine ⟨c, ow, ps, x, R, e1, fun v H1 s1 r1 => ⟨c, ow, ps, y, R.grow s1, e2, fun u H2 s2 r2 => ?_⟩⟩
  cases x
  case dic ks xs =>
   have e : (match keyP y with | some k => (match getP ks xs k with | some w => Rx.ok w | none => .bad) | none => .bad) = .ok w := e
   split at e
   · rename_i k hk
     split at e
     · rename_i w' hw
       cases e
       obtain ⟨a, vs, ep, rfl, hH, l, rs⟩ := (r1.same s2).dic
       obtain ⟨v', hv, rv⟩ := (get_rep (k := k) (ks := ks) rs).1 _ hw
       refine ⟨a, v', rfl, ?_, q v' H2 (s1.trans s2) (.inl rv)⟩
       rw [keyB r2 hk, ← hv, ← val_zip]
       exact DGet.k hH
     · cases e
   · cases e
  case dbo ks xs =>
   have e : (match keyP y with | some k => (match getP ks xs k with | some w => Rx.ok w | none => .bad) | none => .bad) = .ok w := e
   split at e
   · rename_i k hk
     split at e
     · rename_i w' hw
       cases e
       obtain ⟨a, qs, xss, ep, rfl, rfl, hH, l1, l2, h⟩ := (r1.same s2).dbo
       obtain ⟨p, l, rfl, hv, ro⟩ := (get_dbo (k := k) l1 l2 h).1 _ hw
       refine ⟨a, .ref p, rfl, ?_, q _ H2 (s1.trans s2) (.inr (.inl ⟨.lst l, p, rfl, rfl, ro⟩))⟩
       rw [keyB r2 hk, ← hv, ← val_zip]
       exact DGet.k hH
     · cases e
   · cases e
  all_goals cases e
def fInD (neg : Bool) : PV → PV → Rx PV
  | y, .dbo ks xs => match keyP y with
    | some k => if ks.length = xs.length then .ok (.bl ((getP ks xs k).isSome != neg)) else .bad
    | none => .bad
  | y, .dic ks xs => match keyP y with
    | some k => if ks.length = xs.length then .ok (.bl ((getP ks xs k).isSome != neg)) else .bad
    | none => .bad
  | _, _ => .bad
theorem inD_of {K : PySem.W.Frag} {neg : Bool} {H : Hp} {A : Av} {y z w : PV} {u v : V} (r1 : RepB K G H A y u) (r2 : RepB K G H A z v) (e : fInD neg y z = .ok w) : ∃ a o, v = .ref a ∧ DGet H a u o ∧ w = .bl (o.isSome != neg) := by
  cases z
  case dic ks xs =>
    have e : (match keyP y with | some k => if ks.length = xs.length then Rx.ok (PV.bl ((getP ks xs k).isSome != neg)) else .bad | none => .bad) = .ok w := e
    split at e
    · rename_i k hk
      split at e
      · cases e
        obtain ⟨a, vs, ep, rfl, hH, l, rs⟩ := r2.dic
        refine ⟨a, valV (ks.zip vs) k, rfl, ?_, ?_⟩
        · rw [keyB r1 hk]; exact DGet.k hH
        · rw [val_zip, (get_rep (k := k) (ks := ks) rs).2]
      · cases e
    · cases e
  case dbo ks xs =>
    have e : (match keyP y with | some k => if ks.length = xs.length then Rx.ok (PV.bl ((getP ks xs k).isSome != neg)) else .bad | none => .bad) = .ok w := e
    split at e
    · rename_i k hk
      split at e
      · cases e
        obtain ⟨a, qs, xss, ep, rfl, rfl, hH, l1, l2, h⟩ := r2.dbo
        refine ⟨a, valV (ks.zip (qs.map V.ref)) k, rfl, ?_, ?_⟩
        · rw [keyB r1 hk]; exact DGet.k hH
        · rw [val_zip, (get_dbo (k := k) l1 l2 h).2]
      · cases e
    · cases e
  all_goals (cases y <;> cases e)
theorem notInD_t {σ : L2.St} {H : Hp} {Q : VK} (h : tPv X.K G (d2 (fInD true) da db) σ H Q) : tDNotIn (tPb X.K G da) (tPb X.K G db) σ H Q := by
  obtain ⟨c, ow, ps, w, R, e, q⟩ := h
  obtain ⟨x, e1, e⟩ := bind_ok e
  obtain ⟨y, e2, e⟩ := bind_ok e
  refine ⟨c, ow, ps, x, R, e1, fun v H1 s1 r1 => ⟨c, ow, ps, y, R.grow s1, e2, fun u H2 s2 r2 => ?_⟩⟩
  obtain ⟨a, o, rfl, g, rfl⟩ := inD_of (r1.same s2) r2 e
  exact ⟨a, o, rfl, g, q _ H2 (s1.trans s2) (by show _ = _; simp)⟩
theorem t_notInD (hu : X.A.units + 1 < cLine) (ha : JB X G a da) (hb : JB X G b db) (hm : behindInMarks .NotIn b = false) : JT X G (.Compare a [.NotIn] [b] pos) (dTr (d2 (fInD true) da db)) := impT (pt_cmp (pc_dnotin hu ha hb) hm) fun σ H Q ⟨c, ow, ps, b, R, e, q⟩ => by
  obtain ⟨x, e1, e2⟩ := bind_ok e
  have : x = .bl b := by
    cases x <;> first | (cases e2; rfl) | cases e2
  subst this
  exact notInD_t ⟨c, ow, ps, _, R, e1, fun v H' s r => ⟨b, r, q H' s⟩⟩
end
end DN
end
section
set_option Elab.async false
set_option linter.all false
set_option maxRecDepth 100000
set_option maxHeartbeats 4000000
namespace L2
open PySem PySem.Spec PyProof.Rows
end L2
namespace DN
open PySem PySem.Spec PyProof.Rows L2
section
variable {X : Cx} {G : Pg} {e a b o tg : Expr} {es : List Expr} {da db : DP} {d : DA} {dm : DM} {ds du : DS} {pos p apos cpos : Pos} {x m : Str} {k i : Nat} {ms : List Bool}
/-! ### for k, x in enumerate(xs) -/
def enumFrom : Nat → List PV → List PV
  | _, [] => []
  | k, w :: ws => .tup [.int (k : Int), w] :: enumFrom (k + 1) ws
def dEnum (d : DP) : DA := fun ps => (d ps).bind fun x => match x with | .lst xs => .ok (enumFrom 0 xs) | _ => .bad
def sForE (d : DP) (g : DG) (body : DS) : DS := sFor (dEnum d) g body
/-! ### xs.extend(a new list), xs.clear(), xs.reverse() -/
def mExt (i : Nat) (d : DA) : DM := fun ps => match ps[i]? with
  | some (.own (.lst xs)) => (d ps).bind fun ys => if xs.length + ys.length ≤ sizeLine then .ok (.non, ps.set i (.own (.lst (xs ++ ys)))) else .bad
  | _ => .bad
def mClr (i : Nat) : DM := fun ps => match ps[i]? with
  | some (.own (.lst _)) => .ok (.non, ps.set i (.own (.lst [])))
  | _ => .bad
theorem Reps.reverse {K : PySem.W.Frag} {H : Hp} {A : Av} : ∀ {ws : List PV} {vs : List V}, Reps K G H A ws vs → Reps K G H A ws.reverse vs.reverse
  | [], vs, h => by have h : vs = [] := h; subst h; rfl
  | w :: ws, vs, h => by
    obtain ⟨v, r, rfl, h1, h2⟩ := h
    rw [List.reverse_cons, List.reverse_cons]
    exact (Reps.reverse h2).snoc h1
def mRev (i : Nat) : DM := fun ps => match ps[i]? with
  | some (.own (.lst xs)) => .ok (.non, ps.set i (.own (.lst xs.reverse)))
  | _ => .bad
/-! ### tuples: a slice, + -/
def dCutT (d : DP) (dl dh : PSt → Rx (Option Int)) : DP := fun ps => (d ps).bind fun x => (dl ps).bind fun lo => (dh ps).bind fun hi => match x with
  | .tup xs => if HT.sIx xs.length 0 lo = 0 ∧ HT.sIx xs.length xs.length hi = xs.length then .bad else .ok (.tup (cutP xs lo hi))
  | _ => .bad
def fCatT : PV → PV → Rx PV
  | .tup xs, .tup ys => if xs ≠ [] ∧ xs.length + ys.length ≤ sizeLine then .ok (.tup (xs ++ ys)) else .bad
  | _, _ => .bad
/-! ### a new list times an int -/
def dRep (d : DA) (b : DP) : DA := fun ps => (d ps).bind fun xs => (b ps).bind fun y => match y with
  | .int k => if 0 ≤ k ∧ k < 2 ^ 62 ∧ xs.length * k.toNat ≤ sizeLine then .ok (List.replicate k.toNat xs).flatten else .bad
  | _ => .bad
theorem Reps.rep {K : PySem.W.Frag} {H : Hp} {A : Av} {ws : List PV} {vs : List V} (h : Reps K G H A ws vs) : ∀ n : Nat, Reps K G H A (List.replicate n ws).flatten (List.replicate n vs).flatten
  | 0 => rfl
  | n + 1 => by
    rw [List.replicate_succ, List.flatten_cons, List.replicate_succ, List.flatten_cons]
    exact h.app (Reps.rep h n)
/-! ### a def that hands out a new list -/
def dCallW (g : List PV → Rx PV) (d : DA) : DA := fun ps => (d ps).bind fun ws => (g ws).bind fun w => match w with | .lst xs => .ok xs | _ => .bad
/-! ### equations -/
variable (ps : PSt)
@[simp] theorem e_ext : mExt i d ps = match ps[i]? with
  | some (.own (.lst xs)) => (d ps).bind fun ys => if xs.length + ys.length ≤ sizeLine then .ok (.non, ps.set i (.own (.lst (xs ++ ys)))) else .bad
  | _ => .bad := rfl
@[simp] theorem e_clr : mClr i ps = match ps[i]? with
  | some (.own (.lst _)) => .ok (.non, ps.set i (.own (.lst [])))
  | _ => .bad := rfl
@[simp] theorem e_rev : mRev i ps = match ps[i]? with
  | some (.own (.lst xs)) => .ok (.non, ps.set i (.own (.lst xs.reverse)))
  | _ => .bad := rfl
@[simp] theorem e_forE (g : DG) : sForE da g ds ps = (dEnum da ps).st fun ws => forD g ds ws ps := rfl
@[simp] theorem e_enum : dEnum da ps = (da ps).bind fun x => match x with | .lst xs => .ok (enumFrom 0 xs) | _ => .bad := rfl
@[simp] theorem e_cutT (dl dh : PSt → Rx (Option Int)) : dCutT da dl dh ps = (da ps).bind fun x => (dl ps).bind fun lo => (dh ps).bind fun hi => match x with
  | .tup xs => if HT.sIx xs.length 0 lo = 0 ∧ HT.sIx xs.length xs.length hi = xs.length then .bad else .ok (.tup (cutP xs lo hi))
  | _ => .bad := rfl
@[simp] theorem e_catT (xs ys : List PV) : fCatT (.tup xs) (.tup ys) = if xs ≠ [] ∧ xs.length + ys.length ≤ sizeLine then .ok (.tup (xs ++ ys)) else .bad := rfl
@[simp] theorem e_rep : dRep d db ps = (d ps).bind fun xs => (db ps).bind fun y => match y with
  | .int k => if 0 ≤ k ∧ k < 2 ^ 62 ∧ xs.length * k.toNat ≤ sizeLine then .ok (List.replicate k.toNat xs).flatten else .bad
  | _ => .bad := rfl
@[simp] theorem e_callW (g : List PV → Rx PV) : dCallW g d ps = (d ps).bind fun ws => (g ws).bind fun w => match w with | .lst xs => .ok xs | _ => .bad := rfl
end
end DN
end
section
set_option Elab.async false
set_option linter.all false
set_option maxRecDepth 100000
set_option maxHeartbeats 4000000
namespace L2
open PySem PySem.Spec PyProof.Rows
section
variable {X : Cx} {pins : List (Addr × Obj)} {σ : St} {H : Hp} {s s1 : Shared} {scope : Scope} {own : List Str} {caps : List (Str × Nat)} {fp : List Addr}
def tCompS (own : List Str) (caps : List (Str × Nat)) (wi : TI) (g : TG) (tc : TT) (te : TE) (i : Nat) : TS := fun D σ H => wi σ H (CompGo own caps g tc te σ fun v H' => D.nx (σ.set i (some v)) H')
/-- x = [.. for ..], x a plain local name: the store goes ahead of the block's end -/
theorem ps_comp {elt tg iter : Expr} {ifs : List Expr} {pos spos px : Pos} {wi : TI} {g : TG} {tc : TT} {te : TE} {j : Nat} {x : Str} (hN : X.N.Nodup) (hi' : X.N[j]? = some x) (hx : Loc X.env.scope x) (S : CompScope X scope own caps) (hc : X.calm = true) (hi : PI X tg iter wi)
    (hg : ∀ C s₀ H₀ fp, PG (cxB X scope C (capN own caps) s₀ H₀ fp) tg g) (ht : ∀ C s₀ H₀ fp, PTs (cxB X scope C (capN own caps) s₀ H₀ fp) ifs tc) (he : ∀ C s₀ H₀ fp, PE (cxB X scope C (capN own caps) s₀ H₀ fp) elt te)
    (hsw : swapsWith (.ListComp elt [⟨tg, iter, ifs, 0⟩] scope pos) (some (.Name x px)) spos.line X.env = pure true := by rfl) (hs : ∀ x, foldedSetIterable iter X.env x = pure x := by intro _; rfl)
    (hf : X.fn x = true ∨ X.env.scope.names.lookup x = some .local := by first | exact .inl rfl | exact .inr rfl | assumption) : PS X (.Assign [.Name x px] (.ListComp elt [⟨tg, iter, ifs, 0⟩] scope pos) spos) (tCompS own caps wi g tc te j) := by
  intro pins s σ H D0 I h
  rw [exec_Assign_Name_used _ _ _ _ hsw]
  refine wpAny_bind (wpAny_standAt (wpAny_bind ?_))
  show wpAny _ X.A (do let _ ← comprehension (.ListComp elt [⟨tg, iter, ifs, 0⟩] scope pos) scope X.env _ (newList []) false (eval iter X.env) (some (assign (.Name x px) X.env))) _ _ s
  have hfree : ∀ y ∈ scope.names, y.2 = .free → ∃ c, X.env.cells.lookup y.1 = some c := fun y hy e => I.ok.has _ (S.frees.mem y hy e)
  refine wpAny_bind (wpAny_mono (wpAny_comprehension_free (Q := fun _ s' => SP X pins D0 .next s') (use := some (assign (.Name x px) X.env)) rfl hs (closureFor_eq hfree) S.kind S.names (thn (hi pins s σ H _ I h) fun v s1 h1 => thn h1 fun itv s2 h2 => ?_))
    (fun _ s' hq => wpAny_pure (wpAny_pure hq)) fun _ _ e => e)
  obtain ⟨it, fp, tn, J, H2, e, I2, T, st2, f2, hW⟩ := h2
  subst e
  -- the new list
  refine wpAny_newList ?_
  have hD : H2 s2.heap.objs.size = none := I2.fresh
  have I3 := I2.lnew (its := []) (ys := []) (t' := s2.toks) .nil (Nat.zero_le _)
  have k3 : ∀ b o, s2.heap.get? b = some o → (s2.heap.push { cls := .type "list", data := .seq ([] : List Value).toArray }).get? b = some o := fun b o q => Heap.get?_push_of_some _ q
  have st3 : tn 0 (s2.heap.push { cls := .type "list", data := .seq ([] : List Value).toArray }) := T.keep _ _ _ st2 fun b _ o q => k3 b o q
  have lt2 : ∀ b ∈ fp, b < s2.heap.objs.size := fun b hb => let ⟨o, q, _⟩ := T.obj _ _ st2 b hb; Heap.lt_size q
  have neD : ∀ b ∈ fp, b ≠ s2.heap.objs.size := fun b hb => Nat.ne_of_lt (lt2 b hb)
  have f3 : ∀ b ∈ fp, FpOk X pins (upd H2 s2.heap.objs.size (.lst [])) b := fun b hb => ⟨by rw [upd_ne (neD b hb)]; exact (f2 b hb).1, (f2 b hb).2⟩
  obtain ⟨W, ⟨m0, w0⟩, turn⟩ := hW _ hD
  generalize eD : s2.heap.objs.size = D at *
  generalize eH : upd H2 D (.lst []) = H3 at *
  generalize eh : s2.heap.push { cls := .type "list", data := .seq ([] : List Value).toArray } = hp3 at *
  have I3' : Inv X pins σ H3 { s2 with heap := hp3 } := I3
  -- the block's frame
  refine wpAny_newFunctionEnv S.nocell (fun y hy => by simp at hy) (fun h1 hns hsb => ?_) S.kind
  have kb : ∀ b o, hp3.get? b = some o → h1.get? b = some o := fun b o q => hsb.extBut b o (Nat.ne_of_lt (Heap.lt_size q)) (Heap.get?_push_of_some _ q)
  have lt3 : ∀ b ∈ fp, b < hp3.objs.size := fun b hb => let ⟨o, q, _⟩ := T.obj _ _ st3 b hb; Heap.lt_size q
  have IB := Inv.block (s := { s2 with heap := hp3 }) (h1 := h1) (tk := s2.toks) I3' S f3 hns kb lt3
  have stB : tn 0 h1 := T.keep _ _ _ st3 fun b _ o q => kb b o q
  have back : ∀ {σ' : St} {H' : Hp} {s' : Shared} {h' : Heap}, Inv (cxB X scope hp3.objs.size (capN own caps) { s2 with heap := hp3 } H3 fp) [] σ' H' s' → Heap.SameBut hp3.objs.size s'.heap h' → Inv X pins σ H' { s' with heap := h' } := fun {σ' H' s' h'} J hsm => by
    have nC : ∀ b o, H' b = some o → b ≠ hp3.objs.size := fun b o q z => by
      have := J.free
      rw [z] at q
      have q2 : H' hp3.objs.size = none := this
      rw [q] at q2; cases q2
    have hok : HOk X.prog X.w H' h' := fun b o q => (J.hok b o q).stay (fun c v hc z => hsm.extBut c v (by
      rcases hc with hc | hc
      · rw [hc]; exact nC b o q
      · exact nC c _ hc) z) (fun _ z => z) (fun _ _ z => z) fun _ _ _ z => z
    have nb : ∀ b o, hp3.get? b = some o → b ≠ hp3.objs.size := fun b o q => Nat.ne_of_lt (Heap.lt_size q)
    have un : Un (frs X.stack) fp H3 H' hp3 h' := ⟨fun b o q n hb hx => hsm.extBut b o (nb b o q) (J.base.keep b o q n hb hx), fun b o q n hb hx => by
        obtain ⟨sl, z⟩ := J.base.slot b o q n hb hx
        exact ⟨sl, hsm.extBut b _ (nb b o q) z⟩, J.base.free, fun b o q hx => by
        obtain ⟨o', z⟩ := J.base.there b o q hx
        exact ⟨o', hsm.extBut b _ (nb b o q) z⟩, J.base.tups, J.base.frzs, J.base.tbls⟩
    have os := J.os
    have bare := J.bare
    obtain ⟨hh, g, d, t, os'⟩ := s'
    obtain rfl : os' = s2.os := os
    show Inv X pins σ H' { ({ s2 with heap := hp3 } : Shared) with heap := h', gens := g, drawn := d, toks := t }
    exact I3'.call (h' := h') (g' := g) (d' := d) (t' := t) (ch := fp) un hok bare fun b hb => ⟨(f3 b hb).2.2.2.1, (f3 b hb).2.1, (f3 b hb).2.2.2.2.1, (f3 b hb).2.2.2.2.2⟩
  have statB : ∀ {H' : Hp}, (∀ b ∈ fp, H' b = none) → ∀ b ∈ fp, FpOk (cxB X scope hp3.objs.size (capN own caps) { s2 with heap := hp3 } H3 fp) [] H' b := fun hn b hb =>
    ⟨hn b hb, Nat.ne_of_lt (lt3 b hb), fun z => (IB.ok.exfs b hb) z, .inl hb, (IB.ok.exf b hb).2, fun p hp => absurd (show p ∈ ([] : List (Addr × Obj)) from hp) (by simp)⟩
  have loop : ∀ s₃ : Shared, s₃ = { s2 with heap := h1, toks := s2.toks } → codeAny (model X.prog X.w) X.A (.compLoop (.ListComp elt [⟨tg, iter, ifs, 0⟩] scope pos) 0 (.ref it) (.ref D) (compEnvC scope (clos X.env scope.names []) hp3.objs.size X.env))
      (compPost (model X.prog X.w) X.A X.xe (some (assign (.Name x px) X.env)) (fun _ s' => SP X pins D0 .next s') (.ref D) hp3.objs.size) s₃ := by
    rintro s₃ rfl
    refine compLoop_any (fun n s' => ∃ i σ' H', Inv (cxB X scope hp3.objs.size (capN own caps) { s2 with heap := hp3 } H3 fp) [] σ' H' s' ∧ tn i s'.heap ∧ (∀ b ∈ fp, H' b = none) ∧ W i n σ' H') ?_ m0 ⟨0, capS own caps σ, H3, IB, stB, fun b hb => (f3 b hb).1, w0⟩
    rintro n s3 ⟨i, σ3, H4, I4, st4, fr4, w4⟩
    rcases turn i n σ3 H4 w4 with ⟨stop, qn⟩ | ⟨go, N, hN, step⟩
    · refine thn (T.done (cxB X scope hp3.objs.size (capN own caps) { s2 with heap := hp3 } H3 fp) rfl rfl rfl hc i [] s3 σ3 H4 _ I4 (statB fr4) st4 stop) fun r s4 ⟨hr, I5⟩ => ?_
      subst hr
      obtain ⟨m, hn, _⟩ := I5.loc
      have I6 : Inv X pins σ H4 s4 := back I5 ⟨rfl, fun _ _ => rfl⟩
      have neL : hp3.objs.size ≠ X.env.locals := fun z => by
        have := I3'.lt
        rw [← z] at this
        exact Nat.lt_irrefl _ this
      have neC : ∀ y c, X.env.cells.lookup y = some c → c ≠ hp3.objs.size := fun y c e z => by
        obtain ⟨v, q⟩ := I3'.cell y c e
        have := q.lt
        rw [z] at this
        exact Nat.lt_irrefl _ this
      have neP : ∀ p ∈ X.pn ++ pins, p.1 ≠ hp3.objs.size := fun p hp z => by
        have := Heap.lt_size (I3'.pin p hp).1
        rw [z] at this
        exact Nat.lt_irrefl _ this
      refine wpAny_assign_Name (store_ok2 I6 hN hi' hx (v := .ref D) rfl (fun s7 I7 ⟨a, sb, ha⟩ => ?_) hf)
      have na : hp3.objs.size ≠ a := fun z => by
        rcases ha with ha | ha
        · exact neL (z.trans ha)
        · exact neC _ _ ha z.symm
      refine ⟨m, hn.sameBut sb na, fun h' hsm => ⟨_, H4, ?_, qn⟩⟩
      exact I7.turned (t' := s7.toks) (it := hp3.objs.size) (fun b o hb e => hsm.extBut b o hb e) I5.free neL (.inr I3'.sz) neC neP
    · refine thn (T.item (cxB X scope hp3.objs.size (capN own caps) { s2 with heap := hp3 } H3 fp) rfl rfl rfl hc i [] s3 σ3 H4 (fun _ _ => False) I4 (statB fr4) st4 go) fun r s4 ⟨u, hr, h4⟩ => ?_
      subst hr
      refine thn h4 fun _ s5 ⟨x, H5, I5, r5, y5, st5, fr5⟩ => ?_
      have I5' := I5.pinned (statB fr5) (T.obj _ _ st5)
      refine thn (hg hp3.objs.size { s2 with heap := hp3 } H3 fp _ s5 σ3 H5 x u _ I5' r5 (step x H5 y5)) fun _ s6 ⟨σ6, H6, I6, q6⟩ => ?_
      refine thn (ht hp3.objs.size { s2 with heap := hp3 } H3 fp _ s6 σ6 H6 _ I6 q6) fun ok s7 ⟨H7, I7, q7⟩ => ?_
      have again : ∀ {σ7 : St} {H7 : Hp} {s7 : Shared}, Inv (cxB X scope hp3.objs.size (capN own caps) { s2 with heap := hp3 } H3 fp) ([] ++ pinsAt fp s5.heap) σ7 H7 s7 → N σ7 H7 → ∃ m, m < n ∧ ∃ i σ' H', Inv (cxB X scope hp3.objs.size (capN own caps) { s2 with heap := hp3 } H3 fp) [] σ' H' s7 ∧ tn i s7.heap ∧ (∀ b ∈ fp, H' b = none) ∧ W i m σ' H' := fun {σ7 H7 s7} I7 n7 => by
        obtain ⟨m', hm, w7⟩ := hN σ7 H7 n7
        refine ⟨m', hm, i + 1, σ7, H7, I7.unpinned, T.keep _ _ _ st5 fun b hb o e => (I7.pin (b, o) (List.mem_append_right _ (List.mem_append_right _ (mem_pinsAt hb e)))).1, fun b hb => ?_, w7⟩
        obtain ⟨o, e, d⟩ := T.obj _ _ st5 b hb
        exact (I7.pin (b, o) (List.mem_append_right _ (List.mem_append_right _ (mem_pinsAt hb e)))).2.1
      cases ok with
      | false =>
        rw [if_neg (by decide)]
        rw [if_neg (by decide)] at q7
        exact again I7 q7
      | true =>
        rw [if_pos rfl]
        rw [if_pos rfl] at q7
        refine thn (he hp3.objs.size { s2 with heap := hp3 } H3 fp _ s7 σ6 H7 _ I7 q7) fun y s8 ⟨yv, H8, I8, r8, ys, e8, z8, n8⟩ => ?_
        refine thn (mt_append (X := cxB X scope hp3.objs.size (capN own caps) { s2 with heap := hp3 } H3 fp) _ s8 σ6 H8 (.ref D) [yv] (.ref D) [y] (fun _ H' => N σ6 H') I8 rfl (.cons r8 .nil) ⟨D, ys, yv, rfl, rfl, e8, z8, n8⟩) fun _ s9 ⟨v9, H9, I9, _, q9⟩ => ?_
        exact again I9 q9
  exact codeAny_compStart_list (loop _ rfl) (T.self _ 0 _ _ _ stB (loop _ rfl))
end
end L2
namespace DN
open PySem PySem.Spec PyProof.Rows L2
section
variable {X : Cx} {G : Pg} {e a b o tg : Expr} {es : List Expr} {da db : DP} {d : DA} {dm : DM} {ds du : DS} {pos p apos cpos : Pos} {x m : Str} {k i : Nat} {ms : List Bool}
theorem s_setC {elt iter : Expr} {ifs : List Expr} {scope : Scope} {own : List Str} {caps : List (Str × Nat)} {di : DA} {g : DG} {dt : DT} {de : DP} (hN : X.N.Nodup) (hi' : X.N[i]? = some x) (hx : Loc X.env.scope x) (S : CompScope X scope own caps) (hc : X.calm = true) (hi : JIs X G tg iter di)
    (hg : ∀ C s₀ H₀ fp, JG (cxB X scope C (capN own caps) s₀ H₀ fp) G tg g) (ht : ∀ C s₀ H₀ fp, JTs (cxB X scope C (capN own caps) s₀ H₀ fp) G ifs dt) (he : ∀ C s₀ H₀ fp, JP (cxB X scope C (capN own caps) s₀ H₀ fp) G elt de)
    (gk : ∀ (w : PV) (ps ps' : PSt), g w ps = .ok ps' → ∀ (i : Nat) (x : Ow), ps'[i]? = some (Sl.own x) → ps[i]? = some (Sl.own x))
    (hsw : swapsWith (.ListComp elt [⟨tg, iter, ifs, 0⟩] scope cpos) (some (.Name x p)) pos.line X.env = pure true := by rfl) (hs : ∀ x, foldedSetIterable iter X.env x = pure x := by intro _; rfl)
    (hf : X.fn x = true ∨ X.env.scope.names.lookup x = some .local := by first | exact .inl rfl | exact .inr rfl | assumption) : JS X G (.Assign [.Name x p] (.ListComp elt [⟨tg, iter, ifs, 0⟩] scope cpos) pos) (sSet i (dOfN (dComp own caps di g dt de))) :=
  impS (ps_comp (wi := tPs X.K G di) (g := tG X.K G g) (tc := tPt X.K G dt) (te := tPv X.K G de) hN hi' hx S hc hi hg ht he hsw hs hf) fun D σ H ⟨c, ow, ps, R, q⟩ => by
    obtain ⟨w, e0, q⟩ := ends_st q
    obtain ⟨ws, e1, e2⟩ := bind_ok e0
    cases e2
    exact comp_go gk ⟨c, ow, ps, ws, R, e1, fun p vs H' s hp hv r => q _ _ _ ((R.grow s).setV ⟨p, vs, rfl, .inl ⟨hv, fun z => R.used p z hp⟩, (Kp.weak fun a z => Or.inl z).reps r⟩) ((Kp.of_same s).trans (Kp.weak av_off))⟩
/-! ### what the mirrors' mathematics wants -/
theorem comp_emb {α : Type} {dt : DT} {de : DP} {ps0 : PSt} (emb : α → PV) (q : α → Bool) (f : α → PV) : ∀ (us : List α) (s : Sl), (∀ u, u ∈ us → dt (.v (emb u) :: ps0) = .ok (q u) ∧ (q u = true → de (.v (emb u) :: ps0) = .ok (f u))) → compD (gSet 0) dt de (us.map emb) (s :: ps0) = .ok ((us.filter q).map f)
  | [], s, _ => rfl
  | u :: us, s, h => by
    obtain ⟨h1, h2⟩ := h u List.mem_cons_self
    have ih := comp_emb emb q f us (.v (emb u)) fun w' hw => h w' (List.mem_cons_of_mem _ hw)
    have e0 : gSet 0 (emb u) (s :: ps0) = .ok (.v (emb u) :: ps0) := rfl
    rw [List.map_cons, compD, e0, ok_bind, h1, ok_bind]
    cases hp : q u with
    | true => rw [if_pos rfl, h2 hp, ok_bind, ih, ok_bind, List.filter_cons, if_pos hp]; rfl
    | false => rw [if_neg Bool.false_ne_true, ih, List.filter_cons, if_neg (by rw [hp]; exact Bool.false_ne_true)]
theorem comp_all {α : Type} {de : DP} {ps0 : PSt} (emb f : α → PV) (us : List α) (s : Sl) (h : ∀ u, u ∈ us → de (.v (emb u) :: ps0) = .ok (f u)) : compD (gSet 0) dYes de (us.map emb) (s :: ps0) = .ok (us.map f) := by
  rw [comp_emb emb (fun _ => true) f us s fun u hu => ⟨rfl, fun _ => h u hu⟩, List.filter_eq_self.mpr fun _ _ => rfl]
mutual
def PV.data : PV → Bool
  | .obj _ _ => false
  | .dic _ _ => false
  | .clo _ _ => false
  | .tup xs => pdata xs
  | .lst xs => pdata xs
  | .dit _ _ => false
  | .dbo _ _ => false
  | _ => true
def pdata : List PV → Bool
  | [] => true
  | x :: xs => x.data && pdata xs
end
mutual
theorem peq_self : ∀ (x : PV), x.data = true → peq x x = some true
  | .non, _ => rfl
  | .bl _, _ => congrArg some (beq_self_eq_true _)
  | .int _, _ => congrArg some (beq_self_eq_true _)
  | .str _, _ => congrArg some (beq_self_eq_true _)
  | .tup xs, h => by rw [peq_tt]; exact peqs_self xs h
  | .lst xs, h => by rw [peq_ll, if_pos rfl]; exact peqs_self xs h
  | .obj _ _, h => by cases h
  | .dic _ _, h => by cases h
  | .clo _ _, h => by cases h
  | .dit _ _, h => by cases h
  | .dbo _ _, h => by cases h
theorem peqs_self : ∀ (xs : List PV), pdata xs = true → peqs xs xs = some true
  | [], _ => by rw [peqs]
  | x :: xs, h => by
    have h : (x.data && pdata xs) = true := h
    rw [Bool.and_eq_true] at h
    rw [peqs, peq_self x h.1, peqs_self xs h.2]
    rfl
end
end
end DN
end
section
set_option Elab.async false
set_option linter.all false
set_option maxRecDepth 100000
set_option maxHeartbeats 4000000
namespace DN
open PySem PySem.Spec PyProof.Rows L2
section
variable {X : Cx} {G : Pg} {e a b o tg : Expr} {es : List Expr} {da db : DP} {d : DA} {dm : DM} {ds du : DS} {pos p apos cpos : Pos} {x m : Str} {k i : Nat} {ms : List Bool}
def fldO (l : List (Nat × Nat)) (k : Nat) (xs : List PV) : Rx PV := match l.lookup k with | some j => (match xs[j]? with | some w => .ok w | none => .bad) | none => .bad
/-- x.f, x a name: a thing of one's own, lent, or being made -/
def dFldI (l : List (Nat × Nat)) (i : Nat) : DP := fun ps => match ps[i]? with
  | some (.ino (.obj k xs)) => fldO l k xs
  | some (.own (.obj k xs)) => fldO l k xs
  | some (.bor (.obj k xs)) => fldO l k xs
  | some (.ini k xs) => fldO l k xs
  | some (.v (.obj k xs)) => fldO l k xs
  | _ => .bad
/-- self.f = e in an __init__, the j-th attribute -/
def sIni (k j : Nat) (d : DP) : DS := fun ps => match ps[(0 : Nat)]? with
  | some (.ini k' xs) => if k' = k ∧ xs.length = j then (d ps).st fun w => .nx (ps.set 0 (.ini k (xs ++ [w]))) else .bad
  | _ => .bad
end
def spIn (K : PySem.W.Frag) (G : Pg) (k : Nat) (ms : List Bool) (g : List PV → Rx PV) : Sp := fun vs H Q _ => ∃ (A : Av) (H1 : Hp) (ws : List PV) (x dx : Addr) (us : List V) (fs : List PV), vs = .ref x :: us ∧ H x = some (.ins (G.cA k) dx []) ∧ H1 x = none ∧ Same H1 H ∧ Used H1 A ∧ RepM K G H1 A ms ws us ∧ g ws = .ok (.obj k fs) ∧
  ∀ H' dx' vs', Same H1 H' → H' x = some (.ins (G.cA k) dx' ((G.fN k).zip vs')) → (G.fN k).length = vs'.length → Reps K G H' (fun a => A a ∨ a = x) fs vs' → Q .non H'
theorem RepF.keep {K : PySem.W.Frag} {G : Pg} {H H' : Hp} {A A' B : Av} {ps : PSt} {σ : L2.St} (R : RepF K G B H A ps σ) (k : Kp K G H A H' A') (e : ∀ p, B p → H' p = H p) : RepF K G B H' A' ps σ := by
  refine ⟨R.len, fun i s o h1 h2 => ?_⟩
  have q := R.slot i s o h1 h2
  cases s with
  | no => exact True.intro
  | v w => obtain ⟨v, e, r⟩ := q; exact ⟨v, e, k.rep r⟩
  | own x => exact q.elim
  | ino x => exact q.elim
  | ini k xs => exact q.elim
  | dol ks xss => exact q.elim
  | als d j => exact q.elim
  | bor w =>
    obtain ⟨v, e1, r⟩ := q
    refine ⟨v, e1, ?_⟩
    rcases r with r | ⟨x, p, e1, e2, r, n⟩ | r
    · exact .inl (k.rep r)
    · exact .inr (.inl ⟨x, p, e1, e2, r.keep k (e p n), n⟩)
    · exact .inr (.inr (r.keep k fun p n _ => e p n))
theorem RepF.cons {K : PySem.W.Frag} {G : Pg} {H : Hp} {A B : Av} {ps : PSt} {σ : L2.St} {s : Sl} {v : V} {x : Addr} (R : RepF K G B H A ps σ) (u : Used H A) (ub : ∀ a, B a → H a ≠ none ∧ a ≠ x) (hx : A x) (hs : SlAt K G ⟨H, A, B, some x⟩ (ps.length + 1) H (av ⟨H, A, B, some x⟩ ow0) ow0 0 s (some v)) : RepS K G ⟨H, A, B, some x⟩ H ow0 (s :: ps) (some v :: σ) := by
  refine ⟨by simp [R.len], SmL.of (Same.refl H), (fun p e => ?_), u, (fun a z => ⟨(ub a z).1, fun e => (ub a z).2 (Option.some.inj e).symm⟩), (fun i p e => (nomatch e)), (fun i j p e => (nomatch e)), (fun _ _ e => (nomatch e)), fun i s' o e1 e2 => ?_⟩
  · cases e; exact ⟨hx, u x hx⟩
  · cases i with
    | zero => simp at e1 e2; subst e1; subst e2; exact hs
    | succ i =>
      have q := R.slot i s' o (by simpa using e1) (by simpa using e2)
      have k : Kp K G H A H (av ⟨H, A, B, some x⟩ ow0) := Kp.weak fun a z => av0 a z
      cases s' with
      | no => rfl
      | v w => obtain ⟨v, e, r⟩ := q; exact ⟨rfl, v, e, k.rep r⟩
      | own x => exact q.elim
      | ino x => exact q.elim
      | ini k xs => exact q.elim
      | dol ks xss => exact q.elim
      | als d j => exact q.elim
      | bor w =>
        obtain ⟨v, e, r⟩ := q
        refine ⟨rfl, v, e, ?_⟩
        rcases r with r | ⟨x, p, e1, e2, r, n⟩ | r
        · exact .inl (k.rep r)
        · exact .inr (.inl ⟨x, p, e1, e2, r.keep k rfl, n⟩)
        · exact .inr (.inr (r.keep k fun _ _ _ => rfl))
/-! ### C(..) -/
structure NewI (P : Program) (w : World) (K : PySem.W.Frag) (mg : Str → Option Value) (base : Bs) (G : Pg) (k : Nat) (x : Str) (c : Nat) (ms : List Bool) (g : List PV → Rx PV) : Prop where
  glob : mg x = some (.ref (G.cA c))
  cl : Cls K (G.cA c)
  ex : ∃ (f : Addr) (fd : FuncData) (ps : List Str), Mk K (G.cA c) f ∧ FnOk P w K mg base CX0 k f fd ps (spIn K G c ms g) ∧ Binds K fd ps []
section
variable {X : Cx} {G : Pg} {e a b o tg : Expr} {es : List Expr} {da db : DP} {d : DA} {pos p : Pos} {x : Str} {k i c : Nat} {ms : List Bool} {g : List PV → Rx PV}
variable (ps : PSt)
@[simp] theorem e_ini (k j : Nat) : sIni k j da ps = match ps[(0 : Nat)]? with
  | some (.ini k' xs) => if k' = k ∧ xs.length = j then (da ps).st fun w => .nx (ps.set 0 (.ini k (xs ++ [w]))) else .bad
  | _ => .bad := rfl
@[simp] theorem e_fldI (l : List (Nat × Nat)) (i : Nat) : dFldI l i ps = match ps[i]? with
  | some (.ino (.obj k xs)) => fldP l (.obj k xs)
  | some (.own (.obj k xs)) => fldP l (.obj k xs)
  | some (.bor (.obj k xs)) => fldP l (.obj k xs)
  | some (.ini k xs) => fldP l (.obj k xs)
  | some (.v (.obj k xs)) => fldP l (.obj k xs)
  | _ => .bad := rfl
end
end DN
end
section
set_option Elab.async false
set_option linter.all false
set_option maxRecDepth 100000
set_option maxHeartbeats 4000000
namespace DN
open PySem PySem.Spec PyProof.Rows L2
/-- all but what stands at p stays -/
def SameX (p : Addr) (H H' : Hp) : Prop := ∀ a o, H a = some o → a ≠ p → H' a = some o
section
variable {K : PySem.W.Frag} {G : Pg} {H H' : Hp} {A A' : Av} {c : Fr} {ow : Ows} {ps : PSt} {σ : L2.St}
end
/-! ### defs that change the instance they are lent -/
def spO (K : PySem.W.Frag) (G : Pg) (ms : List Bool) (g : List PV → Rx PV) : Sp := fun vs H Q _ => ∃ (A : Av) (H1 : Hp) (p : Addr) (k : Nat) (xs ws : List PV) (us : List V) (w : PV) (k' : Nat) (xs' : List PV), vs = .ref p :: us ∧ A p ∧ H1 p = none ∧ Same H1 H ∧ Used H A ∧ RepO K G H A (.obj k xs) p ∧ RepM K G H1 A ms ws us ∧
  g (.obj k xs :: ws) = .ok (.tup [w, .obj k' xs']) ∧ ∀ v H', SameX p H H' → RepO K G H' A (.obj k' xs') p → Rep K G H' A w v → Q v H'
structure MtO (P : Program) (w : World) (K : PySem.W.Frag) (mg : Str → Option Value) (base : Bs) (G : Pg) (k : Nat) (m : Str) (ms : List Bool) (tab : List (Nat × Nat)) (g : Nat → List PV → Rx PV) : Prop where
  all : ∀ c f, tab.lookup c = some f → MethAt P w K mg base CX0 k (G.cA c) m (spO K G ms (g f)) ∧ m ∉ G.fN c
section
variable {X : Cx} {G : Pg} {e a b o tg : Expr} {es : List Expr} {da db : DP} {d : DA} {dm : DM} {dma : DMA} {ds du : DS} {dt : DT} {pos p apos cpos : Pos} {x m : Str} {k i : Nat} {ms : List Bool}
end
end DN
end
section
set_option Elab.async false
set_option linter.all false
set_option maxRecDepth 100000
set_option maxHeartbeats 4000000
namespace DN
open PySem PySem.Spec PyProof.Rows L2
section
variable {X : Cx} {G : Pg} {e a b o tg : Expr} {es : List Expr} {da db : DP} {d : DA} {dm : DM} {dma : DMA} {ds du : DS} {dt : DT} {pos p apos cpos : Pos} {x m : Str} {k i : Nat} {ms : List Bool}
/-! ### tests that change things -/
abbrev DTM := PSt → Rx (Bool × PSt)
def mTr (d : DM) : DTM := fun ps => (d ps).bind fun r => match r.1 with | .bl b => .ok (b, r.2) | _ => .bad
def mOfT (d : DT) : DTM := fun ps => (d ps).bind fun b => .ok (b, ps)
def mNot (d : DTM) : DTM := fun ps => (d ps).bind fun r => .ok (!r.1, r.2)
def mOr (t u : DTM) : DTM := fun ps => (t ps).bind fun r => if r.1 = true then .ok (true, r.2) else u r.2
def mAnd (t u : DTM) : DTM := fun ps => (t ps).bind fun r => if r.1 = true then u r.2 else .ok (false, r.2)
def sIfM (t : DTM) (a b : DS) : DS := fun ps => (t ps).st fun r => if r.1 = true then a r.2 else b r.2
/-! ### while, by fuel -/
def iterM (t : DTM) (body : DS) : Nat → PSt → Option Rs
  | 0, _ => none
  | n + 1, ps => match t ps with
    | .ok (true, ps1) => (match body ps1 with
      | .nx ps2 => iterM t body n ps2
      | .cnt ps2 => iterM t body n ps2
      | .brk ps2 => some (.nx ps2)
      | r => some r)
    | .ok (false, ps1) => some (.nx ps1)
    | .bad => some .bad
    | .exc c => some (.exc c)
def sWhileM (t : DTM) (body : DS) : DS := fun ps => (iterM t body 100000 ps).getD .bad
/-! ### new instances: their arguments may change things; one's own ones -/
def mNew (c n : Nat) (d : DMA) : DM := fun ps => (d ps).bind fun r => if r.1.length = n then .ok (.obj c r.1, r.2) else .bad
end
end DN
end
section
set_option Elab.async false
set_option linter.all false
set_option maxRecDepth 100000
set_option maxHeartbeats 4000000
namespace DN
open PySem PySem.Spec PyProof.Rows L2
def mkS (l : List Nat) : Str := ⟨l.toArray⟩
/-- the first place of y in l -/
def fst1 (y : List Nat) : List Nat → List Nat → Option (List Nat × List Nat)
  | _, [] => none
  | cur, c :: l => if y.isPrefixOf (c :: l) = true then some (cur.reverse, (c :: l).drop y.length) else fst1 y (c :: cur) l
section
open PySem.StrLaws PySem.Builtin PySem.Builtin.Str
theorem at_iff {x y : Str} {i : Nat} (hw : 1 ≤ y.length) (hi : i ≤ x.length) : At x y x.length i ↔ y.cps.toList.isPrefixOf (x.cps.toList.drop i) = true := by
  have hl : x.length = x.cps.toList.length := by simp [Str.length]
  have hy : y.length = y.cps.toList.length := by simp [Str.length]
  unfold At
  rw [subAt_eq, List.isPrefixOf_iff_prefix, List.prefix_iff_eq_take]
  constructor
  · rintro ⟨h1, h2⟩
    rw [← hy]
    simpa using (beq_iff_eq.mp h2).symm
  · intro h
    rw [← hy] at h
    refine ⟨?_, by rw [← h]; simp⟩
    have := congrArg List.length h
    rw [← hy, List.length_take, List.length_drop] at this
    omega
end
section
variable {X : Cx} {G : Pg} {e a b o tg : Expr} {es : List Expr} {da db : DP} {d : DA} {pos p apos cpos : Pos} {x m : Str} {k i : Nat} {ms : List Bool}
def goodSep (y : Str) : Bool := y.cps.all (· < 256) && decide (1 ≤ y.cps.toList.length)
theorem goodSep_ok {y : Str} (h : goodSep y = true) : 1 ≤ y.length ∧ Builtin.Str.strKind y = 1 ∧ (y.length == 0) = false := by
  unfold goodSep at h
  rw [Bool.and_eq_true, decide_eq_true_iff] at h
  have h1 : 1 ≤ y.length := by have := h.2; simp [Str.length] at this ⊢; omega
  refine ⟨h1, by unfold Builtin.Str.strKind; rw [if_pos h.1], ?_⟩
  rw [beq_eq_false_iff_ne]; omega
open PySem.StrLaws PySem.Builtin PySem.Builtin.Str in
theorem fst1_none {x y : Str} (hw : 1 ≤ y.length) : ∀ (n i : Nat) (cur : List Nat), i + n = x.length → (∀ k, i ≤ k → ¬ At x y x.length k) → fst1 y.cps.toList cur (x.cps.toList.drop i) = none
  | 0, i, cur, h, hn => by
    have hl : x.length = x.cps.toList.length := by simp [Str.length]
    rw [List.drop_of_length_le (i := i) (by omega)]
    rfl
  | n + 1, i, cur, h, hn => by
    have hl : x.length = x.cps.toList.length := by simp [Str.length]
    have hi : i < x.cps.toList.length := by omega
    have h0 := hn i (Nat.le_refl _)
    rw [at_iff hw (by omega)] at h0
    rw [List.drop_eq_getElem_cons hi] at h0 ⊢
    unfold fst1
    rw [if_neg h0]
    exact fst1_none hw n (i + 1) _ (by omega) fun k hk => hn k (by omega)
open PySem.StrLaws PySem.Builtin PySem.Builtin.Str in
theorem fst1_at {x y : Str} (hw : 1 ≤ y.length) : ∀ (n i : Nat), At x y x.length (i + n) → (∀ k, i ≤ k → k < i + n → ¬ At x y x.length k) → fst1 y.cps.toList (x.cps.toList.take i).reverse (x.cps.toList.drop i) = some (x.cps.toList.take (i + n), x.cps.toList.drop (i + n + y.length))
  | 0, i, h1, hn => by
    have hl : x.length = x.cps.toList.length := by simp [Str.length]
    have hy : y.length = y.cps.toList.length := by simp [Str.length]
    have hi : i < x.cps.toList.length := by have := h1.1; omega
    rw [Nat.add_zero] at h1 ⊢
    rw [at_iff hw (by omega)] at h1
    rw [List.drop_eq_getElem_cons hi] at h1 ⊢
    unfold fst1
    rw [if_pos h1, List.reverse_reverse, ← List.drop_eq_getElem_cons hi, List.drop_drop, ← hy]
  | n + 1, i, h1, hn => by
    have hl : x.length = x.cps.toList.length := by simp [Str.length]
    have hi : i < x.cps.toList.length := by have := h1.1; omega
    have h0 := hn i (Nat.le_refl _) (by omega)
    rw [at_iff hw (by omega)] at h0
    rw [List.drop_eq_getElem_cons hi] at h0 ⊢
    unfold fst1
    rw [if_neg h0]
    have := fst1_at hw n (i + 1) (by rw [show i + 1 + n = i + (n + 1) from by omega]; exact h1) fun k hk hk2 => hn k (by omega) (by omega)
    rw [show i + 1 + n = i + (n + 1) from by omega] at this
    rw [← this, List.take_succ, List.reverse_append, List.getElem?_eq_getElem hi]
    rfl
def part (x y : Str) : Str × Str × Str := match fst1 y.cps.toList [] x.cps.toList with
  | some (p, r) => (mkS p, y, mkS r)
  | none => (x, ⟨#[]⟩, ⟨#[]⟩)
end
section
variable {P : Program} {w : World} {K : PySem.W.Frag} {mg : Str → Option Value} {base : Bs} {G : Pg} {n : Nat} {m : Str} {ms : List Bool}
end
end DN
end
section
set_option Elab.async false
set_option linter.all false
set_option maxRecDepth 100000
set_option maxHeartbeats 4000000
namespace DN
open PySem PySem.Spec PyProof.Rows L2
@[simp] theorem pv_lst (xs : List PV) : (Ow.lst xs).pv = .lst xs := rfl
@[simp] theorem pv_objO (k : Nat) (xs : List PV) : (Ow.obj k xs).pv = .obj k xs := rfl
@[simp] theorem pv_dic (ks : List Key) (xs : List PV) : (Ow.dic ks xs).pv = .dic ks xs := rfl
end DN
end
section
set_option Elab.async false
set_option linter.all false
set_option maxRecDepth 100000
set_option maxHeartbeats 4000000
namespace DN
open PySem PySem.Spec PyProof.Rows L2
/-! ### functions as values: their promise -/
def spC (K : PySem.W.Frag) (G : Pg) (np : Nat) (g : List PV → Rx PV) : SpN := fun vs cv H Q _ => ∃ A ws cw w, Used H A ∧ RepM K G H A (List.replicate np false) ws vs ∧ Reps K G H A cw cv ∧ g (ws ++ cw) = .ok w ∧ ∀ v H', Same H H' → Rep K G H' A w v → Q v H'
section
variable {P : Program} {w : World} {K : PySem.W.Frag} {mg : Str → Option Value} {base : Bs} {G : Pg} {H : Hp} {A : Av}
theorem RepM.more {cw : List PV} {cv : List V} : ∀ {n : Nat} {ws : List PV} {vs : List V}, RepM K G H A (List.replicate n false) ws vs → Reps K G H A cw cv → RepM K G H A (List.replicate (n + cw.length) false) (ws ++ cw) (vs ++ cv)
  | 0, ws, vs, h, r => by
    obtain ⟨rfl, rfl⟩ := h
    rw [Nat.zero_add]
    exact go r
  | n + 1, ws, vs, h, r => by
    obtain ⟨w, wr, v, vr, rfl, rfl, r1, rr⟩ := h
    rw [Nat.add_right_comm]
    exact ⟨w, wr ++ cw, v, vr ++ cv, rfl, rfl, r1, RepM.more rr r⟩
where go : ∀ {cw : List PV} {cv : List V}, Reps K G H A cw cv → RepM K G H A (List.replicate cw.length false) cw cv
  | [], cv, h => ⟨rfl, h⟩
  | w :: cw, cv, h => by
    obtain ⟨v, r, rfl, r1, r2⟩ := h
    exact ⟨w, cw, v, r, rfl, rfl, by rw [if_neg Bool.false_ne_true]; exact r1, go r2⟩
theorem clo_ok {n : Nst} {body : List Stmt} {N ps : List Str} {k np : Nat} {d : DS} (hb : n.body = .stmts body) (S : NScope N ps n.free n.scope) (hm : np = ps.length)
    (hbind : ∀ (nm qual : Str) (cl : List (Str × Addr)) (doc pm cdv ct : Value) (us : List Value), us.length = ps.length → bindArgs (fnY n nm qual cl doc pm cdv ct) ⟨us, []⟩ = pure (ps.zip us))
    (hj : ∀ (qual : Str) (cd : Value) (cl : List (Str × Addr)) (f : Addr) (A : Around) (outer : List Env) (s : Shared) (H : Hp) (E : XK), Room k (A.deeper (PySem.W.envX qual n.scope s.heap.objs.size f cd cl)) → JSs (cxN CX0 P w K mg base N qual n.scope f cd cl A outer s H E).nox G body d) :
    ClOk P w K mg base CX0 (k + 1) n (spC K G np (runD (List.replicate (np + n.free.length) false) N.length d)) := by
  refine clo_of hb S (fun vs cv H Q E ⟨A, ws, cw, w, u, r, _⟩ => by rw [r.len.2, List.length_replicate, hm]) hbind (fun qual cd cl f A outer s H vs cv Q E hr hce h => ?_)
  obtain ⟨A', ws, cw, w', u, r, rc, e, q⟩ := h
  refine ⟨_, (hj qual cd cl f A outer s H E hr).nox, ?_⟩
  have hl : n.free.length = cw.length := by rw [hce.len]; exact rc.len.symm
  have r2 := r.more rc
  have F0 := in_rep (N := N) r2
  have S0 := F0.toS u fun a z => z
  refine ⟨_, ow0, inP (List.replicate (np + cw.length) false) N.length (ws ++ cw), S0, ?_⟩
  unfold runD at e
  rw [hl, if_pos r2.len.1] at e
  cases ed : d (inP (List.replicate (np + cw.length) false) N.length (ws ++ cw)) with
  | nx ps' => rw [ed] at e; cases e; exact fun σ' H' ow' R' _ => q .non H' (R'.same.same rfl) rfl
  | ret w2 => rw [ed] at e; cases e; exact fun v H' s r => q v H' (s.same rfl) r
  | reti w x => rw [ed] at e; cases e
  | retn xs => rw [ed] at e; cases e; exact fun p vs H' s hp hv r => q (.ref p) H' (s.same rfl) ⟨p, vs, rfl, .inl ⟨hv, fun z => u p z hp⟩, (Kp.weak fun a z => Or.inl z).reps r⟩
  | brk _ => rw [ed] at e; cases e
  | cnt _ => rw [ed] at e; cases e
  | bad => rw [ed] at e; cases e
  | exc _ => rw [ed] at e; cases e
/-- a lambda -/
def runE (ms : List Bool) (n : Nat) (d : DP) (ws : List PV) : Rx PV := if ws.length = ms.length then d (inP ms n ws) else .bad
theorem clo_okE {n : Nst} {body : Expr} {N ps : List Str} {k np : Nat} {d : DP} (hb : n.body = .expr body) (S : NScope N ps n.free n.scope) (hm : np = ps.length)
    (hbind : ∀ (nm qual : Str) (cl : List (Str × Addr)) (doc pm cdv ct : Value) (us : List Value), us.length = ps.length → bindArgs (fnY n nm qual cl doc pm cdv ct) ⟨us, []⟩ = pure (ps.zip us))
    (hj : ∀ (qual : Str) (cd : Value) (cl : List (Str × Addr)) (f : Addr) (A : Around) (outer : List Env) (s : Shared) (H : Hp) (E : XK), Room k (A.deeper (PySem.W.envX qual n.scope s.heap.objs.size f cd cl)) → JP (cxN CX0 P w K mg base N qual n.scope f cd cl A outer s H E).nox G body d) :
    ClOk P w K mg base CX0 (k + 1) n (spC K G np (runE (List.replicate (np + n.free.length) false) N.length d)) := by
  refine clo_ofE hb S (fun vs cv H Q E ⟨A, ws, cw, w, u, r, _⟩ => by rw [r.len.2, List.length_replicate, hm]) hbind (fun qual cd cl f A outer s H vs cv Q E hr hce h => ?_)
  obtain ⟨A', ws, cw, w', u, r, rc, e, q⟩ := h
  refine ⟨_, (hj qual cd cl f A outer s H E hr).nox, ?_⟩
  have hl : n.free.length = cw.length := by rw [hce.len]; exact rc.len.symm
  have r2 := r.more rc
  have F0 := in_rep (N := N) r2
  have S0 := F0.toS u fun a z => z
  unfold runE at e
  rw [hl, if_pos r2.len.1] at e
  exact ⟨_, ow0, inP (List.replicate (np + cw.length) false) N.length (ws ++ cw), w', S0, e, fun v H' s r => q v H' s ((Kp.weak fun a z => Or.inl z).rep r)⟩
theorem clo_none {n : Nst} {k np : Nat} {g : List PV → Rx PV} (h : ∀ ws, g ws = .bad) : ClOk P w K mg base CX0 k n (spC K G np g) :=
  ⟨fun A outer s H q cl us vs cv Q E _ _ _ _ _ ⟨_, ws, cw, w, _, _, _, e, _⟩ => by rw [h] at e; cases e⟩
/-- all of them: their numbers, how many arguments each has -/
structure ClAll (P : Program) (w : World) (K : PySem.W.Frag) (mg : Str → Option Value) (base : Bs) (G : Pg) (k : Nat) (tab : List (Nat × Nat)) (g : Nat → List PV → Rx PV) : Prop where
  all : ∀ f np, tab.lookup f = some np → ClOk P w K mg base CX0 k (G.nF f) (spC K G np (g f))
theorem ca_nil {k : Nat} {g : Nat → List PV → Rx PV} : ClAll P w K mg base G k [] g := ⟨fun f np h => by simp at h⟩
theorem ca_cons {k f np : Nat} {tab : List (Nat × Nat)} {g : Nat → List PV → Rx PV} (h : ClOk P w K mg base CX0 k (G.nF f) (spC K G np (g f))) (r : ClAll P w K mg base G k tab g) : ClAll P w K mg base G k ((f, np) :: tab) g :=
  ⟨fun f' np' e => by
    rcases look_cons e with ⟨rfl, rfl⟩ | e
    · exact h
    · exact r.all f' np' e⟩
end
section
variable {X : Cx} {G : Pg} {e a b o : Expr} {es : List Expr} {da db : DP} {d : DA} {ds : DS} {pos p apos : Pos} {x m : Str} {k i : Nat} {ms : List Bool} {tab : List (Nat × Nat)} {g : Nat → List PV → Rx PV}
/-- a function that is held is called -/
def appC (tab : List (Nat × Nat)) (g : Nat → List PV → Rx PV) (x : PV) (m : Rx (List PV)) : Rx PV := match x with
  | .clo f cw => (match tab.lookup f with | some np => m.bind fun ws => if ws.length = np then g f (ws ++ cw) else .bad | none => .bad)
  | _ => .bad
theorem appC_ok {x : PV} {m : Rx (List PV)} {w : PV} (h : appC tab g x m = .ok w) : ∃ f cw np ws, x = .clo f cw ∧ tab.lookup f = some np ∧ m = .ok ws ∧ ws.length = np ∧ g f (ws ++ cw) = .ok w := by
  unfold appC at h
  split at h
  · rename_i f cw
    split at h
    · rename_i np hnp
      obtain ⟨ws, e1, h⟩ := bind_ok h
      split at h
      · rename_i hl; exact ⟨f, cw, np, ws, rfl, hnp, e1, hl, h⟩
      · cases h
    · cases h
  · cases h
theorem rep_false {K : PySem.W.Frag} {H : Hp} {A : Av} : ∀ {ms : List Bool} {ws : List PV} {vs : List V}, ms.all (! ·) = true → RepM K G H A ms ws vs → RepM K G H A (List.replicate ws.length false) ws vs
  | [], ws, vs, _, h => by obtain ⟨rfl, rfl⟩ := h; exact ⟨rfl, rfl⟩
  | m :: ms, ws, vs, hm, h => by
    obtain ⟨w, wr, v, vr, rfl, rfl, r, rr⟩ := h
    rw [List.all_cons, Bool.and_eq_true] at hm
    cases m with
    | true => simp at hm
    | false => exact ⟨w, wr, v, vr, rfl, rfl, r, rep_false hm.2 rr⟩
theorem callV_of (h : ClAll X.prog X.w X.K X.mg X.base G k tab g) (hms : ms.all (! ·) = true) {c : Fr} {ow : Ows} {ps : PSt} {σ : L2.St} {H H1 : Hp} {Q : VK} {y w : PV} {u : V} (R : RepS X.K G c H ow ps σ) (s1 : Same H H1) (ry : Rep X.K G H1 (av c ow) y u)
    (e : appC tab g y (d ps) = .ok w) (q : ∀ v H', Same H H' → Rep X.K G H' (av c ow) w v → Q v H') :
    tCallV (ι := { q : Nat × Nat // tab.lookup q.1 = some q.2 }) (fun i => G.nF i.1.1) (fun i => spC X.K G i.1.2 (g i.1.1)) E0 (tPa X.K G ms d) σ H1 u Q := by
  obtain ⟨f, cw, np, ws, rfl, ht, e1, hl, e2⟩ := appC_ok e
  obtain ⟨qa, cl, cv, rfl, hc, hce, rc⟩ := ry
  refine ⟨⟨(f, np), ht⟩, qa, cl, cv, rfl, hc, c, ow, ps, ws, R.grow s1, e1, fun vs H2 s2 r => ⟨hc.keep fun a o u z => s2 _ _ z, hce.keep fun a o u z => s2 _ _ z, _, ws, cw, w, (R.grow (s1.trans s2)).used, ?_, rc.same s2, e2, fun v H' s r2 => q v H' ((s1.trans s2).trans s) r2⟩⟩
  have := rep_false hms r
  rw [hl] at this
  exact this
/-- x(..) -/
def dCallV (tab : List (Nat × Nat)) (g : Nat → List PV → Rx PV) (a : DP) (d : DA) : DP := fun ps => (a ps).bind fun y => appC tab g y (d ps)
/-- o.m(..), m an attribute -/
def dCallA (tab : List (Nat × Nat)) (g : Nat → List PV → Rx PV) (l : List (Nat × Nat)) (a : DP) (d : DA) : DP := fun ps => (a ps).bind fun x => (fldP l x).bind fun y => appC tab g y (d ps)
theorem p_callA {l : List (Nat × Nat)} {pl : Sem Bool} (ok : FldOk X.K G m l) (ho : JP X G o da) (h : ClAll X.prog X.w X.K X.mg X.base G k tab g) (hr : Room k X.A) (ha : JA X G ms (e :: es) d) (hms : ms.all (! ·) = true := by rfl)
    (hst : starEach (e :: es) X.env = (false, eval e X.env) :: starEach es X.env := by rfl) (hpl : (backTo pos (starEach es X.env)).any (·.1) = false := by rfl)
    (ht : eval (.Call (.Attribute o m apos) (e :: es) [] pos) X.env = (do
      let ov ← eval o X.env
      standAt apos.atName
      let (f, first) ← holding [ov] (getMethod ov m pl)
      callWith pos f first (backTo pos (starEach (e :: es) X.env)) (backToKw pos (keywordEach [] X.env))) := by rfl) :
    JP X G (.Call (.Attribute o m apos) (e :: es) [] pos) (dCallA tab g l da d) :=
  imp (pe_callA (ι := { q : Nat × Nat // tab.lookup q.1 = some q.2 }) (E := E0) (pl := pl) ho (fun i => h.all i.1.1 i.1.2 i.2) hr pass0 ha hst hpl ht) fun σ H Q ⟨c, ow, ps, w, R, e, q⟩ => by
    obtain ⟨y, e1, e2⟩ := bind_ok e
    obtain ⟨z, e2, e3⟩ := bind_ok e2
    refine ⟨c, ow, ps, y, R, e1, fun u H1 s1 ry => ?_⟩
    unfold fldP at e2
    split at e2
    · rename_i kk xs _
      split at e2
      · rename_i j hj
        split at e2
        · rename_i w' hw
          cases e2
          obtain ⟨a, dx, vs, rfl, hH, hl, na, rs⟩ := ry
          obtain ⟨c1, c2, c3, c4⟩ := ok.all kk j hj
          obtain ⟨v, hv, rv⟩ := rs.get hw
          exact ⟨a, _, dx, _, v, rfl, hH, c1, c2, zip_lookup c3 c4 hv, callV_of h hms R s1 rv e3 q⟩
        · cases e2
      · cases e2
    · cases e2
/-! ### a function is made -/
def capV (js : List Nat) (ps : PSt) : Rx (List PV) := match js with
  | [] => .ok []
  | j :: js => match ps[j]? with
    | some (.v w) => (capV js ps).bind fun ws => .ok (w :: ws)
    | _ => .bad
theorem capV_ok {K : PySem.W.Frag} {c : Fr} {H : Hp} {ow : Ows} {ps : PSt} {σ : L2.St} (R : RepS K G c H ow ps σ) : ∀ {js : List Nat} {ws : List PV}, capV js ps = .ok ws → ∃ cv, Held σ js cv ∧ Reps K G H (av c ow) ws cv
  | [], ws, h => by cases h; exact ⟨[], ⟨rfl, fun i j v e => by simp at e⟩, rfl⟩
  | j :: js, ws, h => by
    unfold capV at h
    split at h
    · rename_i w hw
      obtain ⟨us, e1, e2⟩ := bind_ok h
      cases e2
      obtain ⟨v, e3, r⟩ := R.getV hw
      obtain ⟨cv, ⟨l, hh⟩, rs⟩ := capV_ok R e1
      refine ⟨v :: cv, ⟨by simp [l], fun i j' v' a1 a2 => ?_⟩, v, cv, rfl, r, rs⟩
      cases i with
      | zero => simp at a1 a2; subst a1 a2; exact e3
      | succ i => exact hh i j' v' (by simpa using a1) (by simpa using a2)
    · cases h
theorem mk_of {f : Nat} {js : List Nat} {ps : PSt} {c : Fr} {ow : Ows} {σ : L2.St} {H : Hp} {Q : VK} {ws : List PV} (R : RepS X.K G c H ow ps σ) (e : capV js ps = .ok ws) (q : ∀ v H', Same H H' → Rep X.K G H' (av c ow) (.clo f ws) v → Q v H') : tMk (G.nF f) js σ H Q := by
  obtain ⟨cv, hh, rs⟩ := capV_ok R e
  exact ⟨cv, hh, fun qa cl H' s hn hc hce => q _ H' s ⟨qa, cl, cv, rfl, hc, hce, rs.same s⟩⟩
def dLam (f : Nat) (js : List Nat) : DP := fun ps => (capV js ps).bind fun ws => .ok (.clo f ws)
theorem p_lam {c P : Addr} {params : Arguments} {body : Expr} {scope : Scope} {fr : List Str} {js : List Nat} (f : Nat) (hn : G.nF f = ⟨params, .expr body, scope, fr⟩) (mk : MkX X c P) (T : Takes X ⟨params, .expr body, scope, fr⟩ js) (hdef : defaultsOf params X.env = ([], []) := by rfl) :
    JP X G (.Lambda params body scope pos) (dLam f js) := imp (pe_lam mk T hdef) fun σ H Q ⟨c, ow, ps, w, R, e, q⟩ => by
  obtain ⟨ws, e1, e2⟩ := bind_ok e
  cases e2
  rw [← hn]
  exact mk_of R e1 q
def sDef (i f : Nat) (js : List Nat) : DS := fun ps => (capV js ps).st fun ws => .nx (ps.set i (.v (.clo f ws)))
theorem s_def {c P : Addr} {name : Str} {params : Arguments} {body : List Stmt} {scope : Scope} {fr : List Str} {js : List Nat} (f : Nat) (hn : G.nF f = ⟨params, .stmts body, scope, fr⟩) (mk : MkX X c P) (T : Takes X ⟨params, .stmts body, scope, fr⟩ js) (hN : X.N.Nodup) (hi : X.N[i]? = some name) (hx : Loc X.env.scope name)
    (hd0 : params.defaults = [] := by rfl) (hk0 : params.kw_defaults = [] := by rfl) (ha : annTrees params none X.env = [] := by rfl) (hf : X.fn name = true ∨ X.env.scope.names.lookup name = some .local := by first | exact .inl rfl | exact .inr rfl | assumption) :
    JS X G (.FunctionDef name params body [] none [] scope none name pos) (sDef i f js) := impS (ps_def mk T hN hi hx hd0 hk0 ha hf) fun D σ H ⟨c, ow, ps, R, q⟩ => by
  obtain ⟨ws, e1, q⟩ := ends_st q
  rw [← hn]
  exact mk_of R e1 fun v H' s r => q _ _ _ ((R.grow s).setV r) ((Kp.of_same s).trans (Kp.weak av_off))
/-! ### from here on the names that are taken are stored to no more -/
def sSeal (d : DS) : DS := fun ps => match d ps with | .ret w => .ret w | .exc c => .exc c | _ => .bad
abbrev sealX (X : Cx) (S : List Str) : Cx := { X with fn := fun x => X.fn x && !S.contains x }
theorem ss_seal {ss : List Stmt} (S : List Str) (h : JSs (sealX X S) G ss ds) : JSs X G ss (sSeal ds) := fun pins s σ H D I ⟨c, ow, ps, R, q⟩ => by
  have I' : Inv (sealX X S) pins σ H s := ⟨⟨I.ok.mod, I.ok.kind, I.ok.glob, I.ok.blt, I.ok.above, I.ok.inj, I.ok.has, I.ok.cab, I.ok.hd, I.ok.frames, I.ok.stk, I.ok.exf, I.ok.bs, I.ok.bsz, I.ok.noex, I.ok.exfs, I.ok.funs, I.ok.frf, I.ok.tab, fun x z => I.ok.fc x (by
    have z : (X.fn x && !S.contains x) = true := z
    rw [Bool.and_eq_true] at z; exact z.1)⟩, I.os, I.bare, I.base, I.loc, I.cell, I.free, fun x c e => (I.freeC x c e).imp id fun ⟨z, r⟩ => ⟨by show (X.fn x && !S.contains x) = false; rw [z]; rfl, r⟩, I.pin, I.hok, I.len⟩
  have key := h pins s σ H { nx := fun _ _ => False, rt := D.rt, bk := fun _ _ => False, ct := fun _ _ => False } I' ⟨c, ow, ps, R, by
    unfold sSeal at q
    cases e : ds ps with
    | ret w => rw [e] at q; exact q
    | nx _ => rw [e] at q; exact q.elim
    | retn _ => rw [e] at q; exact q.elim
    | reti _ _ => rw [e] at q; exact q.elim
    | brk _ => rw [e] at q; exact q.elim
    | cnt _ => rw [e] at q; exact q.elim
    | bad => rw [e] at q; exact q.elim
    | exc _ => rw [e] at q; exact q⟩
  refine wpAny_mono key (fun f s1 hf => ?_) fun e s1 z => z
  cases f with
  | next => obtain ⟨_, _, _, z⟩ := hf; exact z.elim
  | brk => obtain ⟨_, _, _, z⟩ := hf; exact z.elim
  | cont => obtain ⟨_, _, _, z⟩ := hf; exact z.elim
  | ret u => obtain ⟨v, H', J, r, z⟩ := hf; exact ⟨v, H', ⟨J.os, J.bare, J.base, J.hok⟩, r, z⟩
theorem takes_mk {n : Nst} {js : List Nat} (hl : n.free.length = js.length) (h : ((n.free.zip js).all fun q => (match X.N[q.2]? with | some y => y == q.1 | none => false) && (match X.env.kindOf q.1 with | some k => k == .cell | none => false) && !X.fn q.1 && X.cw q.1 && n.scope.names.contains (q.1, NameKind.free)) = true)
    (ha : (n.scope.names.all fun y => y.2 != .free || n.free.contains y.1) = true) : Takes X n js := by
  refine ⟨hl, fun i x j e1 e2 => ?_, fun y hy hk => ?_⟩
  · have hm : (x, j) ∈ n.free.zip js := List.mem_of_getElem? (i := i) (by rw [List.getElem?_zip_eq_some]; exact ⟨e1, e2⟩)
    have := List.all_eq_true.mp h _ hm
    simp only [Bool.and_eq_true] at this
    obtain ⟨⟨⟨⟨a1, a2⟩, a3⟩, a4⟩, a5⟩ := this
    refine ⟨?_, ?_, by simpa using a3, a4, by simpa using a5⟩
    · split at a1
      · rename_i y hy
        have : y = x := by simpa using a1
        rw [hy, this]
      · cases a1
    · split at a2
      · rename_i k hk
        have : k = .cell := by simpa using a2
        rw [hk, this]
      · cases a2
  · have := List.all_eq_true.mp ha y hy
    rw [hk] at this
    simpa using this
end
/-! ### a def that makes functions: its code object is known -/
structure FunT (K : PySem.W.Frag) (fd : FuncData) (c P : Addr) (ts : List Addr) : Prop where
  code : fd.code = .ref c
  hd : PySem.W.codeHdIn K c P = true
  tab : P ∈ ts
section
variable {P : Program} {w : World} {K : PySem.W.Frag} {mg : Str → Option Value} {base : Bs} {G : Pg}
theorem fn_okT {x qual : Str} {st : Stmt} {f : Addr} {fd : FuncData} {N ps : List Str} {k : Nat} {ms : List Bool} {d : DS} {c Pt : Addr} (F : Fun K x qual st f fd) (FT : FunT K fd c Pt base.tabs) (S : FnScope N ps (defScope st)) (hm : ms.length = ps.length)
    (hb : ∀ (A : Around) (outer : List Env) (s : Shared) (H : Hp) (E : XK), Room k (A.deeper (envOfC qual (defScope st) s.heap.objs.size f (.ref c))) → MkX (cxOf CX0 P w K mg base N qual (defScope st) f (.ref c) A outer s H E).nox c Pt → JSs (cxOf CX0 P w K mg base N qual (defScope st) f (.ref c) A outer s H E).nox G (defBody st) d) :
    FnOk P w K mg base CX0 (k + 1) f fd ps (spG K G ms (runD ms N.length d)) := by
  obtain ⟨oc, od, kV, doc, pm, an, cdv, ct, osl, rfl, lk, hcd⟩ := F.ex
  obtain rfl : cdv = Value.ref c := FT.code
  have F' : Fun K x qual st f (PySem.W.fnOf x qual (defArgs st) (defBody st) (defScope st) .none kV doc pm an (.ref c) ct) := F
  refine fn_of lk hcd S (fun vs H Q E h => ?_) (fun A outer s H vs Q E hr h => ?_)
  · obtain ⟨A, ws, w, u, r, _⟩ := h
    rw [r.len.2, hm]
  · obtain ⟨A', ws, w', u, r, e, q⟩ := h
    refine ⟨_, (hb A outer s H E hr ⟨rfl, FT.hd, FT.tab⟩).nox, ?_⟩
    have F0 := in_rep (N := N) r
    have S0 := F0.toS u fun a z => z
    refine ⟨_, ow0, inP ms N.length ws, S0, ?_⟩
    unfold runD at e
    rw [if_pos r.len.1] at e
    cases ed : d (inP ms N.length ws) with
    | nx ps' => rw [ed] at e; cases e; exact fun σ' H' ow' R' _ => q .non H' (R'.same.same rfl) rfl
    | ret w2 => rw [ed] at e; cases e; exact fun v H' s r => q v H' (s.same rfl) r
    | reti w x => rw [ed] at e; cases e
    | retn xs => rw [ed] at e; cases e; exact fun p vs H' s hp hv r => q (.ref p) H' (s.same rfl) ⟨p, vs, rfl, .inl ⟨hv, fun z => u p z hp⟩, (Kp.weak fun a z => Or.inl z).reps r⟩
    | brk _ => rw [ed] at e; cases e
    | cnt _ => rw [ed] at e; cases e
    | bad => rw [ed] at e; cases e
    | exc _ => rw [ed] at e; cases e
end
/-! ### equations -/
section
variable (ps : PSt) (a : DP) (d : DA) (tab l : List (Nat × Nat)) (g : Nat → List PV → Rx PV)
@[simp] theorem e_callV : dCallV tab g a d ps = (a ps).bind fun y => appC tab g y (d ps) := rfl
@[simp] theorem e_callA : dCallA tab g l a d ps = (a ps).bind fun x => (fldP l x).bind fun y => appC tab g y (d ps) := rfl
@[simp] theorem e_lam (f : Nat) (js : List Nat) : dLam f js ps = (capV js ps).bind fun ws => .ok (.clo f ws) := rfl
@[simp] theorem e_def (i f : Nat) (js : List Nat) : sDef i f js ps = (capV js ps).st fun ws => .nx (ps.set i (.v (.clo f ws))) := rfl
@[simp] theorem e_seal (s : DS) : sSeal s ps = match s ps with | .ret w => .ret w | .exc c => .exc c | _ => .bad := rfl
@[simp] theorem e_capnil : capV [] ps = .ok [] := rfl
@[simp] theorem e_capcons (j : Nat) (js : List Nat) : capV (j :: js) ps = match ps[j]? with | some (.v w) => (capV js ps).bind fun ws => .ok (w :: ws) | _ => .bad := rfl
end
/-! ### where they are written -/
instance : Inhabited Nst := ⟨⟨{ posonlyargs := [], args := [], vararg := none, kwonlyargs := [], kw_defaults := [], kwarg := none, defaults := [] }, .stmts [], { kind := .function, names := [], isGenerator := false, isCoroutine := false }, []⟩⟩
def nstOf (fr : List Str) (s : Stmt) : Nst := match s with
  | .FunctionDef _ a b _ _ _ sc _ _ _ => ⟨a, .stmts b, sc, fr⟩
  | _ => default
def lamOf (fr : List Str) (e : Expr) : Nst := match e with
  | .Lambda a b sc _ => ⟨a, .expr b, sc, fr⟩
  | _ => default
def noE : Expr := .Constant .none 0 ⟨0, 0, 0, 0⟩
def noS : Stmt := .Pass ⟨0, 0, 0, 0⟩
def inBody (j : Nat) (s : Stmt) : Stmt := (defBody s).getD j noS
def retOf (s : Stmt) : Expr := match s with | .Return (some e) _ => e | _ => noE
def argOf (j : Nat) (e : Expr) : Expr := match e with | .Call _ es _ _ => es.getD j noE | _ => noE
def nstB (n : Nst) : List Stmt := match n.body with | .stmts b => b | _ => []
def nstE (n : Nst) : Expr := match n.body with | .expr e => e | _ => noE
/-- a def that makes functions, as it stands behind the top -/
def FnT (K : PySem.W.Frag) (f : Addr) (x qual : Str) (st : Stmt) (ts : List Addr) : Prop := ∃ fd c P, Fun K x qual st f fd ∧ FunT K fd c P ts
theorem fnt_mk {K : PySem.W.Frag} {x qual : Str} {st : Stmt} {f c P : Addr} {oc o1 : Value} {od an d1 : Option Addr} {osl s1 : Array (Option Value)} {kV doc pm ct : Value} {vs : Array Value} {ts : List Addr}
    (l : K.lookup f = some ⟨oc, od, .func (PySem.W.fnOf x qual (defArgs st) (defBody st) (defScope st) .none kV doc pm an (.ref c) ct), osl⟩) (i : PySem.W.codeIn K (.ref c) qual = true) (k : PySem.W.keepIn K (.ref f) = true)
    (cl : K.lookup c = some ⟨o1, d1, .fields vs, s1⟩) (cp : vs[11]? = some (.ref P)) (ch : PySem.W.codeHdIn K c P = true) (ct : P ∈ ts) : FnT K f x qual st ts := ⟨_, c, P, fun_mk l i k, rfl, ch, ct⟩
def tabsOk (K : PySem.W.Frag) (ts : List Addr) : Bool := ts.all fun P => (K.lookup P).isNone && K.any fun q => PySem.W.codeHdIn K q.1 P
theorem km_ok {K : Params → PySem.W.Frag} {as : List Addr} {e : ∀ P, as = (K P).map (·.1)} {ts : List Addr} {w : World} {h : Heap} (Y : (PySem.W.kmHook K as e ts).says w h) (hc : tabsOk (K w.params) ts = true) :
    ∀ P ∈ ts, h.get? P = some (PySem.W.tabObj #[]) ∧ isCodeTable h P ∧ (K w.params).lookup P = none := fun P hP => by
  have h1 := PySem.W.km_tabs_of Y P hP
  have h2 := List.all_eq_true.mp hc P hP
  rw [Bool.and_eq_true] at h2
  obtain ⟨h3, h4⟩ := h2
  obtain ⟨q, _, h5⟩ := List.any_eq_true.mp h4
  exact ⟨h1, ((PySem.W.codeHd_of_K (PySem.W.km_in_of Y) h5).tab h1).isCodeTable, by simpa using h3⟩
end DN
end
section
set_option Elab.async false
set_option linter.all false
set_option maxRecDepth 100000
set_option maxHeartbeats 4000000
namespace L2
open PySem PySem.Spec PyProof.Rows
end L2
namespace DN
open PySem PySem.Spec PyProof.Rows L2
section
variable {X : Cx} {G : Pg} {e a b o tg : Expr} {es : List Expr} {body : List Stmt} {da db : DP} {d : DA} {ds : DS} {pos p apos cpos : Pos} {x m : Str} {k i : Nat} {ms : List Bool}
open PySem.Builtin PySem.Builtin.Str in
theorem mt_find : MtR X "str.find" (fun x xs H Q => ∃ z y, x = .str z ∧ xs = [.str y] ∧ Q (.int (match occurrences z y 0 z.length 1 with | i :: _ => (i : Int) | [] => -1)) H) := by
  intro pins s σ H x xs v us Q I rx rs h
  obtain ⟨z, y, rfl, rfl, q⟩ := h
  obtain ⟨t, rfl⟩ := rx
  obtain ⟨u', rfl, u, rfl⟩ := vals1 rs
  exact call_gives F.slot_str_find (typeIs_str _ _ _) F.entry_str_find (F.args_str_find_2 _ _) (gives_str_find z y t u) ⟨.int _, H, I.tok _, ⟨_, rfl⟩, q⟩
def findS (x y : Str) : Int := match fst1 y.cps.toList [] x.cps.toList with | some (p, _) => (p.length : Int) | none => -1
open PySem.StrLaws PySem.Builtin PySem.Builtin.Str in
theorem find_eq {x y : Str} (hw : 1 ≤ y.length) : (match occurrences x y 0 x.length 1 with | i :: _ => (i : Int) | [] => -1) = findS x y := by
  have hl : x.length = x.cps.toList.length := by simp [Str.length]
  unfold findS
  rcases occ_head x y 1 (Nat.le_refl _) with ⟨h, hn⟩ | ⟨i, r, h, ha, hn⟩
  · have := fst1_none (x := x) hw x.length 0 [] (by omega) fun k _ => hn k
    rw [List.drop_zero] at this
    rw [h, this]
  · have := fst1_at (x := x) hw i 0 (by rw [Nat.zero_add]; exact ha) fun k _ hk => hn k (by omega)
    rw [List.drop_zero, List.take_zero, List.reverse_nil, Nat.zero_add] at this
    rw [h, this]
    have hi : i ≤ x.cps.toList.length := by have := ha.1; omega
    simp only [List.length_take]
    rw [Nat.min_eq_left hi]
def fFind : PV → PV → Rx PV
  | .str x, .str y => if goodSep y = true then .ok (.int (findS x y)) else .bad
  | _, _ => .bad
theorem p_find (ho : JP X G o da) (he : JP X G e db)
    (hbase : attributeBase o "find" X.env (eval o X.env) = eval o X.env := by rfl)
    (hfew : ((backTo cpos (starEach [e] X.env)).all (fun x => !x.1) && (backToKw cpos (keywordEach [] X.env)).all (fun x => x.1.isSome) && decide (([e] : List Expr).length + ([] : List Keyword).length + (if ([] : List Keyword).isEmpty then 0 else 1) < 30)) = true := by rfl)
    (hline : (apos.endLine == cpos.line) = true := by rfl) (hst : starEach [e] X.env = (false, eval e X.env) :: starEach [] X.env := by rfl) (hpl : (backTo cpos (starEach ([] : List Expr) X.env)).any (·.1) = false := by rfl) :
    JP X G (.Call (.Attribute o "find" apos) [e] [] cpos) (d2 fFind da db) :=
  imp (pe_bm PySem.F.plainAttrs_str PySem.F.slot_str_find PySem.F.type_str_find mt_find ho (pa_cons he pa_nil hst) hbase hfew hline hst hpl) fun σ H Q ⟨c, ow, ps, w, R, e, q⟩ => by
    obtain ⟨w1, e1, e⟩ := bind_ok e
    obtain ⟨w2, e2, e⟩ := bind_ok e
    unfold fFind at e
    split at e
    · rename_i x y _
      split at e
      · rename_i hg
        cases e
        refine ⟨c, ow, ps, _, R, e1, fun v H1 s1 r1 => ?_⟩
        obtain rfl : v = V.str x := r1
        refine ⟨rfl, c, ow, ps, _, R.grow s1, e2, fun u H2 s2 r2 => ?_⟩
        obtain rfl : u = V.str y := r2
        refine ⟨x, y, rfl, rfl, ?_⟩
        rw [find_eq (goodSep_ok hg).1]
        exact q _ H2 (s1.trans s2) rfl
      · cases e
    · cases e
end
section
variable (ps : PSt) (a : DP) (d : DA) (dma : DMA) (dm : DM) (t u : DTM) (dt : DT) (s r : DS)
@[simp] theorem e_mNew (c n : Nat) : mNew c n dma ps = (dma ps).bind fun r => if r.1.length = n then .ok (.obj c r.1, r.2) else .bad := rfl
@[simp] theorem e_mTr : mTr dm ps = (dm ps).bind fun r => match r.1 with | .bl b => .ok (b, r.2) | _ => .bad := rfl
@[simp] theorem e_mOfT : mOfT dt ps = (dt ps).bind fun b => .ok (b, ps) := rfl
@[simp] theorem e_mNot : mNot t ps = (t ps).bind fun r => .ok (!r.1, r.2) := rfl
@[simp] theorem e_mOr : mOr t u ps = (t ps).bind fun r => if r.1 = true then .ok (true, r.2) else u r.2 := rfl
@[simp] theorem e_mAnd : mAnd t u ps = (t ps).bind fun r => if r.1 = true then u r.2 else .ok (false, r.2) := rfl
@[simp] theorem e_ifM : sIfM t s r ps = (t ps).st fun x => if x.1 = true then s x.2 else r x.2 := rfl
@[simp] theorem e_whileM : sWhileM t s ps = (iterM t s 100000 ps).getD .bad := rfl
end
end DN
end
section
set_option Elab.async false
set_option linter.all false
set_option maxRecDepth 100000
set_option maxHeartbeats 4000000
namespace L2
open PySem PySem.Spec PyProof.Rows PySem.Builtin PySem.Builtin.Str
end L2
namespace DN
open PySem PySem.Spec PyProof.Rows L2
section
variable {X : Cx} {G : Pg} {e : Expr} {da : DP} {pos : Pos}
/-! ### x[lo:hi] of a text -/
def dCutS (d : DP) (dl dh : PSt → Rx (Option Int)) : DP := fun ps => (d ps).bind fun x => (dl ps).bind fun lo => (dh ps).bind fun hi => match x with
  | .str z => if (PySem.StrLaws.sliceText z lo hi).length ≤ sizeLine then .ok (.str (PySem.StrLaws.sliceText z lo hi)) else .bad
  | _ => .bad
@[simp] theorem e_cutS (ps : PSt) (dl dh : PSt → Rx (Option Int)) : dCutS da dl dh ps = (da ps).bind fun x => (dl ps).bind fun lo => (dh ps).bind fun hi => match x with
  | .str z => if (PySem.StrLaws.sliceText z lo hi).length ≤ sizeLine then .ok (.str (PySem.StrLaws.sliceText z lo hi)) else .bad
  | _ => .bad := rfl
end
end DN
end
section
set_option Elab.async false
set_option linter.all false
set_option maxRecDepth 100000
set_option maxHeartbeats 4000000
namespace L2
open PySem PySem.Spec PyProof.Rows PySem.Builtin PySem.Builtin.Str
section
variable {X : Cx}
end
end L2
namespace DN
open PySem PySem.Spec PyProof.Rows L2
section
variable {X : Cx} {G : Pg} {o e a b c : Expr} {da db dc : DP} {pos apos cpos : Pos}
def dInv (d : DP) : DP := fun ps => (d ps).bind fun x => match x with | .int i => .ok (.int (Builtin.bitNot i)) | _ => .bad
/-! ### chains of comparisons -/
def dChain (f g : PV → PV → Rx PV) (a b c : DP) : DP := fun ps => (a ps).bind fun x => (b ps).bind fun y => (f x y).bind fun z => match z with | .bl true => (c ps).bind fun w => g y w | .bl false => .ok (.bl false) | _ => .bad
theorem chain_of {K : PySem.W.Frag} {f g : PV → PV → Rx PV} {r r' : R2} (hf : Op2 K G f r) (hg : Op2 K G g r') {σ : L2.St} {H : Hp} {Q : VK} (h : tPv K G (dChain f g da db dc) σ H Q) : tChain r r' (tPb K G da) (tPb K G db) (tPb K G dc) σ H Q := by
  obtain ⟨c, ow, ps, w, R, e, q⟩ := h
  obtain ⟨x, e1, e⟩ := bind_ok e
  obtain ⟨y, e2, e⟩ := bind_ok e
  obtain ⟨z, e3, e⟩ := bind_ok e
  refine ⟨c, ow, ps, x, R, e1, fun v H1 s1 r1 => ⟨c, ow, ps, y, R.grow s1, e2, fun u H2 s2 r2 => hf H2 _ x y z v u _ ((R.grow s1).grow s2).used e3 (r1.same s2) r2 fun t H3 s3 r3 => ?_⟩⟩
  split at e
  · obtain ⟨w3, e4, e⟩ := bind_ok e
    refine ⟨true, r3, iteT ⟨c, ow, ps, w3, ((R.grow s1).grow s2).grow s3, e4, fun u4 H4 s4 r4 => hg H4 _ y w3 w u u4 Q ((((R.grow s1).grow s2).grow s3).grow s4).used e (r2.same (s3.trans s4)) r4 fun t5 H5 s5 r5 => q t5 H5 ((((s1.trans s2).trans s3).trans s4).trans s5) r5⟩⟩
  · cases e
    exact ⟨false, r3, iteF (q _ H3 ((s1.trans s2).trans s3) rfl)⟩
  · cases e
theorem p_chain {op op' : CmpOp} {r r' : R2} {f g : PV → PV → Rx PV} (ho : OpR X (compareOp op) r) (ho' : OpR X (compareOp op') r') (hf : Op2 X.K G f r) (hg : Op2 X.K G g r') (ha : JB X G a da) (hb : JB X G b db) (hc : JB X G c dc)
    (hm : lastMarks [op, op'] [b, c] = false := by with_unfolding_all rfl) : JP X G (.Compare a [op, op'] [b, c] pos) (dChain f g da db dc) := imp (pe_chain ho ho' ha hb hc hm) fun _ _ _ => chain_of hf hg
abbrev oi_lt := fun (K : PySem.W.Frag) (G : Pg) => (o2_I (K := K) (G := G) (g := fun i j => .bl (decide (i < j))) (g' := fun i j => .bl (decide (i < j))) fun _ _ _ _ => rfl : Op2 K G fLt _)
abbrev oi_le := fun (K : PySem.W.Frag) (G : Pg) => (o2_I (K := K) (G := G) (g := fun i j => .bl (decide (i ≤ j))) (g' := fun i j => .bl (decide (i ≤ j))) fun _ _ _ _ => rfl : Op2 K G fLe _)
end
section
variable (ps : PSt) (a b c : DP) (f g : PV → PV → Rx PV)
@[simp] theorem e_chain : dChain f g a b c ps = (a ps).bind fun x => (b ps).bind fun y => (f x y).bind fun z => match z with | .bl true => (c ps).bind fun w => g y w | .bl false => .ok (.bl false) | _ => .bad := rfl
@[simp] theorem e_inv : dInv a ps = (a ps).bind fun x => match x with | .int i => .ok (.int (Builtin.bitNot i)) | _ => .bad := rfl
end
end DN
end
section
set_option Elab.async false
set_option linter.all false
set_option maxRecDepth 100000
set_option maxHeartbeats 4000000
namespace L2
open PySem PySem.Spec PyProof.Rows
section
variable {X : Cx}
end
end L2
namespace DN
open PySem PySem.Spec PyProof.Rows L2
section
variable {X : Cx} {G : Pg} {o e a b c : Expr} {da db dc : DP} {pos apos cpos : Pos}
/-! ### is True -/
def fIsB : PV → PV → Rx PV
  | .bl b, .bl c => .ok (.bl (b == c))
  | _, _ => .bad
def fIsNB : PV → PV → Rx PV
  | .bl b, .bl c => .ok (.bl (!(b == c)))
  | _, _ => .bad
/-! ### frozen between two statements -/
def sFrzG (i : Nat) (d : DS) : DS := fun ps => match ps[i]? with | some (.own y) => d (ps.set i (.v y.pv)) | _ => d ps
end
section
variable (ps : PSt) (i : Nat) (d : DS)
@[simp] theorem e_sFrzG : sFrzG i d ps = match ps[i]? with | some (.own y) => d (ps.set i (.v y.pv)) | _ => d ps := rfl
@[simp] theorem e_isB (b c : Bool) : fIsB (.bl b) (.bl c) = .ok (.bl (b == c)) := rfl
@[simp] theorem e_isNB (b c : Bool) : fIsNB (.bl b) (.bl c) = .ok (.bl (!(b == c))) := rfl
end
end DN
end
section
set_option Elab.async false
set_option linter.all false
set_option maxRecDepth 100000
set_option maxHeartbeats 4000000
namespace DN
open PySem PySem.Spec PyProof.Rows L2
section
variable {K : PySem.W.Frag} {G : Pg} {H H' : Hp} {A A' : Av} {c : Fr} {ow : Ows} {ps : PSt} {σ : L2.St}
theorem vx_inj {n d j d' j' : Nat} (h : vx n d j = vx n d' j') (h1 : j < 1000) (h2 : j' < 1000) : d = d' ∧ j = j' := by
  unfold vx at h
  omega
/-- an own thing of the slot i, or one of its lists, changes -/
theorem RepS.chgG (R : RepS K G c H ow ps σ) {i t : Nat} {y : Sl} {p : Addr} {o u : HO} (hl : i < ps.length) (ep : ow t = some p) (ht : t = i ∨ ∃ j, j < 1000 ∧ t = vx ps.length i j) (hp : H p = some o) (m : Mt o)
    (r : ∀ v, σ[i]? = some v → SlAt K G c ps.length (upd H p u) (av c ow) ow i y v) : RepS K G c (upd H p u) ow (ps.set i y) σ ∧ Kp K G H (av c ow) (upd H p u) (av c ow) := by
  have k : Kp K G H (av c ow) (upd H p u) (av c ow) := Kp.own (.inr ⟨t, ep⟩) hp m
  have sm : SmL c (upd H p u) := fun b o' h n => by
    rw [upd_ne (by intro z; subst z; rw [R.fresh t b ep] at h; cases h)]
    exact R.same _ _ h n
  have npl : ∀ q, c.lx = some q → q ≠ p := fun q h z => by
    subst z
    exact absurd (R.fresh t q ep) (R.a0 q (R.lent q h).1)
  have us : ∀ j q, j ≠ t → ow j = some q → upd H p u q = H q := fun j q hj h => upd_ne (by intro z; subst z; exact hj (R.inj j t q h ep))
  refine ⟨⟨by simp [R.len], sm, fun q h => ⟨(R.lent q h).1, by rw [upd_ne (npl q h)]; exact (R.lent q h).2⟩, R.a0, R.b0, R.fresh, R.inj, fun j q h => ?_, fun j z o' h1 h2 => ?_⟩, k⟩
  · rw [List.length_set]
    by_cases hj : j = t
    · subst hj
      rw [ep] at h; cases h
      right; rw [upd_same]; simp
    · rcases R.out j q h with z | z
      · exact .inl z
      · right; rw [us j q hj h]; exact z
  · rw [List.length_set]
    by_cases hj : j = i
    · subst hj
      rw [List.getElem?_set_self hl] at h1
      cases h1
      exact r o' h2
    · rw [List.getElem?_set_ne (fun z => hj z.symm)] at h1
      have hjl : j < ps.length := (List.getElem?_eq_some_iff.mp h1).1
      refine (R.slot j z o' h1 h2).keep R.b0 R.same sm k rfl (fun _ _ _ h => h) (fun q h => us j q ?_ h) (fun jj q hjj h => us _ q ?_ h) (fun q h => upd_ne (npl q h))
      · rcases ht with rfl | ⟨j', _, rfl⟩
        · exact hj
        · unfold vx; omega
      · rcases ht with rfl | ⟨j', hj', rfl⟩
        · unfold vx; omega
        · intro z; exact hj (vx_inj z hjj hj').1
def isAls : Sl → Bool
  | .als _ _ => true
  | _ => false
/-- a new list for the slot i -/
theorem RepS.addV (R : RepS K G c H ow ps σ) {i m : Nat} {q : Addr} (hm : m < 1000) (hs : Same H H') (hq : H q = none) (hq' : H' q ≠ none) (na : ps.any isAls = false)
    (nd : ∀ d ks xss, ps[d]? = some (.dol ks xss) → d = i → xss.length ≤ m) : RepS K G c H' (onW ow (vx ps.length i m) q) ps σ ∧ Kp K G H (av c ow) H' (av c (onW ow (vx ps.length i m) q)) := by
  have hav : ∀ a, av c (onW ow (vx ps.length i m) q) a → a = q ∨ av c ow a := av_on
  have k : Kp K G H (av c ow) H' (av c (onW ow (vx ps.length i m) q)) := Kp.take hq hs hav
  have nl : c.lx ≠ some q := fun z => (R.lent q z).2 hq
  have us : ∀ j a, ow j = some a → H' a = H a := fun j a e => by
    cases h : H a with
    | none => exact absurd h (R.used a (.inr ⟨j, e⟩))
    | some o => exact hs _ _ h
  have ul : ∀ a, c.lx = some a → H' a = H a := fun a h => by
    cases z : H a with
    | none => exact absurd z (R.lent a h).2
    | some o => exact hs _ _ z
  refine ⟨⟨R.len, R.same.trans hs, fun a h => ⟨(R.lent a h).1, by rw [ul a h]; exact (R.lent a h).2⟩, R.a0, R.b0, fun j a e => ?_, fun j j' a e e' => ?_, fun j a h => ?_, fun j y o e1 e2 => ?_⟩, k⟩
  · unfold onW at e; split at e
    · cases e; exact R.same.free hq nl
    · exact R.fresh j a e
  · unfold onW at e e'
    split at e
    · cases e
      split at e'
      · rename_i h1 h2; rw [h1, h2]
      · exact absurd hq (R.used _ (.inr ⟨j', e'⟩))
    · split at e'
      · cases e'
        exact absurd hq (R.used _ (.inr ⟨j, e⟩))
      · exact R.inj j j' a e e'
  · unfold onW at h; split at h
    · cases h; exact .inr hq'
    · rcases R.out j a h with z | z
      · exact .inl z
      · right; rw [us j a h]; exact z
  · have hjl : j < ps.length := (List.getElem?_eq_some_iff.mp e1).1
    have eo : onW ow (vx ps.length i m) q j = ow j := by unfold onW; rw [if_neg (by unfold vx; omega)]
    have qs := R.slot j y o e1 e2
    cases y with
    | no => show onW ow (vx ps.length i m) q j = none; rw [eo]; exact qs
    | v w => obtain ⟨z, v, e3, r⟩ := qs; exact ⟨by rw [eo]; exact z, v, e3, k.rep r⟩
    | own y => obtain ⟨p, e3, e4, r⟩ := qs; exact ⟨p, by rw [eo]; exact e3, e4, r.keep k (us j p e3)⟩
    | bor w => obtain ⟨z, v, e3, r⟩ := qs; exact ⟨by rw [eo]; exact z, v, e3, bor_keep R.b0 R.same (R.same.trans hs) k r⟩
    | ino y => obtain ⟨z, z2, p, e3, e4, r⟩ := qs; exact ⟨by rw [eo]; exact z, z2, p, e3, e4, r.keep k (ul p e4)⟩
    | ini c xs => obtain ⟨z, z2, p, e3, e4, r⟩ := qs; exact ⟨by rw [eo]; exact z, z2, p, e3, e4, r.keep k (ul p e4)⟩
    | als d jj =>
      exfalso
      have := List.any_eq_false.mp na _ (List.mem_of_getElem? e1)
      exact this rfl
    | dol ks xss =>
      obtain ⟨p, qs', e3, e4, hp, l1, l2, l3, h⟩ := qs
      refine ⟨p, qs', by rw [eo]; exact e3, e4, (let ⟨ep, hp⟩ := hp; ⟨ep, by rw [us j p e3]; exact hp⟩), l1, l2, l3, fun jj q2 xs h1 h2 => ?_⟩
      obtain ⟨h3, h4⟩ := h jj q2 xs h1 h2
      have hjj : jj < qs'.length := (List.getElem?_eq_some_iff.mp h1).1
      refine ⟨?_, h4.keep k (us _ q2 h3)⟩
      unfold onW
      rw [if_neg]
      · exact h3
      · intro z
        obtain ⟨z1, z2⟩ := vx_inj z (by omega) hm
        have := nd j ks xss e1 z1
        omega
def killA : Sl → Sl
  | .als _ _ => .no
  | s => s
theorem Reps.lsts : ∀ {xss : List (List PV)} {qs : List Addr}, xss.length = qs.length → (∀ (j : Nat) (q : Addr) (xs : List PV), qs[j]? = some q → xss[j]? = some xs → Rep K G H A (.lst xs) (.ref q)) → Reps K G H A (xss.map PV.lst) (qs.map V.ref)
  | [], [], _, _ => rfl
  | [], _ :: _, l, _ => by simp at l
  | _ :: _, [], l, _ => by simp at l
  | xs :: xss, q :: qs, l, h => ⟨_, _, rfl, h 0 q xs rfl rfl, Reps.lsts (by simpa using l) fun j q' xs' h1 h2 => h (j + 1) q' xs' h1 h2⟩
/-- a dict of lists is frozen, with its lists -/
theorem RepS.frzD (R : RepS K G c H ow ps σ) {i : Nat} {ks : List Key} {xss : List (List PV)} (e : ps[i]? = some (.dol ks xss)) :
    ∃ ow', RepS K G c H ow' ((ps.map killA).set i (.v (.dic ks (xss.map PV.lst)))) σ ∧ Kp K G H (av c ow) H (av c ow') := by
  obtain ⟨o, eo, p, qs, e1, rfl, ⟨epo, hp⟩, l1, l2, l3, hq⟩ := R.get e
  have hl : i < ps.length := (List.getElem?_eq_some_iff.mp e).1
  let ow' : Ows := fun t => if t = i ∨ ps.length + 1000 * i ≤ t ∧ t < ps.length + 1000 * i + 1000 then none else ow t
  have off : ∀ t a, ow' t = some a → ow t = some a := fun t a h => by
    show ow t = some a
    have h : (if t = i ∨ ps.length + 1000 * i ≤ t ∧ t < ps.length + 1000 * i + 1000 then none else ow t) = some a := h
    split at h
    · cases h
    · exact h
  have offn : ∀ t a, ow' t = some a → ¬ (t = i ∨ ps.length + 1000 * i ≤ t ∧ t < ps.length + 1000 * i + 1000) := fun t a h z => by
    have h : (if t = i ∨ ps.length + 1000 * i ≤ t ∧ t < ps.length + 1000 * i + 1000 then none else ow t) = some a := h
    rw [if_pos z] at h; cases h
  have eqo : ∀ t, ¬ (t = i ∨ ps.length + 1000 * i ≤ t ∧ t < ps.length + 1000 * i + 1000) → ow' t = ow t := fun t z => if_neg z
  have ha : ∀ a, av c ow' a → av c ow a := fun a h => by
    rcases h with h | ⟨t, h⟩
    · exact .inl h
    · exact .inr ⟨t, off t a h⟩
  have k : Kp K G H (av c ow) H (av c ow') := Kp.weak ha
  have np : ∀ t a, ow t = some a → (t = i ∨ ps.length + 1000 * i ≤ t ∧ t < ps.length + 1000 * i + 1000) → ¬ av c ow' a := by
    rintro t a h ht (z | ⟨t', z⟩)
    · exact absurd (R.fresh t a h) (R.a0 a z)
    · have := R.inj t' t a (off t' a z) h
      subst this
      exact offn _ _ z ht
  have rp : Rep K G H (av c ow') (.dic ks (xss.map PV.lst)) (.ref p) := by
    refine ⟨p, qs.map V.ref, epo, rfl, hp, by rw [List.length_map]; exact l1, np i p e1 (.inl rfl), Reps.lsts l2 fun j q xs h1 h2 => ?_⟩
    obtain ⟨h3, vs, h4, h5⟩ := hq j q xs h1 h2
    have hj : j < qs.length := (List.getElem?_eq_some_iff.mp h1).1
    exact ⟨q, vs, rfl, .inl ⟨h4, np _ q h3 (.inr (by unfold vx; omega))⟩, k.reps h5⟩
  refine ⟨ow', ⟨by simp [R.len], R.same, R.lent, R.a0, R.b0, fun j a h => R.fresh j a (off j a h), fun j j' a h h' => R.inj j j' a (off j a h) (off j' a h'), fun j a h => ?_, fun j z o h1 h2 => ?_⟩, k⟩
  · rw [List.length_set, List.length_map]; exact R.out j a (off j a h)
  · rw [List.length_set, List.length_map]
    by_cases hj : j = i
    · subst hj
      rw [List.getElem?_set_self (by rw [List.length_map]; exact hl)] at h1
      cases h1
      rw [eo] at h2; cases h2
      exact ⟨if_pos (.inl rfl), _, rfl, rp⟩
    · rw [List.getElem?_set_ne (fun z => hj z.symm), List.getElem?_map] at h1
      cases es : ps[j]? with
      | none => rw [es] at h1; cases h1
      | some s0 =>
        rw [es] at h1
        have h1 : killA s0 = z := Option.some.inj h1
        have hjl : j < ps.length := (List.getElem?_eq_some_iff.mp es).1
        have ej : ow' j = ow j := eqo j (by omega)
        have q := R.slot j s0 o es h2
        subst h1
        cases s0 with
        | no => show ow' j = none; rw [ej]; exact q
        | v w => obtain ⟨z, v, e3, r⟩ := q; exact ⟨by rw [ej]; exact z, v, e3, k.rep r⟩
        | own y => obtain ⟨p, e3, e4, r⟩ := q; exact ⟨p, by rw [ej]; exact e3, e4, r.keep k rfl⟩
        | bor w => obtain ⟨z, v, e3, r⟩ := q; exact ⟨by rw [ej]; exact z, v, e3, bor_keep R.b0 R.same R.same k r⟩
        | ino y => obtain ⟨z, z2, p, e3, e4, r⟩ := q; exact ⟨by rw [ej]; exact z, z2, p, e3, e4, r.keep k rfl⟩
        | ini c xs => obtain ⟨z, z2, p, e3, e4, r⟩ := q; exact ⟨by rw [ej]; exact z, z2, p, e3, e4, r.keep k rfl⟩
        | als d jj => show ow' j = none; rw [ej]; exact q.1
        | dol ks' xss' =>
          obtain ⟨p', qs', e3, e4, hp', l1, l2, l3, h⟩ := q
          refine ⟨p', qs', by rw [ej]; exact e3, e4, hp', l1, l2, l3, fun jj q2 xs h1 h2 => ?_⟩
          obtain ⟨h3, h4⟩ := h jj q2 xs h1 h2
          have hjj : jj < qs'.length := (List.getElem?_eq_some_iff.mp h1).1
          refine ⟨?_, h4.keep k rfl⟩
          rw [eqo]
          · exact h3
          · unfold vx; omega
end
section
variable {X : Cx} {G : Pg} {e ke value : Expr} {da db dk dv : DP} {d : DA} {ds : DS} {pos pos' p tpos : Pos} {x y : Str} {i j : Nat}
/-! ### d[k] = a new list -/
def sDputN (i : Nat) (dk : DP) (d : DA) : DS := fun ps => (d ps).st fun ws => (dk ps).st fun y => match ps[i]?, keyP y with
  | some (.own (.dic [] [])), some k => if ps.any isAls = false then .nx (ps.set i (.dol [k] [ws])) else .bad
  | some (.dol ks xss), some k => if ps.any isAls = false ∧ ks.length = xss.length ∧ ks.length < 999 ∧ inK ks k = false then .nx (ps.set i (.dol (ks ++ [k]) (xss ++ [ws]))) else .bad
  | _, _ => .bad
theorem zip_snoc {α β : Type} {ks : List α} {vs : List β} {k : α} {v : β} (h : ks.length = vs.length) : ks.zip vs ++ [(k, v)] = (ks ++ [k]).zip (vs ++ [v]) := by rw [List.zip_append h]; rfl
theorem dputN_go {K : PySem.W.Frag} {c : Fr} {ow : Ows} {ps : PSt} {σ : L2.St} {H H1 H2 : Hp} {ks : List Key} {xss : List (List PV)} {qs : List Addr} {k : Key} {p0 q : Addr} {ws : List PV} {vs : List V} {D : Ends} (R : RepS K G c H ow ps σ) (hl : i < ps.length) (e3 : ow i = some p0) (e4 : σ[i]? = some (some (.ref p0))) {epo : Nat} (hH : H p0 = some (.dK (ks.zip (qs.map V.ref)) epo))
    (l1 : ks.length = qs.length) (l2 : xss.length = qs.length) (l3 : ks.length < 999) (hin : inK ks k = false) (hq : ∀ j q xs, qs[j]? = some q → xss[j]? = some xs → ow (vx ps.length i j) = some q ∧ RepO K G H (av c ow) (.lst xs) q) (na : ps.any isAls = false)
    (nd : ∀ ks' xss', ps[i]? = some (.dol ks' xss') → xss'.length ≤ ks.length)
    (s1 : Same H H1) (s2 : Same H1 H2) (n1 : H q = none) (h1 : H1 q = some (.lst vs)) (rs : Reps K G H1 (fun a => av c ow a ∨ a = q) ws vs) (hn : EndsAt K G c H (av c ow) D (.nx (ps.set i (.dol (ks ++ [k]) (xss ++ [ws]))))) :
    DPut H2 p0 (kV k) (.ref q) (D.nx σ) := by
  have s12 := s1.trans s2
  have hH2 : H2 p0 = some (.dK (ks.zip (qs.map V.ref)) epo) := s12 _ _ hH
  have hq2 : H2 q = some (.lst vs) := s2 _ _ h1
  have lq : ks.length = (qs.map V.ref).length := by rw [List.length_map]; exact l1
  refine DPut.k hH2 (by rw [List.length_zip, ← lq, Nat.min_self]; exact Nat.lt_of_lt_of_le l3 (by decide)) fun ep' => ?_
  obtain ⟨R1, k1⟩ := R.addV (i := i) (m := ks.length) (q := q) (by omega) s12 n1 (by rw [hq2]; simp) na fun d ks' xss' e z => by subst z; exact nd ks' xss' e
  have hz : putK (ks.zip (qs.map V.ref)) k (.ref q) = (ks ++ [k]).zip ((qs ++ [q]).map V.ref) := by
    unfold putK
    rw [if_neg (fun z => by rw [inK_mem.mpr ((any_zip lq).mp z)] at hin; cases hin), List.map_append]
    exact zip_snoc lq
  have mD : Mt (HO.dK (ks.zip (qs.map V.ref)) epo) := And.intro (fun _ z => by cases z) (fun _ _ z => by cases z)
  have ep : onW ow (vx ps.length i ks.length) q i = some p0 := by unfold onW; rw [if_neg (by unfold vx; omega)]; exact e3
  have pq : q ≠ p0 := fun z => by rw [z, hH] at n1; cases n1
  have us : ∀ j a, ow j = some a → H2 a = H a := fun j a e => by
    cases h : H a with
    | none => exact absurd h (R.used a (.inr ⟨j, e⟩))
    | some o => exact s12 _ _ h
  obtain ⟨R2, k2⟩ := R1.chgG (i := i) (t := i) (y := .dol (ks ++ [k]) (xss ++ [ws])) (u := .dK (putK (ks.zip (qs.map V.ref)) k (.ref q)) ep') hl ep (.inl rfl) hH2 mD fun v hv => by
    rw [e4] at hv; cases hv
    have k2 : Kp K G H2 (av c (onW ow (vx ps.length i ks.length) q)) (upd H2 p0 (.dK (putK (ks.zip (qs.map V.ref)) k (.ref q)) ep')) (av c (onW ow (vx ps.length i ks.length) q)) := Kp.own (.inr ⟨i, ep⟩) hH2 mD
    refine ⟨p0, qs ++ [q], ep, rfl, ⟨ep', by rw [hz]; exact upd_same⟩, by simp [l1], by simp [l2], by simp; omega, fun j q' xs h3 h4 => ?_⟩
    rcases Nat.lt_or_ge j qs.length with hj | hj
    · rw [List.getElem?_append_left hj] at h3
      rw [List.getElem?_append_left (by omega)] at h4
      obtain ⟨h5, h6⟩ := hq j q' xs h3 h4
      refine ⟨by unfold onW; rw [if_neg (by unfold vx; omega)]; exact h5, (h6.keep k1 (us _ q' h5)).keep k2 (upd_ne ?_)⟩
      intro z; subst z
      have := R.inj _ _ _ h5 e3
      unfold vx at this; omega
    · have hj' : j = qs.length := by
        have := (List.getElem?_eq_some_iff.mp h3).1
        simp at this; omega
      subst hj'
      rw [List.getElem?_append_right (Nat.le_refl _), Nat.sub_self] at h3
      rw [← l2, List.getElem?_append_right (Nat.le_refl _), Nat.sub_self] at h4
      cases h3; cases h4
      refine ⟨by unfold onW; rw [if_pos (by rw [l1])], vs, by rw [upd_ne pq]; exact hq2, k2.reps ?_⟩
      exact ((Kp.of_same s2).trans (Kp.weak fun a z => (av_on a z).symm)).reps rs
  exact hn σ _ _ R2 (k1.trans k2)
theorem s_dputN (i : Nat) (hu : X.A.units + 1 < cLine) (hk : JP X G ke dk) (he : JN X G value d) (hs : swapsWith value (some (.Subscript (.Name x p) ke tpos)) pos.line X.env = pure false) (hN : X.N[i]? = some x := by rfl) (hv : Vis X.env.scope x := by first | exact Or.inl rfl | exact Or.inr (Or.inl rfl) | exact Or.inr (Or.inr rfl)) (hd : (x == ("__debug__" : Str)) = false := by decide)
    (hcd : (x == ("__classdict__" : Str)) = false := by decide) : JS X G (.Assign [.Subscript (.Name x p) ke tpos] value pos) (sDputN i dk d) :=
  impS (ps_dput hu (pe_var hN hv hd hcd) hk he hs) fun D σ H ⟨c, ow, ps, R, q⟩ => by
    obtain ⟨ws, e1, q⟩ := ends_st q
    obtain ⟨y, e2, q⟩ := ends_st q
    split at q
    · rename_i k hx hkk
      split at q
      · rename_i na
        refine ⟨c, ow, ps, ws, R, e1, fun p1 vs H1 s1 n1 h1 r1 => ?_⟩
        obtain ⟨p0, e3, e4, vs0, ep0, hH0, l0, rs0⟩ := R.getO hx
        have : vs0 = [] := by simpa using l0.symm
        subst this
        refine ⟨_, e4, c, ow, ps, y, R.grow s1, e2, fun u H2 s2 r2 => ?_⟩
        have g1 := dputN_go (D := D) (ks := []) (xss := []) (qs := []) (k := k) (ws := ws) R (List.getElem?_eq_some_iff.mp hx).1 e3 e4 hH0 rfl rfl (by decide) rfl (fun j q xs h => by simp at h) na (fun ks' xss' z => by rw [hx] at z; cases z) s1 s2 n1 h1 r1 q
        refine ⟨p0, rfl, ?_⟩
        rw [key_rep r2 hkk]
        exact g1
      · exact q.elim
    · rename_i ks xss k hx hkk
      split at q
      · rename_i hc
        obtain ⟨na, hl, l3, hin⟩ := hc
        refine ⟨c, ow, ps, ws, R, e1, fun p1 vs H1 s1 n1 h1 r1 => ?_⟩
        obtain ⟨o, eo, p0, qs, e3, rfl, ⟨epo, hp⟩, l1, l2, _, hq⟩ := R.get hx
        refine ⟨_, eo, c, ow, ps, y, R.grow s1, e2, fun u H2 s2 r2 => ?_⟩
        have g1 := dputN_go (D := D) (k := k) (ws := ws) R (List.getElem?_eq_some_iff.mp hx).1 e3 eo hp l1 l2 l3 hin hq na (fun ks' xss' z => by rw [hx] at z; cases z; omega) s1 s2 n1 h1 r1 q
        refine ⟨p0, rfl, ?_⟩
        rw [key_rep r2 hkk]
        exact g1
      · exact q.elim
    · exact q.elim
/-! ### x = d[k] -/
def kIx : List Key → Key → Nat → Option Nat
  | [], _, _ => none
  | k' :: ks, k, n => if k' = k then some n else kIx ks k (n + 1)
def sAls (i j : Nat) (dk : DP) : DS := fun ps => (dk ps).st fun y => match ps[j]?, keyP y with
  | some (.dol ks xss), some k => (match kIx ks k 0 with | some m => .nx (ps.set i (.als j m)) | none => .bad)
  | _, _ => .bad
/-! ### the list that another name stands for -/
def dAls (i : Nat) : DP := fun ps => match ps[i]? with
  | some (.als d j) => (match ps[d]? with
    | some (.dol _ xss) => (match xss[j]? with | some xs => .ok (.lst xs) | none => .bad)
    | _ => .bad)
  | _ => .bad
theorem RepS.als {K : PySem.W.Frag} {c : Fr} {ow : Ows} {ps : PSt} {σ : L2.St} {H : Hp} {d : Nat} {ks : List Key} {xss : List (List PV)} {xs : List PV} (R : RepS K G c H ow ps σ) (h1 : ps[i]? = some (.als d j)) (h2 : ps[d]? = some (.dol ks xss)) (h3 : xss[j]? = some xs) :
    ∃ q, σ[i]? = some (some (.ref q)) ∧ ow (vx ps.length d j) = some q ∧ j < 1000 ∧ RepO K G H (av c ow) (.lst xs) q := by
  obtain ⟨o, eo, z, q, rfl, e1⟩ := R.get h1
  obtain ⟨o', eo', p0, qs, e3, rfl, hp, l1, l2, l3, hq⟩ := R.get h2
  have hj : j < qs.length := by
    have := (List.getElem?_eq_some_iff.mp h3).1
    omega
  obtain ⟨h5, h6⟩ := hq j _ xs (List.getElem?_eq_getElem hj) h3
  rw [e1] at h5
  cases h5
  exact ⟨_, eo, e1, by omega, h6⟩
def sSetA (i : Nat) (dk dv : DP) : DS := fun ps => (dv ps).st fun w => (dk ps).st fun y => match ps[i]?, y with
  | some (.als d j), .int n => (match ps[d]? with
    | some (.dol ks xss) => (match xss[j]? with
      | some xs => (match ixN xs.length n with | some m => .nx (ps.set d (.dol ks (xss.set j (xs.set m w)))) | none => .bad)
      | none => .bad)
    | _ => .bad)
  | _, _ => .bad
/-! ### frozen -/
def sFrzD (i : Nat) (d : DS) : DS := fun ps => match ps[i]? with
  | some (.dol ks xss) => d ((ps.map killA).set i (.v (.dic ks (xss.map PV.lst))))
  | _ => d ps
theorem ss_frzD {ss : List Stmt} {ds : DS} (i : Nat) (h : JSs X G ss ds) : JSs X G ss (sFrzD i ds) := fun pins s σ H D I ⟨c, ow, ps, R, q⟩ => by
  unfold sFrzD at q
  split at q
  · rename_i ks xss hy
    obtain ⟨ow', R', k'⟩ := R.frzD hy
    exact h pins s σ H D I ⟨c, _, _, R', q.mono k'⟩
  · exact h pins s σ H D I ⟨c, ow, ps, R, q⟩
end
section
variable (ps : PSt) (i j : Nat) (dk dv : DP) (d : DA) (ds : DS)
@[simp] theorem e_itemsB : dItemsB i ps = match ps[i]? with | some (.bor (.lst xs)) => .ok xs | _ => .bad := rfl
@[simp] theorem e_dputN : sDputN i dk d ps = (d ps).st fun ws => (dk ps).st fun y => match ps[i]?, keyP y with
  | some (.own (.dic [] [])), some k => if ps.any isAls = false then .nx (ps.set i (.dol [k] [ws])) else .bad
  | some (.dol ks xss), some k => if ps.any isAls = false ∧ ks.length = xss.length ∧ ks.length < 999 ∧ inK ks k = false then .nx (ps.set i (.dol (ks ++ [k]) (xss ++ [ws]))) else .bad
  | _, _ => .bad := rfl
@[simp] theorem e_sAls : sAls i j dk ps = (dk ps).st fun y => match ps[j]?, keyP y with
  | some (.dol ks xss), some k => (match kIx ks k 0 with | some m => .nx (ps.set i (.als j m)) | none => .bad)
  | _, _ => .bad := rfl
@[simp] theorem e_dAls : dAls i ps = match ps[i]? with
  | some (.als d j) => (match ps[d]? with
    | some (.dol _ xss) => (match xss[j]? with | some xs => .ok (.lst xs) | none => .bad)
    | _ => .bad)
  | _ => .bad := rfl
@[simp] theorem e_setA : sSetA i dk dv ps = (dv ps).st fun w => (dk ps).st fun y => match ps[i]?, y with
  | some (.als d j), .int n => (match ps[d]? with
    | some (.dol ks xss) => (match xss[j]? with
      | some xs => (match ixN xs.length n with | some m => .nx (ps.set d (.dol ks (xss.set j (xs.set m w)))) | none => .bad)
      | none => .bad)
    | _ => .bad)
  | _, _ => .bad := rfl
@[simp] theorem e_frzD : sFrzD i ds ps = match ps[i]? with
  | some (.dol ks xss) => ds ((ps.map killA).set i (.v (.dic ks (xss.map PV.lst))))
  | _ => ds ps := rfl
end
end DN
end
section
set_option Elab.async false
set_option linter.all false
set_option maxRecDepth 100000
set_option maxHeartbeats 4000000
namespace DN
open PySem PySem.Spec PyProof.Rows L2
/-! ### dicts whose keys are tuples -/
def keyT : List PV → Option (List Key)
  | [] => some []
  | y :: ys => match keyP y, keyT ys with | some k, some ks => some (k :: ks) | _, _ => none
def getT {α : Type} : List (List Key) → List α → List Key → Option α
  | k' :: ks, x :: xs, k => if k' = k then some x else getT ks xs k
  | _, _, _ => none
def inT (ks : List (List Key)) (k : List Key) : Bool := ks.any fun k' => decide (k' = k)
section
variable {K : PySem.W.Frag} {G : Pg} {H : Hp} {A : Av}
end
section
variable {X : Cx} {G : Pg} {o value : Expr} {es : List Expr} {da dv : DP} {dk : DA} {ds : DS} {pos pos' p tp tpos : Pos} {x : Str} {i : Nat} {ms : List Bool}
def sOwnDT (i : Nat) : DS := fun ps => if i < ps.length then .nx (ps.set i (.own (.dit [] []))) else .bad
def sDputT (i : Nat) (dk : DA) (dv : DP) : DS := fun ps => (dv ps).st fun w => (dk ps).st fun ys => match ps[i]?, keyT ys with
  | some (.own (.dit ks xs)), some k => if ks.length < 10000 ∧ inT ks k = false then .nx (ps.set i (.own (.dit (ks ++ [k]) (xs ++ [w])))) else .bad
  | _, _ => .bad
def dDGetT (da : DP) (dk : DA) : DP := fun ps => (da ps).bind fun z => (dk ps).bind fun ys => match z, keyT ys with
  | .dit ks xs, some k => (match getT ks xs k with | some w => .ok w | none => .bad)
  | _, _ => .bad
end
section
variable (ps : PSt) (i : Nat) (da dv : DP) (dk : DA)
@[simp] theorem e_ownDT : sOwnDT i ps = if i < ps.length then .nx (ps.set i (.own (.dit [] []))) else .bad := rfl
@[simp] theorem e_dputT : sDputT i dk dv ps = (dv ps).st fun w => (dk ps).st fun ys => match ps[i]?, keyT ys with
  | some (.own (.dit ks xs)), some k => if ks.length < 10000 ∧ inT ks k = false then .nx (ps.set i (.own (.dit (ks ++ [k]) (xs ++ [w])))) else .bad
  | _, _ => .bad := rfl
@[simp] theorem e_dgetT : dDGetT da dk ps = (da ps).bind fun z => (dk ps).bind fun ys => match z, keyT ys with
  | .dit ks xs, some k => (match getT ks xs k with | some w => .ok w | none => .bad)
  | _, _ => .bad := rfl
end
end DN
end
section
set_option Elab.async false
set_option linter.all false
set_option maxRecDepth 100000
set_option maxHeartbeats 4000000
namespace L2
open PySem PySem.Spec PyProof.Rows
/-! ### exceptions: own classes over ValueError -/
abbrev vE : List Value := [.type "ValueError", .type "Exception", .type "BaseException", .type "object"]
def ExcF (K : PySem.W.Frag) (C : Addr) : Prop := PySem.W.excIn K C vE "ValueError.__new__" = true
structure ExcOb (h : Heap) (C : Addr) : Prop where
  obj : ∃ bm N nm q bs hdct sn sub ab col dd k0 k1 k2 k3 k5 mN, h.get? C = some (excClassObj nm q C N bs bm hdct sn sub ab col dd k0 k1 k2 k3 k5 "ValueError.__new__") ∧ h.Ns N mN ∧ mN "__init__" = none ∧ OwnTail h vE bm
theorem ExcF.ob {K : PySem.W.Frag} {h : Heap} {C : Addr} (e : ExcF K C) (X : K.In h) : ExcOb h C := by
  refine ⟨?_⟩
  unfold ExcF PySem.W.excIn at e
  split at e
  · rename_i dd cd sl ho
    split at e
    · rename_i C' bm k0 k1 k2 k3 n k5 hm hs
      simp only [Bool.and_eq_true, beq_iff_eq, Bool.not_eq_true'] at e
      obtain ⟨⟨⟨⟨⟨rfl, rfl⟩, hdel⟩, ht⟩, hok⟩, hni⟩ := e
      obtain ⟨nm, bs, mro, ns, qn, hd, sn, sub, ab, col, del⟩ := cd
      dsimp only at hm hdel hok hni
      subst hm hdel
      have hsl : sl = #[k0, k1, k2, k3, some (.builtin "ValueError.__new__"), k5] := by
        obtain ⟨l⟩ := sl
        simp only at hs
        rw [hs]
      subst hsl
      exact ⟨bm, ns, nm, qn, bs, hd, sn, sub, ab, col, dd, k0, k1, k2, k3, k5, _, X _ _ ho, .of_isNs (PySem.W.isNs_of_in X hok), PySem.W.nsMap_none_of_in X hok hni, PySem.W.tail_of_in X ht⟩
    · cases e
  · cases e
/-! ### an exception in flight: h0 the heap at the call, h1 the heap where it was made -/
structure FlyX (outer : List Env) (H' : Hp) (h0 h1 h' : Heap) (e : Addr) (cls : Value) : Prop where
  ex : ∃ B a0, Heap.FlyingW B outer e cls a0 h' ∧ ∀ b o, h1.get? b = some o → b ∉ frs outer → (H' b ≠ none ∨ ∃ o0, h0.get? b = some o0) → B.get? b = some o
  up : h1.UpToSlots h'
section
variable {P : Program} {w : World} {K : PySem.W.Frag} {mg : Str → Option Value} {base : Bs} {N : List Str} {qual : Str} {scope : Scope} {f : Addr} {cd : Value} {A : Around} {outer : List Env} {s0 : Shared} {H0 : Hp} {E E' : XK}
end
/-! ### raise -/
section
variable {X : Cx}
end
section
variable {X : Cx} {pins : List (Addr × Obj)} {σ : St} {H : Hp} {s : Shared} {e : Value}
end
end L2
end
section
set_option Elab.async false
set_option linter.all false
set_option maxRecDepth 100000
set_option maxHeartbeats 4000000
namespace DN
open PySem PySem.Spec PyProof.Rows L2
/-! ### defs that raise: their mirrors -/
def Rx.at {α : Type} (r : Rx α) (Q : α → Prop) (E : Nat → Prop) : Prop := match r with | .ok a => Q a | .exc k => E k | .bad => False
/-- the k-th class of exceptions stands at 1000 + k -/
def eA (G : Pg) (k : Nat) : Value := .ref (G.cA (1000 + k))
def EndsX (K : PySem.W.Frag) (G : Pg) (E : XK) (c : Fr) (H : Hp) (A : Av) (D : Ends) : Rs → Prop
  | .exc k => ∀ H', SmL c H' → E (eA G k) none H'
  | .nx ps => EndsAt K G c H A D (.nx ps)
  | .ret w => EndsAt K G c H A D (.ret w)
  | .retn xs => EndsAt K G c H A D (.retn xs)
  | .reti w x => EndsAt K G c H A D (.reti w x)
  | .brk ps => EndsAt K G c H A D (.brk ps)
  | .cnt ps => EndsAt K G c H A D (.cnt ps)
  | .bad => False
theorem EndsX.mono {K : PySem.W.Frag} {G : Pg} {E : XK} {c : Fr} {H H1 : Hp} {A A1 : Av} {D : Ends} {r : Rs} (h : EndsX K G E c H A D r) (k : Kp K G H A H1 A1) : EndsX K G E c H1 A1 D r := by
  cases r with
  | exc j => exact h
  | bad => exact h
  | nx ps => exact EndsAt.mono (r := .nx ps) h k
  | ret w => exact h
  | retn xs => exact h
  | reti w x => exact h
  | brk ps => exact EndsAt.mono (r := .brk ps) h k
  | cnt ps => exact EndsAt.mono (r := .cnt ps) h k
/-- no exception is thought of -/
def cutX : Rs → Rs
  | .exc _ => .bad
  | r => r
@[simp] theorem cutX_nx (ps : PSt) : cutX (.nx ps) = .nx ps := rfl
@[simp] theorem cutX_ret (w : PV) : cutX (.ret w) = .ret w := rfl
@[simp] theorem cutX_retn (w : List PV) : cutX (.retn w) = .retn w := rfl
@[simp] theorem cutX_reti (w : PV) (x : Ow) : cutX (.reti w x) = .reti w x := rfl
@[simp] theorem cutX_brk (ps : PSt) : cutX (.brk ps) = .brk ps := rfl
@[simp] theorem cutX_cnt (ps : PSt) : cutX (.cnt ps) = .cnt ps := rfl
@[simp] theorem cutX_bad : cutX .bad = .bad := rfl
def cutR {α : Type} : Rx α → Rx α
  | .exc _ => .bad
  | r => r
@[simp] theorem cutR_ok {α : Type} (a : α) : cutR (.ok a) = .ok a := rfl
@[simp] theorem cutR_bad {α : Type} : cutR (.bad : Rx α) = .bad := rfl
theorem PS.nox {X : Cx} {st : Stmt} {t : TS} (h : PS X.nox st t) : PS X st t := fun pins s σ H D I hw =>
  wpAny_mono (h pins s σ H D (I.wish _) hw) (fun _ _ q => q.unwish) fun _ _ z => False.elim z
section
variable {X : Cx} {G : Pg} {E : XK} {e a b o tg : Expr} {es : List Expr} {d : DA} {ds du : DS} {dt : DT} {st : Stmt} {rest : List Stmt} {pos p : Pos} {x m : Str} {k i : Nat} {ms : List Bool}
/-! values that may be raised for -/
theorem PA.nox {es : List Expr} {t : TA} (h : PA X.nox es t) : PA X es t := fun pos pins s σ H Q I hw =>
  wpAny_mono (h pos pins s σ H Q (I.wish _) hw) (fun _ _ ⟨vs, H', I', r, q⟩ => ⟨vs, H', I'.unwish, r, q⟩) fun _ _ z => False.elim z
theorem Rx.at.imp {α : Type} {r : Rx α} {Q Q' : α → Prop} {F F' : Nat → Prop} (h : r.at Q F) (hq : ∀ a, Q a → Q' a) (hf : ∀ k, F k → F' k) : r.at Q' F' := by
  cases r with
  | ok a => exact hq a h
  | bad => exact h
  | exc k => exact hf k h
end
end DN
end
section
set_option Elab.async false
set_option linter.all false
set_option maxRecDepth 100000
set_option maxHeartbeats 4000000
namespace DN
open PySem PySem.Spec PyProof.Rows L2
def putTs (ks : List (List Key)) (k : List Key) : List (List Key) := if inT ks k = true then ks else ks ++ [k]
def putTx {α : Type} (ks : List (List Key)) (xs : List α) (k : List Key) (w : α) : List α := if inT ks k = true then List.zipWith (fun k' x => if k' = k then w else x) ks xs else xs ++ [w]
def keyTv : PV → Option (List Key)
  | .tup ys => keyT ys
  | _ => none
section
variable {X : Cx} {G : Pg} {a b e f o ke value : Expr} {es : List Expr} {da db dk dv dd : DP} {ds : DS} {pos pos' p tp tpos apos cpos : Pos} {x : Str} {i : Nat} {ms : List Bool}
/-- d[k] = v, k a tuple -/
def sDputV (i : Nat) (dk dv : DP) : DS := fun ps => (dv ps).st fun w => (dk ps).st fun y => match ps[i]?, keyTv y with
  | some (.own (.dit ks xs)), some k => if ks.length < 10000 then .nx (ps.set i (.own (.dit (putTs ks k) (putTx ks xs k w)))) else .bad
  | _, _ => .bad
/-- d.get(k, z), k a tuple -/
def dDGetV (da db dd : DP) : DP := fun ps => (da ps).bind fun x => (db ps).bind fun y => (dd ps).bind fun z => match x, keyTv y with
  | .dit ks xs, some k => if ks.length = xs.length then .ok ((getT ks xs k).getD z) else .bad
  | _, _ => .bad
def sOwnD1 (i : Nat) (dk dv : DP) : DS := fun ps => (dk ps).st fun y => (dv ps).st fun w => match keyP y with
  | some k => if i < ps.length ∧ isF w = true then .nx (ps.set i (.own (.dic [k] [w]))) else .bad
  | none => .bad
/-- len of a tuple of the top -/
theorem p_lenTop {t : Addr} {n : Nat} {vs : List V} {np lp : Pos} (T : TopT X.K t vs) (hg : Gl X x) (hm : X.mg x = some (.ref t)) (hgl : Gl X "len") (hml : X.mg "len" = none) (hn : vs.length = n) (hd : (x == ("__debug__" : Str)) = false := by decide) (he : starEach [.Name x np] X.env = (false, eval (.Name x np) X.env) :: starEach [] X.env := by rfl) (hpl : (backTo pos (starEach ([] : List Expr) X.env)).any (·.1) = false := by rfl) :
    JP X G (.Call (.Name "len" lp) [.Name x np] [] pos) (dC (.int n)) := imp (pe_callB call_len_seq hgl hml PySem.boot_len (pa_cons (pe_globR hg hm hd) pa_nil he) (by decide) (by decide) he hpl) fun σ H Q ⟨c, ow, ps, w, R, e, q⟩ => by
  cases e
  exact ⟨t, vs, rfl, .inr (T.sq H), by rw [hn]; exact q _ H (Same.refl H) rfl⟩
end
section
variable (ps : PSt) (i : Nat) (da db dk dv dd : DP)
@[simp] theorem e_dputV : sDputV i dk dv ps = (dv ps).st fun w => (dk ps).st fun y => match ps[i]?, keyTv y with
  | some (.own (.dit ks xs)), some k => if ks.length < 10000 then .nx (ps.set i (.own (.dit (putTs ks k) (putTx ks xs k w)))) else .bad
  | _, _ => .bad := rfl
@[simp] theorem e_dgetV : dDGetV da db dd ps = (da ps).bind fun x => (db ps).bind fun y => (dd ps).bind fun z => match x, keyTv y with
  | .dit ks xs, some k => if ks.length = xs.length then .ok ((getT ks xs k).getD z) else .bad
  | _, _ => .bad := rfl
@[simp] theorem e_ownD1 : sOwnD1 i dk dv ps = (dk ps).st fun y => (dv ps).st fun w => match keyP y with
  | some k => if i < ps.length ∧ isF w = true then .nx (ps.set i (.own (.dic [k] [w]))) else .bad
  | none => .bad := rfl
end
end DN
end
section
set_option Elab.async false
set_option linter.all false
set_option maxRecDepth 100000
set_option maxHeartbeats 4000000
namespace L2
open PySem PySem.Spec PyProof.Rows
end L2
namespace DN
open PySem PySem.Spec PyProof.Rows L2
section
variable {X : Cx} {G : Pg} {da : DP} {ds : DS} {pos p cpos : Pos}
def dEnumS (d : DP) : DA := fun ps => (d ps).bind fun x => match x with | .str y => .ok (enumFrom 0 (sgP y)) | _ => .bad
def sForES (d : DP) (g : DG) (body : DS) : DS := sFor (dEnumS d) g body
end
@[simp] theorem e_forES (da : DP) (ds : DS) (ps : PSt) (g : DG) : sForES da g ds ps = (dEnumS da ps).st fun ws => forD g ds ws ps := rfl
@[simp] theorem e_enumS (da : DP) (ps : PSt) : dEnumS da ps = (da ps).bind fun x => match x with | .str y => .ok (enumFrom 0 (sgP y)) | _ => .bad := rfl
end DN
namespace L2
open PySem PySem.Spec PyProof.Rows
section
variable {P : Program} {w : World} {K : PySem.W.Frag} {mg : Str → Option Value} {base : Bs} {C f : Addr} {fd : FuncData} {qual : Str} {st : Stmt}
end
end L2
/-! ### tables of classes, told as one -/
namespace DN
open PySem PySem.Spec PyProof.Rows L2
def KitT (K : PySem.W.Frag) (X : Value) : List Value → List (Nat × Bool) → Prop
  | v :: vs, (_, b) :: ps => PySem.W.kitOne K v X = some b ∧ KitT K X vs ps
  | _, _ => True
theorem kit_isi {K : PySem.W.Frag} {G : Pg} {cv : Value} {N : Nat} (hC : ∀ c, c < N → ClsTy K (G.cA c)) : ∀ {l : List (Nat × Bool)} {vs : List Value}, KitT K cv vs l → vs = l.map (fun p => tyOfKd G p.1) → (∀ p ∈ l, p.1 < 9 ∨ (10 ≤ p.1 ∧ p.1 < N + 10)) → IsiOk K G cv l
  | [], _, _, _, _ => is_nil
  | (q, b) :: l, vs, h, e, d => by
    subst e
    have r := kit_isi hC (l := l) h.2 rfl fun p hp => d p (List.mem_cons_of_mem _ hp)
    rcases d (q, b) List.mem_cons_self with h9 | ⟨h10, hn⟩
    · exact is_cons h.1 h9 r
    · obtain ⟨c, rfl⟩ : ∃ c, q = c + 10 := ⟨q - 10, by simp at h10; omega⟩
      exact is_consC h.1 (hC c (by simp at hn; omega)) r
end DN
end
section
set_option Elab.async false
set_option linter.all false
set_option maxRecDepth 100000
set_option maxHeartbeats 4000000
namespace L2
open PySem PySem.Spec PyProof.Rows
section
variable {prog : Program} {w : World} {A : Around} {E : Value → Shared → Prop} {s : Shared}
end
section
variable {prog : Program} {w : World} {A : Around} {s : Shared} {K : Type} [DecidableEq K] {knd : KeyKind prog w K} {key : Nat → K}
end
end L2
namespace PySem
open Sem (wp)
section
variable {prog : Program} {w : World} {A : Around} {E : Value → Shared → Prop} {h : Heap} {g : Array GenState} {d : Drawn} {t : Nat} {os : OsState} {a : Addr} {vs : Array Value}
end
end PySem
namespace L2
open PySem PySem.Spec PyProof.Rows
section
variable {prog : Program} {w : World} {A : Around} {E : Value → Shared → Prop} {s : Shared} {K : Type} [DecidableEq K] {knd : KeyKind prog w K} {key : Nat → K}
end
end L2
end
section
set_option Elab.async false
set_option linter.all false
set_option maxRecDepth 100000
set_option maxHeartbeats 4000000
namespace L2
open PySem PySem.Spec PyProof.Rows
/-! ### the pairs of a dict, one by one -/
structure M0 (X : Cx) (o : Expr) (m : Str) (apos cpos : Pos) : Prop where
  base : attributeBase o m X.env (eval o X.env) = eval o X.env
  line : (apos.endLine == cpos.line) = true
theorem Paired.get {α β : Type} {F : α → β → Prop} : ∀ {l : List α} {m : List β}, Paired F l m → ∀ {i : Nat} {x : α}, l[i]? = some x → ∃ y, m[i]? = some y ∧ F x y
  | _, _, .nil, i, x, h => by simp at h
  | _, _, .cons r t, 0, x, h => by simp at h; subst h; exact ⟨_, rfl, r⟩
  | _, _, .cons r t, i + 1, x, h => by simp at h; obtain ⟨y, e, f⟩ := Paired.get t h; exact ⟨y, by simpa using e, f⟩
end L2
namespace DN
open PySem PySem.Spec PyProof.Rows L2
/-! ### dict(enumerate(xs)), d.items() -/
def nK : Nat → Nat → List Key
  | _, 0 => []
  | j, n + 1 => .inl (j : Int) :: nK (j + 1) n
end DN
namespace L2
open PySem PySem.Spec PyProof.Rows DN
end L2
namespace DN
open PySem PySem.Spec PyProof.Rows L2
def dDE (d : DP) : DP := fun ps => (d ps).bind fun x => match x with | .lst xs => .ok (.dic (nK 0 xs.length) xs) | _ => .bad
section
variable {X : Cx} {G : Pg} {da : DP} {ds : DS} {pos p pos2 p2 cpos apos : Pos}
def kPV : Key → PV
  | .inl i => .int i
  | .inr x => .str x
def itP : List Key → List PV → List PV
  | k :: ks, x :: xs => .tup [kPV k, x] :: itP ks xs
  | _, _ => []
def dItD (d : DP) : DA := fun ps => (d ps).bind fun x => match x with | .dic ks xs => if ks.length = xs.length then .ok (itP ks xs) else .bad | _ => .bad
def sForIt (d : DP) (g : DG) (body : DS) : DS := sFor (dItD d) g body
end
@[simp] theorem e_forIt (da : DP) (ds : DS) (ps : PSt) (g : DG) : sForIt da g ds ps = (dItD da ps).st fun ws => forD g ds ws ps := rfl
@[simp] theorem e_itD (da : DP) (ps : PSt) : dItD da ps = (da ps).bind fun x => match x with | .dic ks xs => if ks.length = xs.length then .ok (itP ks xs) else .bad | _ => .bad := rfl
@[simp] theorem e_dictEnum (da : DP) (ps : PSt) : dDE da ps = (da ps).bind fun x => match x with | .lst xs => .ok (.dic (nK 0 xs.length) xs) | _ => .bad := rfl
end DN
namespace DN
open PySem PySem.Spec PyProof.Rows L2
/-! ### xs.pop(i) of a list of one's own -/
section
variable {X : Cx} {G : Pg} {e : Expr} {db : DP} {pos apos cpos : Pos} {x : Str}
end
end DN
end
section
set_option Elab.async false
set_option linter.all false
set_option maxRecDepth 100000
set_option maxHeartbeats 4000000
namespace DN
open PySem PySem.Spec PyProof.Rows L2
def idxK : List Key → Key → Option Nat
  | [], _ => none
  | a :: ks, k => if a = k then some 0 else (idxK ks k).map (· + 1)
theorem idx_get {α : Type} {k : Key} : ∀ {ks : List Key} {xs : List α} {j : Nat} {x : α}, idxK ks k = some j → xs[j]? = some x → getP ks xs k = some x
  | [], xs, j, x, h, e => nomatch h
  | a :: ks, [], j, x, h, e => by simp at e
  | a :: ks, z :: xs, j, x, h, e => by
    unfold idxK at h
    rw [getP]
    by_cases q : a = k
    · rw [if_pos q] at h ⊢
      cases h
      simpa using e
    · rw [if_neg q] at h ⊢
      cases i : idxK ks k with
      | none => rw [i] at h; cases h
      | some m =>
        rw [i] at h
        cases h
        exact idx_get i (by simpa using e)
section
variable {X : Cx} {G : Pg} {ke : Expr} {dk : DP} {pos p tpos apos cpos : Pos} {x : Str} {i : Nat}
/-- d[k].clear(), d a dict of lists of one's own -/
def mClrA (i : Nat) (dk : DP) : DM := fun ps => (dk ps).bind fun y => match ps[i]?, keyP y with
  | some (.dol ks xss), some k => (match idxK ks k with
    | some j => if j < xss.length then .ok (.non, ps.set i (.dol ks (xss.set j []))) else .bad
    | none => .bad)
  | _, _ => .bad
theorem m_clrA (i : Nat) (hu : X.A.units + 1 < cLine) (hk : JB X G ke dk) (hs : NoSl ke) (hline : (apos.endLine == cpos.line) = true := by rfl) (hN : X.N[i]? = some x := by rfl) (hv : Vis X.env.scope x := by first | exact Or.inl rfl | exact Or.inr (Or.inl rfl) | exact Or.inr (Or.inr rfl)) (hd : (x == ("__debug__" : Str)) = false := by decide)
    (hcd : (x == ("__classdict__" : Str)) = false := by decide) (hbase : attributeBase (.Subscript (.Name x p) ke tpos) "clear" X.env (eval (.Subscript (.Name x p) ke tpos) X.env) = eval (.Subscript (.Name x p) ke tpos) X.env := by rfl) : JM X G (.Call (.Attribute (.Subscript (.Name x p) ke tpos) "clear" apos) [] [] cpos) (mClrA i dk) :=
  imp (pe_bm0 PySem.F.plainAttrs_list PySem.F.slot_list_clear PySem.F.type_list_clear mt_clear (pe_dget hu (pe_var hN hv hd hcd) hk hs) hbase hline) fun σ H Q ⟨c, ow, ps, w, ps', R, e, q⟩ => by
    obtain ⟨y, e1, e⟩ := bind_ok e
    split at e
    · rename_i ks xss k h2 hkk
      split at e
      · rename_i j hj
        split at e
        · rename_i hlt
          cases e
          obtain ⟨o0, eo0, p0, qs, e5, rfl, ⟨ep, hp⟩, l1, l2, l3, hq⟩ := R.get h2
          have hx3 : xss[j]? = some xss[j] := List.getElem?_eq_getElem hlt
          have hq3 : qs[j]? = some (qs[j]'(by omega)) := List.getElem?_eq_getElem (by omega)
          generalize xss[j] = xs at hx3
          generalize qs[j]'(by omega) = q0 at hq3
          obtain ⟨e3, vs0, hH0, rs0⟩ := hq j q0 xs hq3 hx3
          refine ⟨.ref p0, eo0, c, ow, ps, y, R, e1, fun u H2 s2 r2 => ?_⟩
          have R2 := R.grow s2
          have hH : H2 q0 = some (.lst vs0) := s2 _ _ hH0
          have hp2 := s2 _ _ hp
          have mD : Mt (HO.lst vs0) := And.intro (fun _ z => by cases z) (fun _ _ z => by cases z)
          have k0 : Kp X.K G H2 (av c ow) (upd H2 q0 (.lst [])) (av c ow) := Kp.own (.inr ⟨_, e3⟩) hH mD
          have hdl : i < ps.length := (List.getElem?_eq_some_iff.mp h2).1
          have hj3 : j < 1000 := by omega
          have := R2.chgG (i := i) (t := vx ps.length i j) (y := .dol ks (xss.set j [])) (u := .lst []) hdl e3 (.inr ⟨j, hj3, rfl⟩) hH mD fun v' hv' => by
            rw [eo0] at hv'
            cases hv'
            have npq : p0 ≠ q0 := fun z => by rw [z, hH] at hp2; cases hp2
            refine ⟨p0, qs, e5, rfl, ⟨ep, by rw [upd_ne npq]; exact hp2⟩, l1, by rw [List.length_set]; exact l2, l3, fun j' q' xs' h4 h5 => ?_⟩
            by_cases hjj : j' = j
            · subst hjj
              rw [List.getElem?_set_self hlt] at h5
              cases h5
              rw [hq3] at h4
              cases h4
              exact ⟨e3, _, upd_same, rfl⟩
            · rw [List.getElem?_set_ne (fun z => hjj z.symm)] at h5
              obtain ⟨h6, h7⟩ := hq j' q' xs' h4 h5
              obtain ⟨o', eo', _⟩ := h7.at
              refine ⟨h6, (h7.keep (Kp.of_same s2) (by rw [s2 _ _ eo', eo'])).keep k0 (upd_ne ?_)⟩
              intro z; subst z
              have hj4 : j' < qs.length := (List.getElem?_eq_some_iff.mp h4).1
              exact hjj (vx_inj (R.inj _ _ _ h6 e3) (by omega) hj3).2
          refine ⟨p0, .ref q0, rfl, ?_, .inl ⟨rfl, _, SqL.of hH⟩, q0, vs0, rfl, rfl, hH, q .non _ ow this.1 ((Kp.of_same s2).trans this.2) rfl⟩
          have hv : getP ks (qs.map V.ref) k = some (.ref q0) := idx_get hj (by rw [List.getElem?_map, hq3]; rfl)
          rw [keyB r2 hkk, ← hv, ← val_zip]
          exact DGet.k hp2
        · cases e
      · cases e
    · cases e
end
end DN
end
section
set_option Elab.async false
set_option linter.all false
set_option maxRecDepth 100000
set_option maxHeartbeats 4000000
namespace DN
open PySem PySem.Spec PyProof.Rows L2
section
variable {X : Cx} {G : Pg} {ke a b : Expr} {dk da db : DP} {pos p tpos apos cpos : Pos} {x : Str} {i : Nat}
/-! ### d.clear(), d a dict of lists of one's own -/
def rClearD : V → List V → Hp → VK → Prop := fun x xs H Q => ∃ a kvs ep, x = .ref a ∧ xs = [] ∧ H a = some (.dK kvs ep) ∧ ∀ ep', Q .non (upd H a (.dK [] ep'))
theorem mt_clearD : MtM X "dict.clear" rClearD := by
  intro pins s σ H x vs v us Q I rx rv h
  obtain ⟨a, kvs, ep, rfl, rfl, hH, q⟩ := h
  cases rx
  have hus := rv.zero
  subst hus
  obtain ⟨z, hd, vs, rel, dd⟩ := dk_of I.hok hH
  refine call_meetsIn PySem.F.slot_dict_clear dd.typeIs PySem.F.entry_dict_clear (PySem.F.args_dict_clear_1 _) (meets_dict_clear (mixKind X.prog X.w) a) ⟨vs, dd, by rw [← rel.length]; exact z, fun h' dd' hs => ?_⟩
  have he : ∃ q, h'.get? a = some q := let ⟨q, _, _, hq, _⟩ := dd'; ⟨q, hq⟩
  obtain ⟨ep', ok⟩ := dk_new (kvs := []) (Nat.zero_le _) hd .nil dd'
  exact ⟨.non, _, d_write (t' := s.toks) I (by rw [hH]; exact True.intro) hs he (ok _), rfl, q ep'⟩
def mClrD (i : Nat) : DM := fun ps => match ps[i]? with
  | some (.dol _ _) => .ok (.non, ps.set i (.own (.dic [] [])))
  | _ => .bad
theorem m_clrD (i : Nat) (hline : (apos.endLine == cpos.line) = true := by rfl) (hN : X.N[i]? = some x := by rfl) (hv : Vis X.env.scope x := by first | exact Or.inl rfl | exact Or.inr (Or.inl rfl) | exact Or.inr (Or.inr rfl)) (hd : (x == ("__debug__" : Str)) = false := by decide)
    (hcd : (x == ("__classdict__" : Str)) = false := by decide) (hbase : attributeBase (.Name x pos) "clear" X.env (eval (.Name x pos) X.env) = eval (.Name x pos) X.env := by rfl) : JM X G (.Call (.Attribute (.Name x pos) "clear" apos) [] [] cpos) (mClrD i) :=
  imp (pe_bm0 PySem.F.plainAttrs_dict PySem.F.slot_dict_clear PySem.F.type_dict_clear mt_clearD (pe_var hN hv hd hcd) hbase hline) fun σ H Q ⟨c, ow, ps, w, ps', R, e, q⟩ => by
    unfold mClrD at e
    split at e
    · rename_i ks xss hx
      cases e
      obtain ⟨o, eo, p0, qs, e3, rfl, ⟨ep, hp⟩, l1, l2, l3, hq⟩ := R.get hx
      have hl : i < ps.length := (List.getElem?_eq_some_iff.mp hx).1
      have mD : Mt (HO.dK (ks.zip (qs.map V.ref)) ep) := And.intro (fun _ z => by cases z) (fun _ _ z => by cases z)
      refine ⟨.ref p0, eo, .inr (.inr (.inl ⟨rfl, .inl ⟨_, _, hp⟩⟩)), p0, _, ep, rfl, rfl, hp, fun ep' => ?_⟩
      have := R.chgG (i := i) (t := i) (y := .own (.dic [] [])) (u := .dK [] ep') hl e3 (.inl rfl) hp mD fun v hv => by
        rw [eo] at hv; cases hv
        exact ⟨p0, e3, rfl, [], ep', by rw [upd_same]; rfl, rfl, rfl⟩
      exact q .non _ ow this.1 this.2 rfl
    · cases e
/-! ### != of two dicts of lists -/
def hitsP (ks' : List Key) (ys : List PV) : List Key → List PV → Option Bool
  | [], [] => some true
  | k :: ks, x :: xs => match getP ks' ys k with
    | none => some false
    | some y => match x, y with
      | .lst a, .lst b => (match peq (.lst a) (.lst b), hitsP ks' ys ks xs with | some e, some r => some (e && r) | _, _ => none)
      | _, _ => none
  | _, _ => none
def fNeD (x y : PV) : Rx PV := match x, y with
  | .dbo ks xs, .dic ks' ys => if (PV.lst xs).depth < 100 then (match hitsP ks' ys ks xs with | some b => .ok (.bl (!(ks.length == ks'.length && b))) | none => .bad) else .bad
  | _, _ => .bad
section
variable {pins : List (Addr × Obj)} {σ : L2.St} {H : Hp} {s : Shared} {A0 : Av}
theorem eqL (I : Inv X pins σ H s) {xs ys : List PV} {v v' : V} {u u' : Value} {A : Around} {b : Bool} (hu : A.units + (PV.lst xs).depth < cLine) (h : RepB X.K G H A0 (.lst xs) v) (h' : RepB X.K G H A0 (.lst ys) v') (r : RelV v u) (r' : RelV v' u') (e : peq (.lst xs) (.lst ys) = some b) : SeqAt.EqAt A s u u' b := by
  have q := rcp I hu h h' r r' e
  obtain ⟨a, vs, rfl, sq, rs⟩ := h.lst
  obtain ⟨a', vs', rfl, sq', rs'⟩ := h'.lst
  obtain rfl : u = Value.ref a := r
  obtain rfl : u' = Value.ref a' := r'
  by_cases ea : a = a'
  · subst ea
    have := list_inj' I sq sq'
    subst this
    rw [peq_ll, if_pos (by rw [rs.len, rs'.len])] at e
    rw [reps_inj I rs rs' e]
    exact SeqAt.EqAt.same _
  · exact SeqAt.EqAt.of_refs ea q
theorem hits_of (I : Inv X pins σ H s) {A : Around} {ks' : List Key} {ys : List PV} {vs' : List V} {kb : List (Key × Value)} (rk : KV (ks'.zip vs') kb) (ry : Reps X.K G H A0 ys vs') :
    ∀ {ks : List Key} {xss : List (List PV)} {qs : List Addr} {ka : List (Key × Value)} {b : Bool}, A.units + pdepths (xss.map PV.lst) < cLine → ks.length = qs.length → xss.length = qs.length →
      (∀ (j : Nat) q l, qs[j]? = some q → xss[j]? = some l → RepO X.K G H A0 (.lst l) q) → KV (ks.zip (qs.map V.ref)) ka → hitsP ks' ys ks (xss.map PV.lst) = some b → PySem.W.KeqHits A s kb ka b
  | [], [], [], ka, b, hu, l1, l2, h, r, e => by
    cases r
    cases e
    exact .nil
  | k :: ks, xs :: xss, q :: qs, ka, b, hu, l1, l2, h, r, e => by
    cases r with
    | @cons _ kv _ ka' hkv hr =>
      obtain ⟨k', u⟩ := kv
      obtain ⟨hk, ru⟩ := hkv
      have hk : k = k' := hk
      subst hk
      have hq := h 0 q xs rfl rfl
      have hd : pdepths ((xs :: xss).map PV.lst) = max (PV.lst xs).depth (pdepths (xss.map PV.lst)) := by rw [List.map_cons, pdepths]
      obtain ⟨g1, g2⟩ := get_rep (k := k) (ks := ks') ry
      have hv := rk.val k
      rw [val_zip] at hv
      rw [List.map_cons, hitsP] at e
      cases hg : getP ks' ys k with
      | none =>
        rw [hg] at e g2
        cases e
        have hn : getP ks' vs' k = none := by
          cases z : getP ks' vs' k with
          | none => rfl
          | some _ => rw [z] at g2; cases g2
        rw [hn] at hv
        refine .miss ?_
        cases z : PySem.valueAt kb k with
        | none => rfl
        | some _ => rw [z] at hv; exact hv.elim
      | some y =>
        rw [hg] at e
        obtain ⟨v', hv', ry'⟩ := g1 y hg
        rw [hv'] at hv
        cases z : PySem.valueAt kb k with
        | none => rw [z] at hv; exact hv.elim
        | some u' =>
          rw [z] at hv
          cases y with
          | lst yl =>
            have e : (match peq (.lst xs) (.lst yl), hitsP ks' ys ks (xss.map PV.lst) with | some e, some r => some (e && r) | _, _ => none) = some b := e
            cases e1 : peq (.lst xs) (.lst yl) with
            | none => rw [e1] at e; cases e
            | some e0 =>
              cases e2 : hitsP ks' ys ks (xss.map PV.lst) with
              | none => rw [e1, e2] at e; cases e
              | some r0 =>
                rw [e1, e2] at e
                cases e
                exact .hit z (eqL I (by omega) (.inr (.inl ⟨.lst xs, q, rfl, rfl, hq⟩)) (.inl ry') ru hv e1) (hits_of I rk ry (by omega) (by simpa using l1) (by simpa using l2) (fun j q' l h1 h2 => h (j + 1) q' l h1 h2) hr e2)
          | _ => cases e
  | [], _ :: _, qs, ka, b, hu, l1, l2, h, r, e => by cases qs <;> simp at l1 l2
  | [], [], _ :: _, ka, b, hu, l1, l2, h, r, e => by simp at l1
  | _ :: _, [], qs, ka, b, hu, l1, l2, h, r, e => by cases qs <;> simp at l1 l2
  | _ :: _, _ :: _, [], ka, b, hu, l1, l2, h, r, e => by simp at l1
end
def rNeD (K : PySem.W.Frag) (G : Pg) : R2 := fun v u H Q => ∃ A ks xs ks' ys b, (PV.lst xs).depth < 100 ∧ RepB K G H A (.dbo ks xs) v ∧ RepB K G H A (.dic ks' ys) u ∧ hitsP ks' ys ks xs = some b ∧ Q (.bl (!(ks.length == ks'.length && b))) H
theorem op_neD (hu : X.A.units + 100 < cLine) : OpR X (compareOp .NotEq) (rNeD X.K G) := by
  intro pins s σ H v u v' u' Q I rx ry h
  obtain ⟨A, ks, xs, ks', ys, b, hd, h1, h2, e, q⟩ := h
  obtain ⟨p, qs, xss, ep, rfl, rfl, hp, l1, l2, hq⟩ := h1.dbo
  obtain ⟨p', vs', ep', rfl, hp', l', ry'⟩ := h2.dic
  cases rx
  cases ry
  obtain ⟨z, hs, vs, rel, dd⟩ := dk_of I.hok hp
  obtain ⟨z', hs', vs2, rel', dd'⟩ := dk_of I.hok hp'
  have e1 : vs.length = ks.length := by rw [← rel.length, List.length_zip, List.length_map]; omega
  have e2 : vs2.length = ks'.length := by rw [← rel'.length, List.length_zip]; omega
  have hdd : (PV.lst (xss.map PV.lst)).depth = pdepths (xss.map PV.lst) + 1 := by rw [PV.depth]
  refine PySem.W.keq_ne (r := b) hs hs' dd dd' (by omega) (fun _ => hits_of I rel' ry' (by show X.A.units + 1 + _ < cLine; omega) l1 l2 hq rel e) ?_
  rw [e1, e2]
  exact ⟨.bl _, H, I, rfl, q⟩
theorem o2_neD {K : PySem.W.Frag} : Op2 K G fNeD (rNeD K G) := by
  intro H A x y w v u Q hu e r1 r2 q
  unfold fNeD at e
  split at e
  · split at e
    · rename_i hd
      split at e
      · rename_i b hb; cases e; exact ⟨A, _, _, _, _, b, hd, r1, r2, hb, q _ H (Same.refl H) rfl⟩
      · cases e
    · cases e
  · cases e
theorem t_neD {k : Nat} (hr : Room k X.A) (ha : JB X G a da) (hb : JB X G b db) : JT X G (.Compare a [.NotEq] [b] pos) (dTr (d2 fNeD da db)) := t_cmp (op_neD (hu100 hr)) o2_neD ha hb (nomark _)
end
section
variable {X : Cx} {G : Pg} {e tg : Expr} {dm : DM} {pos : Pos}
/-! ### a, b = e, where e changes things of one's own -/
def sAsgM (g : DG) (d : DM) : DS := fun ps => (d ps).st fun w => (g w.1 w.2).st fun ps' => .nx ps'
end
section
variable (ps : PSt) (i : Nat) (dk : DP)
@[simp] theorem e_asgM (g : DG) (d : DM) : sAsgM g d ps = (d ps).st fun w => (g w.1 w.2).st fun ps' => .nx ps' := rfl
@[simp] theorem e_clrA : mClrA i dk ps = (dk ps).bind fun y => match ps[i]?, keyP y with
  | some (.dol ks xss), some k => (match idxK ks k with
    | some j => if j < xss.length then .ok (.non, ps.set i (.dol ks (xss.set j []))) else .bad
    | none => .bad)
  | _, _ => .bad := rfl
@[simp] theorem e_clrD : mClrD i ps = match ps[i]? with
  | some (.dol _ _) => .ok (.non, ps.set i (.own (.dic [] [])))
  | _ => .bad := rfl
end
end DN
end
section
set_option Elab.async false
set_option linter.all false
set_option maxRecDepth 100000
set_option maxHeartbeats 4000000
namespace M21
open PySem L2 DN
open PyProof.Rows (boot_isinstance boot_bool boot_int boot_str boot_tuple boot_list boot_dict boot_sum boot_all boot_any boot_abs boot_enumerate boot_min boot_max)
def top (i : Nat) : Stmt := PySem.Challenge.pw_anymeaning_k21_worlds.main.body.getD i (.Pass ⟨0, 0, 0, 0⟩)
def fN : Nat → List Str
  | 0 => ["says", "leads"]
  | _ => []
abbrev s_listed_world : Stmt := top 8
abbrev s_check_settings : Stmt := top 9
abbrev s_check_leads : Stmt := top 10
abbrev s_all_below : Stmt := top 11
abbrev s_l_cell_at : Stmt := top 13
abbrev s_l_whole : Stmt := top 14
abbrev s_l_mixed : Stmt := top 15
abbrev s_l_number : Stmt := top 16
abbrev s_l_endless : Stmt := top 17
abbrev s_l_lists : Stmt := top 18
abbrev s_law : Stmt := top 19
abbrev s_World_setting : Stmt := inClass (top 7) 1
abbrev s_World_led : Stmt := inClass (top 7) 2
abbrev n_listed_world_n1 : Nst := lamOf ["own_settings"] (argOf 0 (retOf (inBody 5 s_listed_world)))
abbrev n_listed_world_n2 : Nst := lamOf ["own_leads"] (argOf 1 (retOf (inBody 5 s_listed_world)))
abbrev n_l_endless_n1 : Nst := nstOf [] (inBody 2 s_l_endless)
abbrev n_l_endless_n2 : Nst := nstOf ["_law_sums", "_law_products"] (inBody 3 s_l_endless)
def nF : Nat → Nst
  | 13 => n_listed_world_n1
  | 14 => n_listed_world_n2
  | 15 => n_l_endless_n1
  | 16 => n_l_endless_n2
  | _ => default
abbrev tC : List (Nat × Nat) := [(13, 1), (14, 2), (15, 1), (16, 2)]
def pg (cA : Nat → Addr) : Pg := ⟨cA, fN, nF⟩
abbrev a_leads : List (Nat × Nat) := [(0, 1)]
abbrev a_says : List (Nat × Nat) := [(0, 0)]
abbrev q_led : List (Nat × Nat) := [(0, 12)]
abbrev q_setting : List (Nat × Nat) := [(0, 11)]
abbrev i_bool : List (Nat × Bool) := [(0, false), (1, true), (2, false), (3, false), (4, false), (5, false), (6, false), (0 + 10, false)]
abbrev i_int : List (Nat × Bool) := [(0, false), (1, true), (2, true), (3, false), (4, false), (5, false), (6, false), (0 + 10, false)]
@[simp] theorem fl_leads_0 (x0 x1 : PV) : fldP a_leads (.obj 0 [x0, x1]) = .ok x1 := rfl
@[simp] theorem fl_says_0 (x0 x1 : PV) : fldP a_says (.obj 0 [x0, x1]) = .ok x0 := rfl
@[simp] theorem ii_bool_0 : isiK i_bool 0 = .ok (.bl false) := rfl
@[simp] theorem ii_bool_1 : isiK i_bool 1 = .ok (.bl true) := rfl
@[simp] theorem ii_bool_2 : isiK i_bool 2 = .ok (.bl false) := rfl
@[simp] theorem ii_bool_3 : isiK i_bool 3 = .ok (.bl false) := rfl
@[simp] theorem ii_bool_4 : isiK i_bool 4 = .ok (.bl false) := rfl
@[simp] theorem ii_bool_5 : isiK i_bool 5 = .ok (.bl false) := rfl
@[simp] theorem ii_bool_6 : isiK i_bool 6 = .ok (.bl false) := rfl
@[simp] theorem ii_bool_10 : isiK i_bool (0 + 10) = .ok (.bl false) := rfl
@[simp] theorem ii_int_0 : isiK i_int 0 = .ok (.bl false) := rfl
@[simp] theorem ii_int_1 : isiK i_int 1 = .ok (.bl true) := rfl
@[simp] theorem ii_int_2 : isiK i_int 2 = .ok (.bl true) := rfl
@[simp] theorem ii_int_3 : isiK i_int 3 = .ok (.bl false) := rfl
@[simp] theorem ii_int_4 : isiK i_int 4 = .ok (.bl false) := rfl
@[simp] theorem ii_int_5 : isiK i_int 5 = .ok (.bl false) := rfl
@[simp] theorem ii_int_6 : isiK i_int 6 = .ok (.bl false) := rfl
@[simp] theorem ii_int_10 : isiK i_int (0 + 10) = .ok (.bl false) := rfl
abbrev c_DEEDS : List PV := [PV.str "P", PV.str "Q", PV.str "R", PV.str "S", PV.str "T"]
structure Ct (P : Program) (w : World) (K : PySem.W.Frag) (mg : Str → Option Value) (base : Bs) (cA : Nat → Addr) (ts : List Addr) : Prop where
  tb : base.tabs = ts
  c_World : mg "World" = some (.ref ((pg cA).cA 0))
  l_World : ClsF K ((pg cA).cA 0)
  n_World : NewAt P w K mg base "World" ((pg cA).cA 0) ((pg cA).fN 0)
  f_leads : FldOk K (pg cA) "leads" a_leads
  f_says : FldOk K (pg cA) "says" a_says
  i_bool : IsiOk K (pg cA) (.type "bool") i_bool
  i_int : IsiOk K (pg cA) (.type "int") i_int
  e_DEEDS : ∃ a, mg "DEEDS" = some (.ref a) ∧ TopT K a [V.str "P", V.str "Q", V.str "R", V.str "S", V.str "T"]
  e_MOST_STATES : ∃ t, mg "MOST_STATES" = some (.int (3000) t)
  e_SETTINGS : ∃ t, mg "SETTINGS" = some (.int (16) t)
  z_all : mg "all" = none
  z_bool : mg "bool" = none
  z_int : mg "int" = none
  z_isinstance : mg "isinstance" = none
  z_len : mg "len" = none
  z_list : mg "list" = none
  z_range : mg "range" = none
theorem sc_listed_world : FnScope ["settings", "leads", "own_settings", "own_leads", "deed"] ["settings", "leads"] (defScope s_listed_world) := ⟨rfl, rfl, rfl, by decide +kernel, rfl, by decide +kernel, by decide +kernel⟩
-- slots: 0 settings, 1 leads, 2 own_settings, 3 own_leads, 4 deed
def b_listed_world_1 (g : Nat → List PV → Rx PV) : DS :=
  (sDputN 3 (dVar 4) (dCallN bList (dCons (d2 fDGetB (dSee 1) (dSee 4)) dNil)))
def d_listed_world (g : Nat → List PV → Rx PV) : DS :=
  (sSeq (sExpr (dLift (dCall (g 1) (dCons (dSee 0) dNil))))
  (sSeq (sExpr (dLift (dCall (g 2) (dCons (dSee 1) (dCons (dCall bLen (dCons (dSee 0) dNil)) dNil)))))
  (sSeq (sSet 2 (dOfN (dCallN bList (dCons (dSee 0) dNil))))
  (sSeq (sOwnD 3)
  (sSeq (sFor (dItemsT (dC (.tup c_DEEDS))) (gSet 4)
  (b_listed_world_1 g))
  (sFrzD 3 (sSeal (sRet (dNew 0 (dCons (dLam 13 [2]) (dCons (dLam 14 [3]) dNil)))))))))))
theorem sc_check_settings : FnScope ["settings"] ["settings"] (defScope s_check_settings) := ⟨rfl, rfl, rfl, by decide +kernel, rfl, by decide +kernel, by decide +kernel⟩
-- slots: 0 settings
def d_check_settings (g : Nat → List PV → Rx PV) : DS :=
  (sSeq (sIf (dOrT (dTr (d2 fEq (dCall bLen (dCons (dSee 0) dNil)) (dC (.int 0)))) (dTr (d2 fGt (dCall bLen (dCons (dSee 0) dNil)) (dC (.int (3000))))))
  sNever
  sNext)
  (sIf (dNotT (dTr (dCall (g 3) (dCons (dSee 0) (dCons (dC (.int (16))) dNil)))))
  sNever
  sNext))
theorem sc_check_leads : FnScope ["leads", "states", "deed"] ["leads", "states"] (defScope s_check_leads) := ⟨rfl, rfl, rfl, by decide +kernel, rfl, by decide +kernel, by decide +kernel⟩
-- slots: 0 leads, 1 states, 2 deed
def b_check_leads_1 (g : Nat → List PV → Rx PV) : DS :=
  (sSeq (sIf (dTr (d2 fNe (dCall bLen (dCons (d2 fDGetB (dSee 0) (dSee 2)) dNil)) (dSee 1)))
  sNever
  sNext)
  (sIf (dNotT (dTr (dCall (g 3) (dCons (d2 fDGetB (dSee 0) (dSee 2)) (dCons (dVar 1) dNil)))))
  sNever
  sNext))
def b_check_leads_2 (g : Nat → List PV → Rx PV) : DS :=
  (sIf (dTr (d2 (fInD true) (dSee 2) (dSee 0)))
  sNever
  sNext)
def d_check_leads (g : Nat → List PV → Rx PV) : DS :=
  (sSeq (sFor (dItemsT (dC (.tup c_DEEDS))) (gSet 2)
  (b_check_leads_2 g))
  (sSeq (sIf (dTr (d2 fGt (dCall bLenD (dCons (dSee 0) dNil)) (dC (.int 5))))
  sNever
  sNext)
  (sFor (dItemsT (dC (.tup c_DEEDS))) (gSet 2)
  (b_check_leads_1 g))))
theorem sc_all_below : FnScope ["numbers", "bound"] ["numbers", "bound"] (defScope s_all_below) := ⟨rfl, rfl, rfl, by decide +kernel, rfl, by decide +kernel, by decide +kernel⟩
-- slots: 0 numbers, 1 bound
def d_all_below (g : Nat → List PV → Rx PV) : DS :=
  (sRet (dCall bAll (dCons (dOfN (dComp ["number"] [("bound", 1)] (dItems (dSee 0)) (gSet 0) dYes (dChain fLe fLt (dC (.int 0)) (dSee 0) (dSee 1)))) dNil)))
theorem sc_l_cell_at : FnScope ["_law_script", "_law_k"] ["_law_script", "_law_k"] (defScope s_l_cell_at) := ⟨rfl, rfl, rfl, by decide +kernel, rfl, by decide +kernel, by decide +kernel⟩
-- slots: 0 _law_script, 1 _law_k
def d_l_cell_at (g : Nat → List PV → Rx PV) : DS :=
  (sSeq (sIf (dTr (d2 fLt (dSee 1) (dCall bLen (dCons (dSee 0) dNil))))
  (sRet (d2 fIx (dSee 0) (dSee 1)))
  sNext)
  (sRet (dC (.int 0))))
theorem sc_l_whole : FnScope ["_law_found"] ["_law_found"] (defScope s_l_whole) := ⟨rfl, rfl, rfl, by decide +kernel, rfl, by decide +kernel, by decide +kernel⟩
-- slots: 0 _law_found
def d_l_whole (g : Nat → List PV → Rx PV) : DS :=
  (sRet (dAndV (dIsi i_int (dSee 0)) (dNotV (dIsi i_bool (dSee 0)))))
theorem sc_l_mixed : FnScope ["_law_cell", "_law_k", "_law_number_here"] ["_law_cell", "_law_k"] (defScope s_l_mixed) := ⟨rfl, rfl, rfl, by decide +kernel, rfl, by decide +kernel, by decide +kernel⟩
-- slots: 0 _law_cell, 1 _law_k, 2 _law_number_here
def d_l_mixed (g : Nat → List PV → Rx PV) : DS :=
  (sSeq (sSet 2 (d2 fMod (d2 fMul (d2 fAdd (d2 fAdd (d2 fMod (dSee 0) (dC (.int 2147483647))) (d2 fMul (dC (.int 7919)) (dSee 1))) (dC (.int 1))) (dC (.int 48271))) (dC (.int 2147483647))))
  (sRet (d2 fMod (d2 fMul (dSee 2) (d2 fAdd (d2 fDiv (dSee 2) (dC (.int 1009))) (dC (.int 69621)))) (dC (.int 2147483647)))))
theorem sc_l_number : FnScope ["_law_found", "_law_due"] ["_law_found", "_law_due"] (defScope s_l_number) := ⟨rfl, rfl, rfl, by decide +kernel, rfl, by decide +kernel, by decide +kernel⟩
-- slots: 0 _law_found, 1 _law_due
def d_l_number (g : Nat → List PV → Rx PV) : DS :=
  (sRet (dAndV (dCall (g 5) (dCons (dVar 0) dNil)) (d2 fEq (dSee 0) (dSee 1))))
theorem sc_l_endless : FnScope ["_law_script", "_law_says", "_law_leads", "_law_products", "_law_sums", "_law_world", "_law_cell", "_law_state", "_law_k", "_law_due"] ["_law_script"] (defScope s_l_endless) := ⟨rfl, rfl, rfl, by decide +kernel, rfl, by decide +kernel, by decide +kernel⟩
-- slots: 0 _law_script, 1 _law_says, 2 _law_leads, 3 _law_products, 4 _law_sums, 5 _law_world, 6 _law_cell, 7 _law_state, 8 _law_k, 9 _law_due
def b_l_endless_1 (g : Nat → List PV → Rx PV) : DS :=
  (sSeq (sSet 9 (d2 fAdd (d2 fMul (d2 fDiv (dSee 7) (dC (.int 16))) (d2 fIx (dSee 3) (dSee 8))) (d2 fIx (dSee 4) (dSee 8))))
  (sIf (dNotT (dTr (dCall (g 7) (dCons (dMeth q_led g (dVar 5) (dCons (d2 fIx (dC (.str "PQRST")) (dSee 8)) (dCons (dVar 7) dNil))) (dCons (dVar 9) dNil)))))
  (sRet (dC (.bl false)))
  sNext))
def b_l_endless_2 (g : Nat → List PV → Rx PV) : DS :=
  (sSeq (sSet 7 (d2 fSub (d2 fMod (dSee 6) (d2 fMul (dC (.int 2)) (d2 fPow (dC (.int 10)) (dC (.int 40))))) (d2 fPow (dC (.int 10)) (dC (.int 40)))))
  (sSeq (sIf (dNotT (dTr (dCall (g 7) (dCons (dMeth q_setting g (dVar 5) (dCons (dVar 7) dNil)) (dCons (d2 fMod (dSee 7) (dC (.int 16))) dNil)))))
  (sRet (dC (.bl false)))
  sNext)
  (sFor (dRng1 (dCons (dC (.int 5)) dNil)) (gSet 8)
  (b_l_endless_1 g))))
def d_l_endless (g : Nat → List PV → Rx PV) : DS :=
  (sSeq (sSet 3 (dOfN (dComp ["_law_k"] [("_law_script", 0)] (dRng1 (dCons (dC (.int 5)) dNil)) (gSet 0) dYes (d2 fAdd (dC (.int 1)) (d2 fMul (dC (.int 2)) (d2 fMod (d2 fDiv (dCall (g 4) (dCons (dVar 1) (dCons (dC (.int 0)) dNil))) (d2 fAdd (dSee 0) (dC (.int 1)))) (dC (.int 50))))))))
  (sSeq (sSet 4 (dOfN (dComp ["_law_k"] [("_law_script", 0)] (dRng1 (dCons (dC (.int 5)) dNil)) (gSet 0) dYes (d2 fSub (d2 fMod (d2 fDiv (dCall (g 4) (dCons (dVar 1) (dCons (dC (.int 1)) dNil))) (d2 fAdd (dSee 0) (dC (.int 1)))) (d2 fPow (dC (.int 10)) (dC (.int 12)))) (d2 fPow (dC (.int 10)) (dC (.int 11)))))))
  (sSeq (sDef 1 15 [])
  (sSeal (sSeq (sDef 2 16 [4, 3])
  (sSeq (sSet 5 (dNew 0 (dCons (dVar 1) (dCons (dVar 2) dNil))))
  (sSeq (sFor (dItems (dOfN (dComp ["_law_k"] [("_law_script", 0)] (dRng2 (dCons (dC (.int 2)) (dCons (dC (.int 6)) dNil))) (gSet 0) dYes (dCall (g 4) (dCons (dVar 1) (dCons (dVar 0) dNil)))))) (gSet 6)
  (b_l_endless_2 g))
  (sRet (dC (.bl true))))))))))
theorem sc_l_lists : FnScope ["_law_cell", "_law_many", "_law_settings", "_law_leads", "_law_j"] ["_law_cell", "_law_many"] (defScope s_l_lists) := ⟨rfl, rfl, rfl, by decide +kernel, rfl, by decide +kernel, by decide +kernel⟩
-- slots: 0 _law_cell, 1 _law_many, 2 _law_settings, 3 _law_leads, 4 _law_j
def b_l_lists_1 (g : Nat → List PV → Rx PV) : DS :=
  (sDputN 3 (d2 fIx (dC (.str "PQRST")) (dSee 4)) (dComp ["_law_k"] [("_law_many", 1), ("_law_cell", 0), ("_law_j", 4)] (dRng1 (dCons (dVar 1) dNil)) (gSet 0) dYes (d2 fMod (dCall (g 6) (dCons (dVar 2) (dCons (d2 fAdd (d2 fAdd (dC (.int 100)) (d2 fMul (dSee 3) (dSee 1))) (dSee 0)) dNil))) (dSee 1))))
def d_l_lists (g : Nat → List PV → Rx PV) : DS :=
  (sSeq (sSet 2 (dOfN (dComp ["_law_k"] [("_law_cell", 0)] (dRng1 (dCons (dVar 1) dNil)) (gSet 0) dYes (d2 fMod (dCall (g 6) (dCons (dVar 1) (dCons (dVar 0) dNil))) (dC (.int 16))))))
  (sSeq (sOwnD 3)
  (sSeq (sFor (dRng1 (dCons (dC (.int 5)) dNil)) (gSet 4)
  (b_l_lists_1 g))
  (sFrzD 3 (sRetM (mTup (mCons (dLift (dVar 2)) (mCons (mFrz 3) mNil))))))))
theorem sc_law : FnScope ["_law_script", "_law_many", "_law_handed", "_law_moves", "_law_deed", "_law_world", "_law_state", "_law_settings", "_law_leads", "_law_other", "_law_led"] ["_law_script"] (defScope s_law) := ⟨rfl, rfl, rfl, by decide +kernel, rfl, by decide +kernel, by decide +kernel⟩
-- slots: 0 _law_script, 1 _law_many, 2 _law_handed, 3 _law_moves, 4 _law_deed, 5 _law_world, 6 _law_state, 7 _law_settings, 8 _law_leads, 9 _law_other, 10 _law_led
def b_law_1 (g : Nat → List PV → Rx PV) : DS :=
  (sIf (dNotT (dTr (dCall (g 7) (dCons (dMeth q_led g (dVar 5) (dCons (dVar 4) (dCons (dVar 6) dNil))) (dCons (d2 fIx (d2 fDGet (dSee 8) (dSee 4)) (dSee 6)) dNil)))))
  (sRet (dC (.bl false)))
  sNext)
def b_law_2 (g : Nat → List PV → Rx PV) : DS :=
  (sSeq (sIf (dNotT (dTr (dCall (g 7) (dCons (dMeth q_setting g (dVar 5) (dCons (dVar 6) dNil)) (dCons (d2 fIx (dSee 7) (dSee 6)) dNil)))))
  (sRet (dC (.bl false)))
  sNext)
  (sFor (dItemsS (dC (.str "PQRST"))) (gSet 4)
  (b_law_1 g)))
def b_law_3 (g : Nat → List PV → Rx PV) : DS :=
  (sExpr (mClrA 3 (dSee 4)))
def b_law_4 (g : Nat → List PV → Rx PV) : DS :=
  (sDputN 3 (dVar 4) (dCallN bList (dCons (d2 fDGet (dSee 8) (dSee 4)) dNil)))
def d_law (g : Nat → List PV → Rx PV) : DS :=
  (sSeq (sIf (dNotT (dTr (dCall (g 8) (dCons (dVar 0) dNil))))
  (sRet (dC (.bl false)))
  sNext)
  (sSeq (sSet 1 (d2 fAdd (dC (.int 1)) (d2 fMod (dCall (g 4) (dCons (dVar 0) (dCons (dC (.int 6)) dNil))) (dC (.int 12)))))
  (sSeq (sAsg (gTupD 2 (gConsD (gSet 7) (gConsD (gSet 8) gNilD))) (dCall (g 9) (dCons (dCall (g 4) (dCons (dVar 0) (dCons (dC (.int 7)) dNil))) (dCons (dVar 1) dNil))))
  (sSeq (sOwn 2 (dCallN bList (dCons (dSee 7) dNil)))
  (sSeq (sOwnD 3)
  (sSeq (sFor (dItemsS (dC (.str "TSRQP"))) (gSet 4)
  (b_law_4 g))
  (sSeq (sSet 5 (dCall (g 0) (dCons (dSee 2) (dCons (dSee 3) dNil))))
  (sSeq (sIf (dOrT (dTr (d2 fNe (dSee 2) (dSee 7))) (dTr (d2 fNeD (dSee 3) (dSee 8))))
  (sRet (dC (.bl false)))
  sNext)
  (sSeq (sFor (dItemsS (dC (.str "PQRST"))) (gSet 4)
  (b_law_3 g))
  (sSeq (sExpr (mClrD 3))
  (sSeq (sExpr (mApp 2 (dLift (dC (.int 3)))))
  (sSeq (sAsg (gTupD 2 (gConsD (gSet 9) (gConsD (gSet 10) gNilD))) (dCall (g 9) (dCons (dCall (g 4) (dCons (dVar 0) (dCons (dC (.int 8)) dNil))) (dCons (d2 fAdd (dSee 1) (dC (.int 1))) dNil))))
  (sSeq (sExpr (dLift (dCall (g 0) (dCons (dSee 9) (dCons (dSee 10) dNil)))))
  (sSeq (sFor (dRng1 (dCons (dVar 1) dNil)) (gSet 6)
  (b_law_2 g))
  (sRet (dC (.bl true)))))))))))))))))
theorem sc_World_setting : FnScope ["self", "state"] ["self", "state"] (defScope s_World_setting) := ⟨rfl, rfl, rfl, by decide +kernel, rfl, by decide +kernel, by decide +kernel⟩
-- slots: 0 self, 1 state
def d_World_setting (g : Nat → List PV → Rx PV) : DS :=
  (sRet (dCallA tC g a_says (dVar 0) (dCons (dVar 1) dNil)))
theorem sc_World_led : FnScope ["self", "deed", "state"] ["self", "deed", "state"] (defScope s_World_led) := ⟨rfl, rfl, rfl, by decide +kernel, rfl, by decide +kernel, by decide +kernel⟩
-- slots: 0 self, 1 deed, 2 state
def d_World_led (g : Nat → List PV → Rx PV) : DS :=
  (sRet (dCallA tC g a_leads (dVar 0) (dCons (dVar 1) (dCons (dVar 2) dNil))))
theorem sc_listed_world_n1 : NScope ["state", "own_settings"] ["state"] ["own_settings"] n_listed_world_n1.scope := ⟨rfl, rfl, rfl, by decide +kernel, rfl, by decide +kernel, by decide +kernel, by decide +kernel, by decide +kernel⟩
-- slots: 0 state, 1 own_settings
def d_listed_world_n1 (g : Nat → List PV → Rx PV) : DP :=
  (d2 fIx (dSee 1) (dSee 0))
theorem sc_listed_world_n2 : NScope ["deed", "state", "own_leads"] ["deed", "state"] ["own_leads"] n_listed_world_n2.scope := ⟨rfl, rfl, rfl, by decide +kernel, rfl, by decide +kernel, by decide +kernel, by decide +kernel, by decide +kernel⟩
-- slots: 0 deed, 1 state, 2 own_leads
def d_listed_world_n2 (g : Nat → List PV → Rx PV) : DP :=
  (d2 fIx (d2 fDGet (dSee 2) (dSee 0)) (dSee 1))
theorem sc_l_endless_n1 : NScope ["_law_state"] ["_law_state"] [] n_l_endless_n1.scope := ⟨rfl, rfl, rfl, by decide +kernel, rfl, by decide +kernel, by decide +kernel, by decide +kernel, by decide +kernel⟩
-- slots: 0 _law_state
def d_l_endless_n1 (g : Nat → List PV → Rx PV) : DS :=
  (sRet (d2 fMod (dSee 0) (dC (.int 16))))
theorem sc_l_endless_n2 : NScope ["_law_deed", "_law_state", "_law_sums", "_law_products", "_law_k"] ["_law_deed", "_law_state"] ["_law_sums", "_law_products"] n_l_endless_n2.scope := ⟨rfl, rfl, rfl, by decide +kernel, rfl, by decide +kernel, by decide +kernel, by decide +kernel, by decide +kernel⟩
-- slots: 0 _law_deed, 1 _law_state, 2 _law_sums, 3 _law_products, 4 _law_k
def d_l_endless_n2 (g : Nat → List PV → Rx PV) : DS :=
  (sSeq (sSet 4 (d2 fFind (dC (.str "PQRST")) (dVar 0)))
  (sRet (d2 fAdd (d2 fMul (d2 fDiv (dSee 1) (dC (.int 16))) (d2 fIx (dSee 3) (dSee 4))) (d2 fIx (dSee 2) (dSee 4)))))
def gF : Nat → Nat → List PV → Rx PV
  | 0, _, _ => .bad
  | n + 1, 0, ws => runD [true, true] 5 (d_listed_world (gF n)) ws
  | n + 1, 1, ws => runD [true] 1 (d_check_settings (gF n)) ws
  | n + 1, 2, ws => runD [true, false] 3 (d_check_leads (gF n)) ws
  | n + 1, 3, ws => runD [true, false] 2 (d_all_below (gF n)) ws
  | n + 1, 4, ws => runD [false, false] 2 (d_l_cell_at (gF n)) ws
  | n + 1, 5, ws => runD [false] 1 (d_l_whole (gF n)) ws
  | n + 1, 6, ws => runD [false, false] 3 (d_l_mixed (gF n)) ws
  | n + 1, 7, ws => runD [false, false] 2 (d_l_number (gF n)) ws
  | n + 1, 8, ws => runD [false] 10 (d_l_endless (gF n)) ws
  | n + 1, 9, ws => runD [false, false] 5 (d_l_lists (gF n)) ws
  | n + 1, 10, ws => runD [false] 11 (d_law (gF n)) ws
  | n + 1, 11, ws => runD [false, false] 2 (d_World_setting (gF n)) ws
  | n + 1, 12, ws => runD [false, false, false] 3 (d_World_led (gF n)) ws
  | n + 1, 13, ws => runE [false, false] 2 (d_listed_world_n1 (gF n)) ws
  | n + 1, 14, ws => runE [false, false, false] 3 (d_listed_world_n2 (gF n)) ws
  | n + 1, 15, ws => runD [false] 1 (d_l_endless_n1 (gF n)) ws
  | n + 1, 16, ws => runD [false, false, false, false] 5 (d_l_endless_n2 (gF n)) ws
  | _ + 1, _, _ => .bad
theorem g_listed_world (n : Nat) (ws : List PV) : gF (n + 1) 0 ws = runD [true, true] 5 (d_listed_world (gF n)) ws := rfl
theorem g_check_settings (n : Nat) (ws : List PV) : gF (n + 1) 1 ws = runD [true] 1 (d_check_settings (gF n)) ws := rfl
theorem g_check_leads (n : Nat) (ws : List PV) : gF (n + 1) 2 ws = runD [true, false] 3 (d_check_leads (gF n)) ws := rfl
theorem g_all_below (n : Nat) (ws : List PV) : gF (n + 1) 3 ws = runD [true, false] 2 (d_all_below (gF n)) ws := rfl
theorem g_l_cell_at (n : Nat) (ws : List PV) : gF (n + 1) 4 ws = runD [false, false] 2 (d_l_cell_at (gF n)) ws := rfl
theorem g_l_mixed (n : Nat) (ws : List PV) : gF (n + 1) 6 ws = runD [false, false] 3 (d_l_mixed (gF n)) ws := rfl
theorem g_l_number (n : Nat) (ws : List PV) : gF (n + 1) 7 ws = runD [false, false] 2 (d_l_number (gF n)) ws := rfl
theorem g_l_endless (n : Nat) (ws : List PV) : gF (n + 1) 8 ws = runD [false] 10 (d_l_endless (gF n)) ws := rfl
theorem g_l_lists (n : Nat) (ws : List PV) : gF (n + 1) 9 ws = runD [false, false] 5 (d_l_lists (gF n)) ws := rfl
theorem g_law (n : Nat) (ws : List PV) : gF (n + 1) 10 ws = runD [false] 11 (d_law (gF n)) ws := rfl
theorem g_l_endless_n2 (n : Nat) (ws : List PV) : gF (n + 1) 16 ws = runD [false, false, false, false] 5 (d_l_endless_n2 (gF n)) ws := rfl
structure AllF (P : Program) (w : World) (K : PySem.W.Frag) (mg : Str → Option Value) (base : Bs) (cA : Nat → Addr) (n : Nat) : Prop where
  h_listed_world : FnAt P w K mg base CX0 (n + 3) "listed_world" (spG K (pg cA) [true, true] (gF n 0))
  h_check_settings : FnAt P w K mg base CX0 (n + 3) "check_settings" (spG K (pg cA) [true] (gF n 1))
  h_check_leads : FnAt P w K mg base CX0 (n + 3) "check_leads" (spG K (pg cA) [true, false] (gF n 2))
  h_all_below : FnAt P w K mg base CX0 (n + 3) "all_below" (spG K (pg cA) [true, false] (gF n 3))
  h__law_cell_at : FnAt P w K mg base CX0 (n + 3) "_law_cell_at" (spG K (pg cA) [false, false] (gF n 4))
  h__law_whole : FnAt P w K mg base CX0 (n + 3) "_law_whole" (spG K (pg cA) [false] (gF n 5))
  h__law_mixed : FnAt P w K mg base CX0 (n + 3) "_law_mixed" (spG K (pg cA) [false, false] (gF n 6))
  h__law_number : FnAt P w K mg base CX0 (n + 3) "_law_number" (spG K (pg cA) [false, false] (gF n 7))
  h__law_endless : FnAt P w K mg base CX0 (n + 3) "_law_endless" (spG K (pg cA) [false] (gF n 8))
  h__law_lists : FnAt P w K mg base CX0 (n + 3) "_law_lists" (spG K (pg cA) [false, false] (gF n 9))
  h_law : FnAt P w K mg base CX0 (n + 3) "law" (spG K (pg cA) [false] (gF n 10))
  cl : ClAll P w K mg base (pg cA) (n + 3) tC (gF n)
  m_led : MtOk P w K mg base (pg cA) (n + 3) "led" [false, false] q_led (gF n)
  m_setting : MtOk P w K mg base (pg cA) (n + 3) "setting" [false] q_setting (gF n)
theorem b_listed_world {P : Program} {w : World} {K : PySem.W.Frag} {mg : Str → Option Value} {base : Bs} {cA : Nat → Addr} {ts : List Addr} {n : Nat} (C : Ct P w K mg base cA ts) (I : AllF P w K mg base cA n) {f c Pt : Addr} {A : Around} {outer : List Env} {s : Shared} {H : Hp} {E : XK} (hr : Room (n + 3) (A.deeper (PyProof.Rows.envOfC "listed_world" (defScope s_listed_world) s.heap.objs.size f (.ref c)))) (mk : MkX (cxOf CX0 P w K mg base ["settings", "leads", "own_settings", "own_leads", "deed"] "listed_world" (defScope s_listed_world) f (.ref c) A outer s H E).nox c Pt) :
    JSs (cxOf CX0 P w K mg base ["settings", "leads", "own_settings", "own_leads", "deed"] "listed_world" (defScope s_listed_world) f (.ref c) A outer s H E).nox (pg cA) (defBody s_listed_world) (d_listed_world (gF n)) := by
  obtain ⟨_, g_DEEDS, t_DEEDS⟩ := C.e_DEEDS
  unfold d_listed_world
  exact (ss_cons (s_expr (m_of (p_fn I.h_check_settings hr rfl (a_consB (b_var 0) a_nil))))
  (ss_cons (s_expr (m_of (p_fn I.h_check_leads hr rfl (a_consB (b_var 1) (a_cons (p_callB call_len cb_len rfl C.z_len PySem.boot_len (a_consB (b_var 0) a_nil)) a_nil)))))
  (ss_cons (s_set (i := 2) sc_listed_world.nd rfl (Or.inr rfl) (p_of_n (n_list (x := "list") rfl C.z_list (a_consB (b_var 0) a_nil))))
  (ss_cons (s_ownD (i := 3) sc_listed_world.nd rfl (Or.inr rfl))
  (ss_cons (s_for PassesOwn.never rfl (i_topT (ws := c_DEEDS)  t_DEEDS rfl g_DEEDS (fun _ _ => ⟨_, _, rfl, rfl, ⟨_, _, rfl, rfl, ⟨_, _, rfl, rfl, ⟨_, _, rfl, rfl, ⟨_, _, rfl, rfl, rfl⟩⟩⟩⟩⟩)) (g_name (i := 4) sc_listed_world.nd rfl (Or.inl rfl))
  (ss_one (s_dputN 3 (hu_of hr) (p_var 4) (n_list (x := "list") rfl C.z_list (a_consB (b_dgetB (hu_of hr) (b_var 1) (b_var 4) (fun _ _ => rfl)) a_nil)) rfl)))
  (ss_frzD 3 (ss_seal ["own_leads", "own_settings"]
  (ss_one (s_ret (p_new (k := n + 1) C.n_World hr rfl (a_cons (p_lam 13 rfl ⟨mk.code, mk.hd, mk.tab⟩ (takes_mk (js := [2]) rfl rfl rfl)) (a_cons (p_lam 14 rfl ⟨mk.code, mk.hd, mk.tab⟩ (takes_mk (js := [3]) rfl rfl rfl)) a_nil)) rfl))))))))))
theorem b_check_settings {P : Program} {w : World} {K : PySem.W.Frag} {mg : Str → Option Value} {base : Bs} {cA : Nat → Addr} {ts : List Addr} {n : Nat} (C : Ct P w K mg base cA ts) (I : AllF P w K mg base cA n) {f : Addr} {cdv : Value} {A : Around} {outer : List Env} {s : Shared} {H : Hp} {E : XK} (hr : Room (n + 3) (A.deeper (PyProof.Rows.envOfC "check_settings" (defScope s_check_settings) s.heap.objs.size f cdv))) :
    JSs (cxOf CX0 P w K mg base ["settings"] "check_settings" (defScope s_check_settings) f cdv A outer s H E).nox (pg cA) (defBody s_check_settings) (d_check_settings (gF n)) := by
  obtain ⟨_, g_MOST_STATES⟩ := C.e_MOST_STATES
  obtain ⟨_, g_SETTINGS⟩ := C.e_SETTINGS
  unfold d_check_settings
  exact (ss_cons (s_if (t_w (w_or (t_eq hr (b_of (p_callB call_len cb_len rfl C.z_len PySem.boot_len (a_consB (b_var 0) a_nil))) (b_of p_int)) (w_or1 (t_gt (b_of (p_callB call_len cb_len rfl C.z_len PySem.boot_len (a_consB (b_var 0) a_nil))) (b_of (p_topI rfl g_MOST_STATES))))))
  (ss_one s_never)
  ss_nil)
  (ss_one (s_if (t_not (t_val (p_fn I.h_all_below hr rfl (a_consB (b_var 0) (a_cons (p_topI rfl g_SETTINGS) a_nil)))))
  (ss_one s_never)
  ss_nil)))
theorem b_check_leads {P : Program} {w : World} {K : PySem.W.Frag} {mg : Str → Option Value} {base : Bs} {cA : Nat → Addr} {ts : List Addr} {n : Nat} (C : Ct P w K mg base cA ts) (I : AllF P w K mg base cA n) {f : Addr} {cdv : Value} {A : Around} {outer : List Env} {s : Shared} {H : Hp} {E : XK} (hr : Room (n + 3) (A.deeper (PyProof.Rows.envOfC "check_leads" (defScope s_check_leads) s.heap.objs.size f cdv))) :
    JSs (cxOf CX0 P w K mg base ["leads", "states", "deed"] "check_leads" (defScope s_check_leads) f cdv A outer s H E).nox (pg cA) (defBody s_check_leads) (d_check_leads (gF n)) := by
  obtain ⟨_, g_DEEDS, t_DEEDS⟩ := C.e_DEEDS
  unfold d_check_leads
  exact (ss_cons (s_for PassesOwn.never rfl (i_topT (ws := c_DEEDS)  t_DEEDS rfl g_DEEDS (fun _ _ => ⟨_, _, rfl, rfl, ⟨_, _, rfl, rfl, ⟨_, _, rfl, rfl, ⟨_, _, rfl, rfl, ⟨_, _, rfl, rfl, rfl⟩⟩⟩⟩⟩)) (g_name (i := 2) sc_check_leads.nd rfl (Or.inl rfl))
  (ss_one (s_if (t_notInD (hu_of hr) (b_var 2) (b_var 0) rfl)
  (ss_one s_never)
  ss_nil)))
  (ss_cons (s_if (t_gt (b_of (p_callB call_lenD cb_lenD rfl C.z_len PySem.boot_len (a_consB (b_var 0) a_nil))) (b_of (p_lenTop t_DEEDS rfl g_DEEDS rfl C.z_len rfl)))
  (ss_one s_never)
  ss_nil)
  (ss_one (s_for PassesOwn.never rfl (i_topT (ws := c_DEEDS)  t_DEEDS rfl g_DEEDS (fun _ _ => ⟨_, _, rfl, rfl, ⟨_, _, rfl, rfl, ⟨_, _, rfl, rfl, ⟨_, _, rfl, rfl, ⟨_, _, rfl, rfl, rfl⟩⟩⟩⟩⟩)) (g_name (i := 2) sc_check_leads.nd rfl (Or.inl rfl))
  (ss_cons (s_if (t_ne hr (b_of (p_callB call_len cb_len rfl C.z_len PySem.boot_len (a_consB (b_dgetB (hu_of hr) (b_var 0) (b_var 2) (fun _ _ => rfl)) a_nil))) (b_var 1))
  (ss_one s_never)
  ss_nil)
  (ss_one (s_if (t_not (t_val (p_fn I.h_all_below hr rfl (a_consB (b_dgetB (hu_of hr) (b_var 0) (b_var 2) (fun _ _ => rfl)) (a_cons (p_var 1) a_nil)))))
  (ss_one s_never)
  ss_nil)))))))
theorem b_all_below {P : Program} {w : World} {K : PySem.W.Frag} {mg : Str → Option Value} {base : Bs} {cA : Nat → Addr} {ts : List Addr} {n : Nat} (C : Ct P w K mg base cA ts) (I : AllF P w K mg base cA n) {f : Addr} {cdv : Value} {A : Around} {outer : List Env} {s : Shared} {H : Hp} {E : XK} (hr : Room (n + 3) (A.deeper (PyProof.Rows.envOfC "all_below" (defScope s_all_below) s.heap.objs.size f cdv))) :
    JSs (cxOf CX0 P w K mg base ["numbers", "bound"] "all_below" (defScope s_all_below) f cdv A outer s H E).nox (pg cA) (defBody s_all_below) (d_all_below (gF n)) := by
  unfold d_all_below
  exact (ss_one (s_ret (p_callB (call_allB rfl) cb_all rfl C.z_all boot_all (a_consB (b_of (p_of_n (n_comp (own := ["number"]) (caps := [("bound", 1)]) ⟨rfl, by decide +kernel, by decide +kernel, ⟨⟨rfl, rfl, Or.inl rfl⟩, True.intro⟩, rfl⟩ rfl (s_list (b_var 0)) (fun _ _ _ _ => (g_name (i := 0) (show (["number", "bound"] : List Str).Nodup by decide +kernel) rfl (Or.inl rfl))) (fun _ _ _ _ => ts_nil) (fun _ _ _ _ => (p_chain op_le op_lt (oi_le _ _) (oi_lt _ _) (b_of p_int) (b_var 0) (b_var 1))) gk_set))) a_nil))))
theorem b_l_cell_at {P : Program} {w : World} {K : PySem.W.Frag} {mg : Str → Option Value} {base : Bs} {cA : Nat → Addr} {ts : List Addr} {n : Nat} (C : Ct P w K mg base cA ts) (I : AllF P w K mg base cA n) {f : Addr} {cdv : Value} {A : Around} {outer : List Env} {s : Shared} {H : Hp} {E : XK} (hr : Room (n + 3) (A.deeper (PyProof.Rows.envOfC "_law_cell_at" (defScope s_l_cell_at) s.heap.objs.size f cdv))) :
    JSs (cxOf CX0 P w K mg base ["_law_script", "_law_k"] "_law_cell_at" (defScope s_l_cell_at) f cdv A outer s H E).nox (pg cA) (defBody s_l_cell_at) (d_l_cell_at (gF n)) := by
  unfold d_l_cell_at
  exact (ss_cons (s_if (t_lt (b_var 1) (b_of (p_callB call_len cb_len rfl C.z_len PySem.boot_len (a_consB (b_var 0) a_nil))))
  (ss_one (s_ret (p_at (b_var 0) (b_var 1) (fun _ _ => rfl))))
  ss_nil)
  (ss_one (s_ret p_int)))
theorem b_l_whole {P : Program} {w : World} {K : PySem.W.Frag} {mg : Str → Option Value} {base : Bs} {cA : Nat → Addr} {ts : List Addr} {n : Nat} (C : Ct P w K mg base cA ts) (I : AllF P w K mg base cA n) {f : Addr} {cdv : Value} {A : Around} {outer : List Env} {s : Shared} {H : Hp} {E : XK} (hr : Room (n + 3) (A.deeper (PyProof.Rows.envOfC "_law_whole" (defScope s_l_whole) s.heap.objs.size f cdv))) :
    JSs (cxOf CX0 P w K mg base ["_law_found"] "_law_whole" (defScope s_l_whole) f cdv A outer s H E).nox (pg cA) (defBody s_l_whole) (d_l_whole (gF n)) := by
  unfold d_l_whole
  exact (ss_one (s_ret (p_andV (p_isi rfl C.z_isinstance C.i_int ty_only (b_var 0) (pe_type rfl C.z_int boot_int)) (p_one (p_notV (p_isi rfl C.z_isinstance C.i_bool ty_only (b_var 0) (pe_type rfl C.z_bool boot_bool)))))))
theorem b_l_mixed {P : Program} {w : World} {K : PySem.W.Frag} {mg : Str → Option Value} {base : Bs} {cA : Nat → Addr} {ts : List Addr} {n : Nat} (C : Ct P w K mg base cA ts) (I : AllF P w K mg base cA n) {f : Addr} {cdv : Value} {A : Around} {outer : List Env} {s : Shared} {H : Hp} {E : XK} (hr : Room (n + 3) (A.deeper (PyProof.Rows.envOfC "_law_mixed" (defScope s_l_mixed) s.heap.objs.size f cdv))) :
    JSs (cxOf CX0 P w K mg base ["_law_cell", "_law_k", "_law_number_here"] "_law_mixed" (defScope s_l_mixed) f cdv A outer s H E).nox (pg cA) (defBody s_l_mixed) (d_l_mixed (gF n)) := by
  unfold d_l_mixed
  exact (ss_cons (s_set (i := 2) sc_l_mixed.nd rfl (Or.inl rfl) (p_mod (b_of (p_mul (b_of (p_add (b_of (p_add (b_of (p_mod (b_var 0) (b_of p_int))) (b_of (p_mul (b_of p_int) (b_var 1))))) (b_of p_int))) (b_of p_int))) (b_of p_int)))
  (ss_one (s_ret (p_mod (b_of (p_mul (b_var 2) (b_of (p_add (b_of (p_div (b_var 2) (b_of p_int))) (b_of p_int))))) (b_of p_int)))))
theorem b_l_number {P : Program} {w : World} {K : PySem.W.Frag} {mg : Str → Option Value} {base : Bs} {cA : Nat → Addr} {ts : List Addr} {n : Nat} (C : Ct P w K mg base cA ts) (I : AllF P w K mg base cA n) {f : Addr} {cdv : Value} {A : Around} {outer : List Env} {s : Shared} {H : Hp} {E : XK} (hr : Room (n + 3) (A.deeper (PyProof.Rows.envOfC "_law_number" (defScope s_l_number) s.heap.objs.size f cdv))) :
    JSs (cxOf CX0 P w K mg base ["_law_found", "_law_due"] "_law_number" (defScope s_l_number) f cdv A outer s H E).nox (pg cA) (defBody s_l_number) (d_l_number (gF n)) := by
  unfold d_l_number
  exact (ss_one (s_ret (p_andV (p_fn I.h__law_whole hr rfl (a_cons (p_var 0) a_nil)) (p_one (p_eq hr (b_var 0) (b_var 1))))))
theorem b_l_endless {P : Program} {w : World} {K : PySem.W.Frag} {mg : Str → Option Value} {base : Bs} {cA : Nat → Addr} {ts : List Addr} {n : Nat} (C : Ct P w K mg base cA ts) (I : AllF P w K mg base cA n) {f c Pt : Addr} {A : Around} {outer : List Env} {s : Shared} {H : Hp} {E : XK} (hr : Room (n + 3) (A.deeper (PyProof.Rows.envOfC "_law_endless" (defScope s_l_endless) s.heap.objs.size f (.ref c)))) (mk : MkX (cxOf CX0 P w K mg base ["_law_script", "_law_says", "_law_leads", "_law_products", "_law_sums", "_law_world", "_law_cell", "_law_state", "_law_k", "_law_due"] "_law_endless" (defScope s_l_endless) f (.ref c) A outer s H E).nox c Pt) :
    JSs (cxOf CX0 P w K mg base ["_law_script", "_law_says", "_law_leads", "_law_products", "_law_sums", "_law_world", "_law_cell", "_law_state", "_law_k", "_law_due"] "_law_endless" (defScope s_l_endless) f (.ref c) A outer s H E).nox (pg cA) (defBody s_l_endless) (d_l_endless (gF n)) := by
  unfold d_l_endless
  exact (ss_cons (s_set (i := 3) sc_l_endless.nd rfl (Or.inr rfl) (p_of_n (n_comp (own := ["_law_k"]) (caps := [("_law_script", 0)]) ⟨rfl, by decide +kernel, by decide +kernel, ⟨⟨rfl, rfl, Or.inl rfl⟩, True.intro⟩, rfl⟩ rfl (s_of_i (i_rng1 rfl C.z_range (a_cons p_int a_nil))) (fun _ _ _ _ => (g_name (i := 0) (show (["_law_k", "_law_script"] : List Str).Nodup by decide +kernel) rfl (Or.inl rfl))) (fun _ _ _ _ => ts_nil) (fun _ _ _ _ => (p_add (b_of p_int) (b_of (p_mul (b_of p_int) (b_of (p_mod (b_of (p_div (b_of (p_fn I.h__law_cell_at hr rfl (a_cons (p_var 1) (a_cons p_int a_nil)))) (b_of (p_add (b_var 0) (b_of p_int))))) (b_of p_int))))))) gk_set)))
  (ss_cons (s_set (i := 4) sc_l_endless.nd rfl (Or.inr rfl) (p_of_n (n_comp (own := ["_law_k"]) (caps := [("_law_script", 0)]) ⟨rfl, by decide +kernel, by decide +kernel, ⟨⟨rfl, rfl, Or.inl rfl⟩, True.intro⟩, rfl⟩ rfl (s_of_i (i_rng1 rfl C.z_range (a_cons p_int a_nil))) (fun _ _ _ _ => (g_name (i := 0) (show (["_law_k", "_law_script"] : List Str).Nodup by decide +kernel) rfl (Or.inl rfl))) (fun _ _ _ _ => ts_nil) (fun _ _ _ _ => (p_sub (b_of (p_mod (b_of (p_div (b_of (p_fn I.h__law_cell_at hr rfl (a_cons (p_var 1) (a_cons p_int a_nil)))) (b_of (p_add (b_var 0) (b_of p_int))))) (b_of (p_pow (b_of p_int) (b_of p_int))))) (b_of (p_pow (b_of p_int) (b_of p_int))))) gk_set)))
  (ss_cons (s_def (i := 1) 15 rfl ⟨mk.code, mk.hd, mk.tab⟩ (takes_mk (js := []) rfl rfl rfl) sc_l_endless.nd rfl (Or.inl rfl))
  (ss_seal ["_law_products", "_law_sums"]
  (ss_cons (s_def (i := 2) 16 rfl ⟨mk.code, mk.hd, mk.tab⟩ (takes_mk (js := [4, 3]) rfl rfl rfl) sc_l_endless.nd rfl (Or.inl rfl))
  (ss_cons (s_set (i := 5) sc_l_endless.nd rfl (Or.inl rfl) (p_new (k := n + 1) C.n_World hr rfl (a_cons (p_var 1) (a_cons (p_var 2) a_nil)) rfl))
  (ss_cons (s_for PassesOwn.never rfl (DN.i_list (p_of_n (n_comp (own := ["_law_k"]) (caps := [("_law_script", 0)]) ⟨rfl, by decide +kernel, by decide +kernel, ⟨⟨rfl, rfl, Or.inl rfl⟩, True.intro⟩, rfl⟩ rfl (s_of_i (i_rng2 rfl C.z_range (a_cons p_int (a_cons p_int a_nil)))) (fun _ _ _ _ => (g_name (i := 0) (show (["_law_k", "_law_script"] : List Str).Nodup by decide +kernel) rfl (Or.inl rfl))) (fun _ _ _ _ => ts_nil) (fun _ _ _ _ => (p_fn I.h__law_cell_at hr rfl (a_cons (p_var 1) (a_cons (p_var 0) a_nil)))) gk_set))) (g_name (i := 6) sc_l_endless.nd rfl (Or.inl rfl))
  (ss_cons (s_set (i := 7) sc_l_endless.nd rfl (Or.inl rfl) (p_sub (b_of (p_mod (b_var 6) (b_of (p_mul (b_of p_int) (b_of (p_pow (b_of p_int) (b_of p_int))))))) (b_of (p_pow (b_of p_int) (b_of p_int)))))
  (ss_cons (s_if (t_not (t_val (p_fn I.h__law_number hr rfl (a_cons (p_meth I.m_setting hr (p_var 5) (a_cons (p_var 7) a_nil)) (a_cons (p_mod (b_var 7) (b_of p_int)) a_nil)))))
  (ss_one (s_ret p_bl))
  ss_nil)
  (ss_one (s_for PassesOwn.never rfl (i_rng1 rfl C.z_range (a_cons p_int a_nil)) (g_name (i := 8) sc_l_endless.nd rfl (Or.inl rfl))
  (ss_cons (s_set (i := 9) sc_l_endless.nd rfl (Or.inl rfl) (p_add (b_of (p_mul (b_of (p_div (b_var 7) (b_of p_int))) (b_of (p_at (b_var 3) (b_var 8) (fun _ _ => rfl))))) (b_of (p_at (b_var 4) (b_var 8) (fun _ _ => rfl)))))
  (ss_one (s_if (t_not (t_val (p_fn I.h__law_number hr rfl (a_cons (p_meth I.m_led hr (p_var 5) (a_cons (p_at (b_of p_str) (b_var 8) (fun _ _ => rfl)) (a_cons (p_var 7) a_nil))) (a_cons (p_var 9) a_nil)))))
  (ss_one (s_ret p_bl))
  ss_nil))))))))
  (ss_one (s_ret p_bl)))))))))
theorem b_l_lists {P : Program} {w : World} {K : PySem.W.Frag} {mg : Str → Option Value} {base : Bs} {cA : Nat → Addr} {ts : List Addr} {n : Nat} (C : Ct P w K mg base cA ts) (I : AllF P w K mg base cA n) {f : Addr} {cdv : Value} {A : Around} {outer : List Env} {s : Shared} {H : Hp} {E : XK} (hr : Room (n + 3) (A.deeper (PyProof.Rows.envOfC "_law_lists" (defScope s_l_lists) s.heap.objs.size f cdv))) :
    JSs (cxOf CX0 P w K mg base ["_law_cell", "_law_many", "_law_settings", "_law_leads", "_law_j"] "_law_lists" (defScope s_l_lists) f cdv A outer s H E).nox (pg cA) (defBody s_l_lists) (d_l_lists (gF n)) := by
  unfold d_l_lists
  exact (ss_cons (s_setC (i := 2) sc_l_lists.nd rfl (Or.inl rfl) (own := ["_law_k"]) (caps := [("_law_cell", 0)]) ⟨rfl, by decide +kernel, by decide +kernel, ⟨⟨rfl, rfl, Or.inl rfl⟩, True.intro⟩, rfl⟩ rfl (s_of_i (i_rng1 rfl C.z_range (a_cons (p_var 1) a_nil))) (fun _ _ _ _ => (g_name (i := 0) (show (["_law_k", "_law_cell"] : List Str).Nodup by decide +kernel) rfl (Or.inl rfl))) (fun _ _ _ _ => ts_nil) (fun _ _ _ _ => (p_mod (b_of (p_fn I.h__law_mixed hr rfl (a_cons (p_var 1) (a_cons (p_var 0) a_nil)))) (b_of p_int))) gk_set)
  (ss_cons (s_ownD (i := 3) sc_l_lists.nd rfl (Or.inl rfl))
  (ss_cons (s_for PassesOwn.never rfl (i_rng1 rfl C.z_range (a_cons p_int a_nil)) (g_name (i := 4) sc_l_lists.nd rfl (Or.inr rfl))
  (ss_one (s_dputN 3 (hu_of hr) (p_at (b_of p_str) (b_var 4) (fun _ _ => rfl)) (n_comp (own := ["_law_k"]) (caps := [("_law_many", 1), ("_law_cell", 0), ("_law_j", 4)]) ⟨rfl, by decide +kernel, by decide +kernel, ⟨⟨rfl, rfl, Or.inl rfl⟩, ⟨⟨rfl, rfl, Or.inl rfl⟩, ⟨⟨rfl, rfl, Or.inl rfl⟩, True.intro⟩⟩⟩, rfl⟩ rfl (s_of_i (i_rng1 rfl C.z_range (a_cons (p_var 1) a_nil))) (fun _ _ _ _ => (g_name (i := 0) (show (["_law_k", "_law_many", "_law_cell", "_law_j"] : List Str).Nodup by decide +kernel) rfl (Or.inl rfl))) (fun _ _ _ _ => ts_nil) (fun _ _ _ _ => (p_mod (b_of (p_fn I.h__law_mixed hr rfl (a_cons (p_var 2) (a_cons (p_add (b_of (p_add (b_of p_int) (b_of (p_mul (b_var 3) (b_var 1))))) (b_var 0)) a_nil)))) (b_var 1))) gk_set) rfl)))
  (ss_frzD 3 (ss_one (s_retM (m_tup (ma_cons (m_of (p_var 2)) (ma_cons (m_frz 3) ma_nil)))))))))
theorem b_law {P : Program} {w : World} {K : PySem.W.Frag} {mg : Str → Option Value} {base : Bs} {cA : Nat → Addr} {ts : List Addr} {n : Nat} (C : Ct P w K mg base cA ts) (I : AllF P w K mg base cA n) {f : Addr} {cdv : Value} {A : Around} {outer : List Env} {s : Shared} {H : Hp} {E : XK} (hr : Room (n + 3) (A.deeper (PyProof.Rows.envOfC "law" (defScope s_law) s.heap.objs.size f cdv))) :
    JSs (cxOf CX0 P w K mg base ["_law_script", "_law_many", "_law_handed", "_law_moves", "_law_deed", "_law_world", "_law_state", "_law_settings", "_law_leads", "_law_other", "_law_led"] "law" (defScope s_law) f cdv A outer s H E).nox (pg cA) (defBody s_law) (d_law (gF n)) := by
  unfold d_law
  exact (ss_cons (s_if (t_not (t_val (p_fn I.h__law_endless hr rfl (a_cons (p_var 0) a_nil))))
  (ss_one (s_ret p_bl))
  ss_nil)
  (ss_cons (s_set (i := 1) sc_law.nd rfl (Or.inl rfl) (p_add (b_of p_int) (b_of (p_mod (b_of (p_fn I.h__law_cell_at hr rfl (a_cons (p_var 0) (a_cons p_int a_nil)))) (b_of p_int)))))
  (ss_cons (s_asg (p_fn I.h__law_lists hr rfl (a_cons (p_fn I.h__law_cell_at hr rfl (a_cons (p_var 0) (a_cons p_int a_nil))) (a_cons (p_var 1) a_nil))) (g_tup rfl (gs_cons (g_name (i := 7) sc_law.nd rfl (Or.inl rfl)) (gs_cons (g_name (i := 8) sc_law.nd rfl (Or.inl rfl)) gs_nil))))
  (ss_cons (s_own (i := 2) sc_law.nd rfl (Or.inl rfl) (n_list (x := "list") rfl C.z_list (a_consB (b_var 7) a_nil)))
  (ss_cons (s_ownD (i := 3) sc_law.nd rfl (Or.inl rfl))
  (ss_cons (s_for PassesOwn.never rfl (i_str p_str) (g_name (i := 4) sc_law.nd rfl (Or.inl rfl))
  (ss_one (s_dputN 3 (hu_of hr) (p_var 4) (n_list (x := "list") rfl C.z_list (a_consB (b_of (p_dget (hu_of hr) (b_var 8) (b_var 4) (fun _ _ => rfl))) a_nil)) rfl)))
  (ss_cons (s_set (i := 5) sc_law.nd rfl (Or.inl rfl) (p_fn I.h_listed_world hr rfl (a_consB (b_var 2) (a_consB (b_var 3) a_nil))))
  (ss_cons (s_if (t_w (w_or (t_ne hr (b_var 2) (b_var 7)) (w_or1 (t_neD hr (b_var 3) (b_var 8)))))
  (ss_one (s_ret p_bl))
  ss_nil)
  (ss_cons (s_for PassesOwn.never rfl (i_str p_str) (g_name (i := 4) sc_law.nd rfl (Or.inl rfl))
  (ss_one (s_expr (m_clrA 3 (hu_of hr) (b_var 4) (fun _ _ => rfl)))))
  (ss_cons (s_expr (m_clrD 3))
  (ss_cons (s_expr (m_app 2 (m_of p_int)))
  (ss_cons (s_asg (p_fn I.h__law_lists hr rfl (a_cons (p_fn I.h__law_cell_at hr rfl (a_cons (p_var 0) (a_cons p_int a_nil))) (a_cons (p_add (b_var 1) (b_of p_int)) a_nil))) (g_tup rfl (gs_cons (g_name (i := 9) sc_law.nd rfl (Or.inl rfl)) (gs_cons (g_name (i := 10) sc_law.nd rfl (Or.inl rfl)) gs_nil))))
  (ss_cons (s_expr (m_of (p_fn I.h_listed_world hr rfl (a_consB (b_var 9) (a_consB (b_var 10) a_nil)))))
  (ss_cons (s_for PassesOwn.never rfl (i_rng1 rfl C.z_range (a_cons (p_var 1) a_nil)) (g_name (i := 6) sc_law.nd rfl (Or.inl rfl))
  (ss_cons (s_if (t_not (t_val (p_fn I.h__law_number hr rfl (a_cons (p_meth I.m_setting hr (p_var 5) (a_cons (p_var 6) a_nil)) (a_cons (p_at (b_var 7) (b_var 6) (fun _ _ => rfl)) a_nil)))))
  (ss_one (s_ret p_bl))
  ss_nil)
  (ss_one (s_for PassesOwn.never rfl (i_str p_str) (g_name (i := 4) sc_law.nd rfl (Or.inl rfl))
  (ss_one (s_if (t_not (t_val (p_fn I.h__law_number hr rfl (a_cons (p_meth I.m_led hr (p_var 5) (a_cons (p_var 4) (a_cons (p_var 6) a_nil))) (a_cons (p_at (b_of (p_dget (hu_of hr) (b_var 8) (b_var 4) (fun _ _ => rfl))) (b_var 6) (fun _ _ => rfl)) a_nil)))))
  (ss_one (s_ret p_bl))
  ss_nil))))))
  (ss_one (s_ret p_bl))))))))))))))))
theorem b_World_setting {P : Program} {w : World} {K : PySem.W.Frag} {mg : Str → Option Value} {base : Bs} {cA : Nat → Addr} {ts : List Addr} {n : Nat} (C : Ct P w K mg base cA ts) (I : AllF P w K mg base cA n) {f : Addr} {cdv : Value} {A : Around} {outer : List Env} {s : Shared} {H : Hp} {E : XK} (hr : Room (n + 3) (A.deeper (PyProof.Rows.envOfC "World.setting" (defScope s_World_setting) s.heap.objs.size f cdv))) :
    JSs (cxOf CX0 P w K mg base ["self", "state"] "World.setting" (defScope s_World_setting) f cdv A outer s H E).nox (pg cA) (defBody s_World_setting) (d_World_setting (gF n)) := by
  unfold d_World_setting
  exact (ss_one (s_ret (p_callA C.f_says (p_var 0) I.cl hr (a_cons (p_var 1) a_nil))))
theorem b_World_led {P : Program} {w : World} {K : PySem.W.Frag} {mg : Str → Option Value} {base : Bs} {cA : Nat → Addr} {ts : List Addr} {n : Nat} (C : Ct P w K mg base cA ts) (I : AllF P w K mg base cA n) {f : Addr} {cdv : Value} {A : Around} {outer : List Env} {s : Shared} {H : Hp} {E : XK} (hr : Room (n + 3) (A.deeper (PyProof.Rows.envOfC "World.led" (defScope s_World_led) s.heap.objs.size f cdv))) :
    JSs (cxOf CX0 P w K mg base ["self", "deed", "state"] "World.led" (defScope s_World_led) f cdv A outer s H E).nox (pg cA) (defBody s_World_led) (d_World_led (gF n)) := by
  unfold d_World_led
  exact (ss_one (s_ret (p_callA C.f_leads (p_var 0) I.cl hr (a_cons (p_var 1) (a_cons (p_var 2) a_nil)))))
theorem b_listed_world_n1 {P : Program} {w : World} {K : PySem.W.Frag} {mg : Str → Option Value} {base : Bs} {cA : Nat → Addr} {ts : List Addr} {n : Nat} (C : Ct P w K mg base cA ts) (I : AllF P w K mg base cA n) {qual : Str} {cd : Value} {cl : List (Str × Addr)} {f : Addr} {A : Around} {outer : List Env} {s : Shared} {H : Hp} {E : XK} (hr : Room (n + 3) (A.deeper (PySem.W.envX qual n_listed_world_n1.scope s.heap.objs.size f cd cl))) :
    JP (cxN CX0 P w K mg base ["state", "own_settings"] qual n_listed_world_n1.scope f cd cl A outer s H E).nox (pg cA) (nstE n_listed_world_n1) (d_listed_world_n1 (gF n)) := by
  unfold d_listed_world_n1
  exact (p_at (b_var 1) (b_var 0) (fun _ _ => rfl))
theorem b_listed_world_n2 {P : Program} {w : World} {K : PySem.W.Frag} {mg : Str → Option Value} {base : Bs} {cA : Nat → Addr} {ts : List Addr} {n : Nat} (C : Ct P w K mg base cA ts) (I : AllF P w K mg base cA n) {qual : Str} {cd : Value} {cl : List (Str × Addr)} {f : Addr} {A : Around} {outer : List Env} {s : Shared} {H : Hp} {E : XK} (hr : Room (n + 3) (A.deeper (PySem.W.envX qual n_listed_world_n2.scope s.heap.objs.size f cd cl))) :
    JP (cxN CX0 P w K mg base ["deed", "state", "own_leads"] qual n_listed_world_n2.scope f cd cl A outer s H E).nox (pg cA) (nstE n_listed_world_n2) (d_listed_world_n2 (gF n)) := by
  unfold d_listed_world_n2
  exact (p_at (b_of (p_dget (hu_of hr) (b_var 2) (b_var 0) (fun _ _ => rfl))) (b_var 1) (fun _ _ => rfl))
theorem b_l_endless_n1 {P : Program} {w : World} {K : PySem.W.Frag} {mg : Str → Option Value} {base : Bs} {cA : Nat → Addr} {ts : List Addr} {n : Nat} (C : Ct P w K mg base cA ts) (I : AllF P w K mg base cA n) {qual : Str} {cd : Value} {cl : List (Str × Addr)} {f : Addr} {A : Around} {outer : List Env} {s : Shared} {H : Hp} {E : XK} (hr : Room (n + 3) (A.deeper (PySem.W.envX qual n_l_endless_n1.scope s.heap.objs.size f cd cl))) :
    JSs (cxN CX0 P w K mg base ["_law_state"] qual n_l_endless_n1.scope f cd cl A outer s H E).nox (pg cA) (nstB n_l_endless_n1) (d_l_endless_n1 (gF n)) := by
  unfold d_l_endless_n1
  exact (ss_one (s_ret (p_mod (b_var 0) (b_of p_int))))
theorem b_l_endless_n2 {P : Program} {w : World} {K : PySem.W.Frag} {mg : Str → Option Value} {base : Bs} {cA : Nat → Addr} {ts : List Addr} {n : Nat} (C : Ct P w K mg base cA ts) (I : AllF P w K mg base cA n) {qual : Str} {cd : Value} {cl : List (Str × Addr)} {f : Addr} {A : Around} {outer : List Env} {s : Shared} {H : Hp} {E : XK} (hr : Room (n + 3) (A.deeper (PySem.W.envX qual n_l_endless_n2.scope s.heap.objs.size f cd cl))) :
    JSs (cxN CX0 P w K mg base ["_law_deed", "_law_state", "_law_sums", "_law_products", "_law_k"] qual n_l_endless_n2.scope f cd cl A outer s H E).nox (pg cA) (nstB n_l_endless_n2) (d_l_endless_n2 (gF n)) := by
  unfold d_l_endless_n2
  exact (ss_cons (s_set (i := 4) sc_l_endless_n2.nd rfl (Or.inl rfl) (p_find p_str (p_var 0)))
  (ss_one (s_ret (p_add (b_of (p_mul (b_of (p_div (b_var 1) (b_of p_int))) (b_of (p_at (b_var 3) (b_var 4) (fun _ _ => rfl))))) (b_of (p_at (b_var 2) (b_var 4) (fun _ _ => rfl)))))))
structure Fs (K : PySem.W.Frag) (mg : Str → Option Value) (cA : Nat → Addr) (ts : List Addr) : Prop where
  F_listed_world : ∃ f fd c P, DefF K mg "listed_world" s_listed_world ["settings", "leads"] f fd ∧ FunT K fd c P ts
  F_check_settings : ∃ f fd, DefF K mg "check_settings" s_check_settings ["settings"] f fd
  F_check_leads : ∃ f fd, DefF K mg "check_leads" s_check_leads ["leads", "states"] f fd
  F_all_below : ∃ f fd, DefF K mg "all_below" s_all_below ["numbers", "bound"] f fd
  F_l_cell_at : ∃ f fd, DefF K mg "_law_cell_at" s_l_cell_at ["_law_script", "_law_k"] f fd
  F_l_whole : ∃ f fd, DefF K mg "_law_whole" s_l_whole ["_law_found"] f fd
  F_l_mixed : ∃ f fd, DefF K mg "_law_mixed" s_l_mixed ["_law_cell", "_law_k"] f fd
  F_l_number : ∃ f fd, DefF K mg "_law_number" s_l_number ["_law_found", "_law_due"] f fd
  F_l_endless : ∃ f fd c P, DefF K mg "_law_endless" s_l_endless ["_law_script"] f fd ∧ FunT K fd c P ts
  F_l_lists : ∃ f fd, DefF K mg "_law_lists" s_l_lists ["_law_cell", "_law_many"] f fd
  F_law : ∃ f fd, DefF K mg "law" s_law ["_law_script"] f fd
  F_World_setting : ∃ f fd, Fun K "setting" "World.setting" s_World_setting f fd ∧ Binds K fd ["self", "state"] [] ∧ Meth K ((pg cA).cA 0) "setting" f
  F_World_led : ∃ f fd, Fun K "led" "World.led" s_World_led f fd ∧ Binds K fd ["self", "deed", "state"] [] ∧ Meth K ((pg cA).cA 0) "led" f
theorem all_fn {P : Program} {w : World} {K : PySem.W.Frag} {mg : Str → Option Value} {base : Bs} {cA : Nat → Addr} {ts : List Addr} (C : Ct P w K mg base cA ts) (F : Fs K mg cA ts) : ∀ n, AllF P w K mg base cA n
  | 0 => by
    obtain ⟨f_listed_world, fd_listed_world, c_listed_world, p_listed_world, E_listed_world, T_listed_world⟩ := F.F_listed_world
    obtain ⟨f_check_settings, fd_check_settings, E_check_settings⟩ := F.F_check_settings
    obtain ⟨f_check_leads, fd_check_leads, E_check_leads⟩ := F.F_check_leads
    obtain ⟨f_all_below, fd_all_below, E_all_below⟩ := F.F_all_below
    obtain ⟨f_l_cell_at, fd_l_cell_at, E_l_cell_at⟩ := F.F_l_cell_at
    obtain ⟨f_l_whole, fd_l_whole, E_l_whole⟩ := F.F_l_whole
    obtain ⟨f_l_mixed, fd_l_mixed, E_l_mixed⟩ := F.F_l_mixed
    obtain ⟨f_l_number, fd_l_number, E_l_number⟩ := F.F_l_number
    obtain ⟨f_l_endless, fd_l_endless, c_l_endless, p_l_endless, E_l_endless, T_l_endless⟩ := F.F_l_endless
    obtain ⟨f_l_lists, fd_l_lists, E_l_lists⟩ := F.F_l_lists
    obtain ⟨f_law, fd_law, E_law⟩ := F.F_law
    obtain ⟨f_World_setting, fd_World_setting, F_World_setting, B_World_setting, M_World_setting_0⟩ := F.F_World_setting
    obtain ⟨f_World_led, fd_World_led, F_World_led, B_World_led, M_World_led_0⟩ := F.F_World_led
    exact {
      cl := (ca_cons (clo_none fun _ => rfl) (ca_cons (clo_none fun _ => rfl) (ca_cons (clo_none fun _ => rfl) (ca_cons (clo_none fun _ => rfl) ca_nil))))
      h_listed_world := E_listed_world.at (spG_none fun _ => rfl)
      h_check_settings := E_check_settings.at (spG_none fun _ => rfl)
      h_check_leads := E_check_leads.at (spG_none fun _ => rfl)
      h_all_below := E_all_below.at (spG_none fun _ => rfl)
      h__law_cell_at := E_l_cell_at.at (spG_none fun _ => rfl)
      h__law_whole := E_l_whole.at (spG_none fun _ => rfl)
      h__law_mixed := E_l_mixed.at (spG_none fun _ => rfl)
      h__law_number := E_l_number.at (spG_none fun _ => rfl)
      h__law_endless := E_l_endless.at (spG_none fun _ => rfl)
      h__law_lists := E_l_lists.at (spG_none fun _ => rfl)
      h_law := E_law.at (spG_none fun _ => rfl)
      m_led := (mt_cons ⟨C.l_World.cls, _, _, _, M_World_led_0, (spG_none fun _ => rfl), B_World_led⟩ (show ("led" : Str) ∉ fN 0 by decide +kernel) mt_nil)
      m_setting := (mt_cons ⟨C.l_World.cls, _, _, _, M_World_setting_0, (spG_none fun _ => rfl), B_World_setting⟩ (show ("setting" : Str) ∉ fN 0 by decide +kernel) mt_nil)
    }
  | n + 1 => by
    have I := all_fn C F n
    obtain ⟨f_listed_world, fd_listed_world, c_listed_world, p_listed_world, E_listed_world, T_listed_world⟩ := F.F_listed_world
    obtain ⟨f_check_settings, fd_check_settings, E_check_settings⟩ := F.F_check_settings
    obtain ⟨f_check_leads, fd_check_leads, E_check_leads⟩ := F.F_check_leads
    obtain ⟨f_all_below, fd_all_below, E_all_below⟩ := F.F_all_below
    obtain ⟨f_l_cell_at, fd_l_cell_at, E_l_cell_at⟩ := F.F_l_cell_at
    obtain ⟨f_l_whole, fd_l_whole, E_l_whole⟩ := F.F_l_whole
    obtain ⟨f_l_mixed, fd_l_mixed, E_l_mixed⟩ := F.F_l_mixed
    obtain ⟨f_l_number, fd_l_number, E_l_number⟩ := F.F_l_number
    obtain ⟨f_l_endless, fd_l_endless, c_l_endless, p_l_endless, E_l_endless, T_l_endless⟩ := F.F_l_endless
    obtain ⟨f_l_lists, fd_l_lists, E_l_lists⟩ := F.F_l_lists
    obtain ⟨f_law, fd_law, E_law⟩ := F.F_law
    obtain ⟨f_World_setting, fd_World_setting, F_World_setting, B_World_setting, M_World_setting_0⟩ := F.F_World_setting
    obtain ⟨f_World_led, fd_World_led, F_World_led, B_World_led, M_World_led_0⟩ := F.F_World_led
    exact {
      cl := (ca_cons (clo_okE (n := n_listed_world_n1) rfl sc_listed_world_n1 rfl (fun _ _ _ _ _ _ _ us hl => match us, hl with | [_], _ => rfl) fun _ _ _ _ _ _ _ _ _ hr => b_listed_world_n1 C I hr) (ca_cons (clo_okE (n := n_listed_world_n2) rfl sc_listed_world_n2 rfl (fun _ _ _ _ _ _ _ us hl => match us, hl with | [_, _], _ => rfl) fun _ _ _ _ _ _ _ _ _ hr => b_listed_world_n2 C I hr) (ca_cons (clo_ok (n := n_l_endless_n1) rfl sc_l_endless_n1 rfl (fun _ _ _ _ _ _ _ us hl => match us, hl with | [_], _ => rfl) fun _ _ _ _ _ _ _ _ _ hr => b_l_endless_n1 C I hr) (ca_cons (clo_ok (n := n_l_endless_n2) rfl sc_l_endless_n2 rfl (fun _ _ _ _ _ _ _ us hl => match us, hl with | [_, _], _ => rfl) fun _ _ _ _ _ _ _ _ _ hr => b_l_endless_n2 C I hr) ca_nil))))
      h_listed_world := E_listed_world.at ((fn_okT E_listed_world.F (by rw [C.tb]; exact T_listed_world) sc_listed_world rfl fun _ _ _ _ _ hr mk => b_listed_world C I hr mk))
      h_check_settings := E_check_settings.at ((fn_ok E_check_settings.F sc_check_settings rfl fun _ _ _ _ _ _ hr => b_check_settings C I hr))
      h_check_leads := E_check_leads.at ((fn_ok E_check_leads.F sc_check_leads rfl fun _ _ _ _ _ _ hr => b_check_leads C I hr))
      h_all_below := E_all_below.at ((fn_ok E_all_below.F sc_all_below rfl fun _ _ _ _ _ _ hr => b_all_below C I hr))
      h__law_cell_at := E_l_cell_at.at ((fn_ok E_l_cell_at.F sc_l_cell_at rfl fun _ _ _ _ _ _ hr => b_l_cell_at C I hr))
      h__law_whole := E_l_whole.at ((fn_ok E_l_whole.F sc_l_whole rfl fun _ _ _ _ _ _ hr => b_l_whole C I hr))
      h__law_mixed := E_l_mixed.at ((fn_ok E_l_mixed.F sc_l_mixed rfl fun _ _ _ _ _ _ hr => b_l_mixed C I hr))
      h__law_number := E_l_number.at ((fn_ok E_l_number.F sc_l_number rfl fun _ _ _ _ _ _ hr => b_l_number C I hr))
      h__law_endless := E_l_endless.at ((fn_okT E_l_endless.F (by rw [C.tb]; exact T_l_endless) sc_l_endless rfl fun _ _ _ _ _ hr mk => b_l_endless C I hr mk))
      h__law_lists := E_l_lists.at ((fn_ok E_l_lists.F sc_l_lists rfl fun _ _ _ _ _ _ hr => b_l_lists C I hr))
      h_law := E_law.at ((fn_ok E_law.F sc_law rfl fun _ _ _ _ _ _ hr => b_law C I hr))
      m_led := (mt_cons ⟨C.l_World.cls, _, _, _, M_World_led_0, ((fn_ok F_World_led sc_World_led rfl fun _ _ _ _ _ _ hr => b_World_led C I hr)), B_World_led⟩ (show ("led" : Str) ∉ fN 0 by decide +kernel) mt_nil)
      m_setting := (mt_cons ⟨C.l_World.cls, _, _, _, M_World_setting_0, ((fn_ok F_World_setting sc_World_setting rfl fun _ _ _ _ _ _ hr => b_World_setting C I hr)), B_World_setting⟩ (show ("setting" : Str) ∉ fN 0 by decide +kernel) mt_nil)
    }
end M21
end
section
set_option Elab.async false
set_option linter.all false
set_option maxRecDepth 100000
set_option maxHeartbeats 4000000
namespace M21
open PySem L2 DN
/-! ### k21: worlds -/
abbrev lsI (l : List Int) : PV := .lst (l.map PV.int)
theorem for_nx {g : DG} {s : DS} {w : PV} {ws : List PV} {ps ps1 ps2 : PSt} (h1 : g w ps = .ok ps1) (h2 : s ps1 = .nx ps2) : forD g s (w :: ws) ps = forD g s ws ps2 := by rw [forD, h1, ok_st, h2]
theorem rng1_at {d : DP} {ps : PSt} {k : Nat} (h : d ps = .ok (.int (k : Int))) (hk : k ≤ 100000) : dRng1 (dCons d dNil) ps = .ok ((List.range k).map fun (i : Nat) => PV.int (i : Int)) := by
  have e : dCons d dNil ps = .ok [.int (k : Int)] := by
    show (d ps).bind _ = _
    rw [h]; rfl
  unfold dRng1
  rw [e, ok_bind]
  have h : -(2 ^ 62) ≤ (k : Int) ∧ (k : Int) < 2 ^ 62 := by omega
  simp only [h, and_self, if_true, Int.toNat_natCast]
  unfold rngP
  congr 1
  apply List.map_congr_left
  intro i _
  rw [Int.zero_add]
theorem cell_ok (n : Nat) (ns : List Int) (k : Nat) : ∃ z, gF (n + 1) 4 [.lst (ns.map PV.int), .int (k : Int)] = .ok (.int z) := by
  rw [g_l_cell_at, runD_of rfl]
  show ∃ z, fin (d_l_cell_at (gF n) [.v (.lst (ns.map PV.int)), .v (.int (k : Int))]) = .ok (.int z)
  unfold d_l_cell_at
  by_cases h : k < ns.length
  · have hi : atI (ns.map PV.int) (k : Int) = some (PV.int ns[k]) := by
      rw [atI_nat (by rw [List.getElem?_map, List.getElem?_eq_getElem h]; rfl)]
    exact ⟨ns[k], by simp [h, hi]⟩
  · exact ⟨0, by simp [h]⟩
def mx (c k : Int) : Int := ((c % 2147483647 + 7919 * k + 1) * 48271 % 2147483647) * (((c % 2147483647 + 7919 * k + 1) * 48271 % 2147483647) / 1009 + 69621) % 2147483647
theorem mixed_ok (n : Nat) (c k : Int) : gF (n + 1) 6 [.int c, .int k] = .ok (.int (mx c k)) := by
  rw [g_l_mixed, runD_of rfl]
  show fin (d_l_mixed (gF n) [.v (.int c), .v (.int k), .no]) = _
  unfold mx d_l_mixed
  have a1 : ((c % 2147483647 + 7919 * k + 1) * 48271 % 2147483647) < 2147483647 := by omega
  have a2 : 0 ≤ ((c % 2147483647 + 7919 * k + 1) * 48271 % 2147483647) := by omega
  generalize hw : ((c % 2147483647 + 7919 * k + 1) * 48271 % 2147483647) = w at a1 a2
  have b1 : (-18446744073709551616 < w ∧ w < 18446744073709551616) := by omega
  simp [hw, b1]
theorem number_ok (n : Nat) (z : Int) : gF (n + 2) 7 [.int z, .int z] = .ok (.bl true) := by
  rw [g_l_number, runD_of rfl]
  show fin (d_l_number (gF (n + 1)) [.v (.int z), .v (.int z)]) = _
  have e : gF (n + 1) 5 [.int z] = .ok (.bl true) := rfl
  unfold d_l_number
  simp [e]
/-! the endless world -/
def five (f : Nat → Int) : PV := .lst [.int (f 0), .int (f 1), .int (f 2), .int (f 3), .int (f 4)]
def EW (P Q : Nat → Int) : PV := .obj 0 [.clo 15 [], .clo 16 [five Q, five P]]
theorem eset_ok (n : Nat) (P Q : Nat → Int) (x : Int) : callM q_setting (gF (n + 2)) (EW P Q) [.int x] = .ok (.int (x % 16)) := rfl
theorem nat5 {k : Nat} (h : k < 5) : k = 0 ∨ k = 1 ∨ k = 2 ∨ k = 3 ∨ k = 4 := by omega
theorem find_is {d : Str} {k : Nat} (h1 : goodSep d = true) (h2 : findS "PQRST" d = (k : Int)) : fFind (.str "PQRST") (.str d) = .ok (.int (k : Int)) := by
  show (if goodSep d = true then Rx.ok (PV.int (findS "PQRST" d)) else .bad) = _
  rw [if_pos h1, h2]
theorem eled_key (n : Nat) (P Q : Nat → Int) (x : Int) {d : Str} {k : Nat} (hP : ∀ i, -1000 < P i ∧ P i < 1000) (h1 : fFind (.str "PQRST") (.str d) = .ok (.int (k : Int))) (h2 : fIx (five P) (.int (k : Int)) = .ok (.int (P k))) (h3 : fIx (five Q) (.int (k : Int)) = .ok (.int (Q k))) : callM q_led (gF (n + 2)) (EW P Q) [.str d, .int x] = .ok (.int (x / 16 * P k + Q k)) := by
  have b1 : (-18446744073709551616 < P k ∧ P k < 18446744073709551616) := by have := hP k; omega
  have e2 : gF (n + 1) 16 [.str d, .int x, five Q, five P] = .ok (.int (x / 16 * P k + Q k)) := by
    rw [g_l_endless_n2, runD_of rfl]
    show fin (d_l_endless_n2 (gF n) [.v (.str d), .v (.int x), .v (five Q), .v (five P), .no]) = _
    unfold d_l_endless_n2
    simp [h1, h2, h3, b1, -e_ixL]
  have e3 : dCallA tC (gF (n + 1)) a_leads (dVar 0) (dCons (dVar 1) (dCons (dVar 2) dNil)) ([.v (EW P Q), .v (.str d), .v (.int x)] : PSt) = gF (n + 1) 16 [.str d, .int x, five Q, five P] := rfl
  show fin (sRet (dCallA tC (gF (n + 1)) a_leads (dVar 0) (dCons (dVar 1) (dCons (dVar 2) dNil))) [.v (EW P Q), .v (.str d), .v (.int x)]) = _
  rw [e_ret, e3, e2]; rfl
theorem eled_ok (n : Nat) (P Q : Nat → Int) (x : Int) {k : Nat} (hk : k < 5) (hP : ∀ i, -1000 < P i ∧ P i < 1000) {d : PV} (hd : fIx (.str "PQRST") (.int (k : Int)) = .ok d) : callM q_led (gF (n + 2)) (EW P Q) [d, .int x] = .ok (.int (x / 16 * P k + Q k)) := by
  rcases nat5 hk with rfl | rfl | rfl | rfl | rfl
  · have e : d = .str "P" := by cases hd; rfl
    subst e; exact eled_key n P Q x hP (find_is (by decide +kernel) (by decide +kernel)) rfl rfl
  · have e : d = .str "Q" := by cases hd; rfl
    subst e; exact eled_key n P Q x hP (find_is (by decide +kernel) (by decide +kernel)) rfl rfl
  · have e : d = .str "R" := by cases hd; rfl
    subst e; exact eled_key n P Q x hP (find_is (by decide +kernel) (by decide +kernel)) rfl rfl
  · have e : d = .str "S" := by cases hd; rfl
    subst e; exact eled_key n P Q x hP (find_is (by decide +kernel) (by decide +kernel)) rfl rfl
  · have e : d = .str "T" := by cases hd; rfl
    subst e; exact eled_key n P Q x hP (find_is (by decide +kernel) (by decide +kernel)) rfl rfl
theorem ebody (n : Nat) (P Q : Nat → Int) (x : Int) {k : Nat} (hk : k < 5) (hP : ∀ i, -1000 < P i ∧ P i < 1000) (s0 s1 s2 s6 s9 : Sl) : b_l_endless_1 (gF (n + 2)) [s0, s1, s2, .v (five P), .v (five Q), .v (EW P Q), s6, .v (.int x), .v (.int (k : Int)), s9] =
    .nx [s0, s1, s2, .v (five P), .v (five Q), .v (EW P Q), s6, .v (.int x), .v (.int (k : Int)), .v (.int (x / 16 * P k + Q k))] := by
  have b1 : (-18446744073709551616 < P k ∧ P k < 18446744073709551616) := by have := hP k; omega
  have e2 : fIx (five P) (.int (k : Int)) = .ok (.int (P k)) := by rcases nat5 hk with rfl | rfl | rfl | rfl | rfl <;> rfl
  have e3 : fIx (five Q) (.int (k : Int)) = .ok (.int (Q k)) := by rcases nat5 hk with rfl | rfl | rfl | rfl | rfl <;> rfl
  obtain ⟨d, ed⟩ : ∃ d, fIx (.str "PQRST") (.int (k : Int)) = .ok d := by rcases nat5 hk with rfl | rfl | rfl | rfl | rfl <;> exact ⟨_, rfl⟩
  have e4 := eled_ok n P Q x hk hP ed
  have e5 := number_ok n (x / 16 * P k + Q k)
  unfold b_l_endless_1
  simp [e2, e3, ed, e4, e5, b1, -e_ixL]
theorem ecell (n : Nat) (P Q : Nat → Int) (c : Int) (hP : ∀ i, -1000 < P i ∧ P i < 1000) (s0 s1 s2 s7 s8 s9 : Sl) : ∃ t7 t8 t9, b_l_endless_2 (gF (n + 2)) [s0, s1, s2, .v (five P), .v (five Q), .v (EW P Q), .v (.int c), s7, s8, s9] =
    .nx [s0, s1, s2, .v (five P), .v (five Q), .v (EW P Q), .v (.int c), t7, t8, t9] := by
  generalize hx : c % (2 * 10 ^ 40) - 10 ^ 40 = x
  refine ⟨.v (.int x), .v (.int 4), .v (.int (x / 16 * P 4 + Q 4)), ?_⟩
  have a1 : sSet 7 (d2 fSub (d2 fMod (dSee 6) (d2 fMul (dC (.int 2)) (d2 fPow (dC (.int 10)) (dC (.int 40))))) (d2 fPow (dC (.int 10)) (dC (.int 40)))) [s0, s1, s2, .v (five P), .v (five Q), .v (EW P Q), .v (.int c), s7, s8, s9] = .nx [s0, s1, s2, .v (five P), .v (five Q), .v (EW P Q), .v (.int c), .v (.int x), s8, s9] := by
    rw [← hx]
    simp
  have e1 := eset_ok n P Q x
  have e2 := number_ok n (x % 16)
  have a2 : sIf (dNotT (dTr (dCall (gF (n + 2) 7) (dCons (dMeth q_setting (gF (n + 2)) (dVar 5) (dCons (dVar 7) dNil)) (dCons (d2 fMod (dSee 7) (dC (.int 16))) dNil))))) (sRet (dC (.bl false))) sNext [s0, s1, s2, .v (five P), .v (five Q), .v (EW P Q), .v (.int c), .v (.int x), s8, s9] = .nx [s0, s1, s2, .v (five P), .v (five Q), .v (EW P Q), .v (.int c), .v (.int x), s8, s9] := by
    simp [e1, e2]
  have er : dRng1 (dCons (dC (.int 5)) dNil) [s0, s1, s2, .v (five P), .v (five Q), .v (EW P Q), .v (.int c), .v (.int x), s8, s9] = .ok [.int 0, .int 1, .int 2, .int 3, .int 4] := rfl
  have b0 := ebody n P Q x (k := 0) (by decide) hP s0 s1 s2 (.v (.int c)) s9
  have b1 := ebody n P Q x (k := 1) (by decide) hP s0 s1 s2 (.v (.int c)) (.v (.int (x / 16 * P 0 + Q 0)))
  have b2 := ebody n P Q x (k := 2) (by decide) hP s0 s1 s2 (.v (.int c)) (.v (.int (x / 16 * P 1 + Q 1)))
  have b3 := ebody n P Q x (k := 3) (by decide) hP s0 s1 s2 (.v (.int c)) (.v (.int (x / 16 * P 2 + Q 2)))
  have b4 := ebody n P Q x (k := 4) (by decide) hP s0 s1 s2 (.v (.int c)) (.v (.int (x / 16 * P 3 + Q 3)))
  unfold b_l_endless_2
  rw [e_seq, a1, next_nx, e_seq, a2, next_nx, e_for, er, ok_st, for_nx rfl b0, for_nx rfl b1, for_nx rfl b2, for_nx rfl b3, for_nx rfl b4]
  rfl
theorem ecells (n : Nat) (P Q : Nat → Int) (hP : ∀ i, -1000 < P i ∧ P i < 1000) (s0 s1 s2 : Sl) : ∀ (l : List Int) (s6 s7 s8 s9 : Sl), ∃ t6 t7 t8 t9, forD (gSet 6) (b_l_endless_2 (gF (n + 2))) (l.map PV.int) [s0, s1, s2, .v (five P), .v (five Q), .v (EW P Q), s6, s7, s8, s9] = .nx [s0, s1, s2, .v (five P), .v (five Q), .v (EW P Q), t6, t7, t8, t9]
  | [], s6, s7, s8, s9 => ⟨s6, s7, s8, s9, rfl⟩
  | c :: l, s6, s7, s8, s9 => by
    obtain ⟨t7, t8, t9, e⟩ := ecell n P Q c hP s0 s1 s2 s7 s8 s9
    obtain ⟨u6, u7, u8, u9, e'⟩ := ecells n P Q hP s0 s1 s2 l (.v (.int c)) t7 t8 t9
    exact ⟨u6, u7, u8, u9, by rw [List.map_cons, for_nx rfl e]; exact e'⟩
theorem endless_ok (n : Nat) (ns : List Int) : gF (n + 3) 8 [.lst (ns.map PV.int)] = .ok (.bl true) := by
  rw [g_l_endless, runD_of rfl]
  show fin (d_l_endless (gF (n + 2)) [.v (.lst (ns.map PV.int)), .no, .no, .no, .no, .no, .no, .no, .no, .no]) = _
  obtain ⟨z0, c0⟩ := cell_ok (n + 1) ns 0
  obtain ⟨z1, c1⟩ := cell_ok (n + 1) ns 1
  obtain ⟨z2, c2⟩ := cell_ok (n + 1) ns 2
  obtain ⟨z3, c3⟩ := cell_ok (n + 1) ns 3
  obtain ⟨z4, c4⟩ := cell_ok (n + 1) ns 4
  obtain ⟨z5, c5⟩ := cell_ok (n + 1) ns 5
  let P : Nat → Int := fun k => 1 + 2 * (z0 / ((k : Int) + 1) % 50)
  let Q : Nat → Int := fun k => z1 / ((k : Int) + 1) % 10 ^ 12 - 10 ^ 11
  have hP : ∀ i, -1000 < P i ∧ P i < 1000 := fun i => by
    show -1000 < 1 + 2 * (z0 / ((i : Int) + 1) % 50) ∧ 1 + 2 * (z0 / ((i : Int) + 1) % 50) < 1000
    omega
  have hc0 : dComp ["_law_k"] [("_law_script", 0)] (dRng1 (dCons (dC (.int 5)) dNil)) (gSet 0) dYes (d2 fAdd (dC (.int 1)) (d2 fMul (dC (.int 2)) (d2 fMod (d2 fDiv (dCall (gF (n + 2) 4) (dCons (dVar 1) (dCons (dC (.int 0)) dNil))) (d2 fAdd (dSee 0) (dC (.int 1)))) (dC (.int 50))))) [.v (.lst (ns.map PV.int)), .no, .no, .no, .no, .no, .no, .no, .no, .no] = .ok [.int (P 0), .int (P 1), .int (P 2), .int (P 3), .int (P 4)] := by
    have e : dRng1 (dCons (dC (.int 5)) dNil) ([.v (.lst (ns.map PV.int)), .no, .no, .no, .no, .no, .no, .no, .no, .no] : PSt) = .ok ([0, 1, 2, 3, 4].map fun (i : Nat) => PV.int (i : Int)) := rfl
    unfold dComp
    rw [e, ok_bind, if_pos (by decide)]
    refine comp_emb (ps0 := [.v (.lst (ns.map PV.int))]) (fun (i : Nat) => PV.int (i : Int)) (fun _ => true) (fun (i : Nat) => PV.int (P i)) [0, 1, 2, 3, 4] .no fun i hi => ⟨rfl, fun _ => ?_⟩
    have hi : i < 5 := by simp at hi; omega
    have h1 : (0 : Int) < (i : Int) + 1 ∧ (i : Int) + 1 < 1073741824 := by omega
    have c0 : gF (n + 2) 4 [.lst (ns.map PV.int), .int 0] = .ok (.int z0) := c0
    simp [c0, h1, P]
  have hc1 : dComp ["_law_k"] [("_law_script", 0)] (dRng1 (dCons (dC (.int 5)) dNil)) (gSet 0) dYes (d2 fSub (d2 fMod (d2 fDiv (dCall (gF (n + 2) 4) (dCons (dVar 1) (dCons (dC (.int 1)) dNil))) (d2 fAdd (dSee 0) (dC (.int 1)))) (d2 fPow (dC (.int 10)) (dC (.int 12)))) (d2 fPow (dC (.int 10)) (dC (.int 11)))) [.v (.lst (ns.map PV.int)), .no, .no, .v (five P), .no, .no, .no, .no, .no, .no] = .ok [.int (Q 0), .int (Q 1), .int (Q 2), .int (Q 3), .int (Q 4)] := by
    have e : dRng1 (dCons (dC (.int 5)) dNil) ([.v (.lst (ns.map PV.int)), .no, .no, .v (five P), .no, .no, .no, .no, .no, .no] : PSt) = .ok ([0, 1, 2, 3, 4].map fun (i : Nat) => PV.int (i : Int)) := rfl
    unfold dComp
    rw [e, ok_bind, if_pos (by decide)]
    refine comp_emb (ps0 := [.v (.lst (ns.map PV.int))]) (fun (i : Nat) => PV.int (i : Int)) (fun _ => true) (fun (i : Nat) => PV.int (Q i)) [0, 1, 2, 3, 4] .no fun i hi => ⟨rfl, fun _ => ?_⟩
    have hi : i < 5 := by simp at hi; omega
    have h1 : (0 : Int) < (i : Int) + 1 ∧ (i : Int) + 1 < 1073741824 := by omega
    have c1 : gF (n + 2) 4 [.lst (ns.map PV.int), .int 1] = .ok (.int z1) := c1
    simp [c1, h1, Q]
  have hc2 : dComp ["_law_k"] [("_law_script", 0)] (dRng2 (dCons (dC (.int 2)) (dCons (dC (.int 6)) dNil))) (gSet 0) dYes (dCall (gF (n + 2) 4) (dCons (dVar 1) (dCons (dVar 0) dNil))) [.v (.lst (ns.map PV.int)), .v (.clo 15 []), .v (.clo 16 [five Q, five P]), .v (five P), .v (five Q), .v (EW P Q), .no, .no, .no, .no] = .ok ([z2, z3, z4, z5].map PV.int) := by
    have e : dRng2 (dCons (dC (.int 2)) (dCons (dC (.int 6)) dNil)) ([.v (.lst (ns.map PV.int)), .v (.clo 15 []), .v (.clo 16 [five Q, five P]), .v (five P), .v (five Q), .v (EW P Q), .no, .no, .no, .no] : PSt) = .ok [.int 2, .int 3, .int 4, .int 5] := rfl
    unfold dComp
    rw [e, ok_bind, if_pos (by decide)]
    have c2 : gF (n + 2) 4 [.lst (ns.map PV.int), .int 2] = .ok (.int z2) := c2
    have c3 : gF (n + 2) 4 [.lst (ns.map PV.int), .int 3] = .ok (.int z3) := c3
    have c4 : gF (n + 2) 4 [.lst (ns.map PV.int), .int 4] = .ok (.int z4) := c4
    have c5 : gF (n + 2) 4 [.lst (ns.map PV.int), .int 5] = .ok (.int z5) := c5
    have ey : ∀ ps, dYes ps = .ok true := fun _ => rfl
    have ec : capP ["_law_k"] [("_law_script", 0)] ([.v (.lst (ns.map PV.int)), .v (.clo 15 []), .v (.clo 16 [five Q, five P]), .v (five P), .v (five Q), .v (EW P Q), .no, .no, .no, .no] : PSt) = [.no, .v (.lst (ns.map PV.int))] := rfl
    rw [ec]
    simp [compD, c2, c3, c4, c5, ey]
  obtain ⟨t6, t7, t8, t9, ef⟩ := ecells n P Q hP (.v (.lst (ns.map PV.int))) (.v (.clo 15 [])) (.v (.clo 16 [five Q, five P])) [z2, z3, z4, z5] .no .no .no .no
  unfold d_l_endless
  have a1 : sSet 3 (dOfN (dComp ["_law_k"] [("_law_script", 0)] (dRng1 (dCons (dC (.int 5)) dNil)) (gSet 0) dYes (d2 fAdd (dC (.int 1)) (d2 fMul (dC (.int 2)) (d2 fMod (d2 fDiv (dCall (gF (n + 2) 4) (dCons (dVar 1) (dCons (dC (.int 0)) dNil))) (d2 fAdd (dSee 0) (dC (.int 1)))) (dC (.int 50))))))) [.v (.lst (ns.map PV.int)), .no, .no, .no, .no, .no, .no, .no, .no, .no] = .nx [.v (.lst (ns.map PV.int)), .no, .no, .v (five P), .no, .no, .no, .no, .no, .no] := by
    rw [e_set, e_ofN, hc0]; rfl
  have a2 : sSet 4 (dOfN (dComp ["_law_k"] [("_law_script", 0)] (dRng1 (dCons (dC (.int 5)) dNil)) (gSet 0) dYes (d2 fSub (d2 fMod (d2 fDiv (dCall (gF (n + 2) 4) (dCons (dVar 1) (dCons (dC (.int 1)) dNil))) (d2 fAdd (dSee 0) (dC (.int 1)))) (d2 fPow (dC (.int 10)) (dC (.int 12)))) (d2 fPow (dC (.int 10)) (dC (.int 11)))))) [.v (.lst (ns.map PV.int)), .no, .no, .v (five P), .no, .no, .no, .no, .no, .no] = .nx [.v (.lst (ns.map PV.int)), .no, .no, .v (five P), .v (five Q), .no, .no, .no, .no, .no] := by
    rw [e_set, e_ofN, hc1]; rfl
  have ei : dItems (dOfN (dComp ["_law_k"] [("_law_script", 0)] (dRng2 (dCons (dC (.int 2)) (dCons (dC (.int 6)) dNil))) (gSet 0) dYes (dCall (gF (n + 2) 4) (dCons (dVar 1) (dCons (dVar 0) dNil))))) [.v (.lst (ns.map PV.int)), .v (.clo 15 []), .v (.clo 16 [five Q, five P]), .v (five P), .v (five Q), .v (EW P Q), .no, .no, .no, .no] = .ok ([z2, z3, z4, z5].map PV.int) := by
    rw [e_items, e_ofN, hc2]; rfl
  rw [e_seq, a1, next_nx, e_seq, a2, next_nx]
  show fin (sSeal (sSeq (sDef 2 16 [4, 3]) _) [.v (.lst (ns.map PV.int)), .v (.clo 15 []), .no, .v (five P), .v (five Q), .no, .no, .no, .no, .no]) = _
  have a3 : (sSeq (sFor (dItems (dOfN (dComp ["_law_k"] [("_law_script", 0)] (dRng2 (dCons (dC (.int 2)) (dCons (dC (.int 6)) dNil))) (gSet 0) dYes (dCall (gF (n + 2) 4) (dCons (dVar 1) (dCons (dVar 0) dNil)))))) (gSet 6) (b_l_endless_2 (gF (n + 2)))) (sRet (dC (.bl true)))) [.v (.lst (ns.map PV.int)), .v (.clo 15 []), .v (.clo 16 [five Q, five P]), .v (five P), .v (five Q), .v (EW P Q), .no, .no, .no, .no] = .ret (.bl true) := by
    rw [e_seq, e_for, ei, ok_st, ef]; rfl
  have a4 : (sSeq (sDef 2 16 [4, 3]) (sSeq (sSet 5 (dNew 0 (dCons (dVar 1) (dCons (dVar 2) dNil)))) (sSeq (sFor (dItems (dOfN (dComp ["_law_k"] [("_law_script", 0)] (dRng2 (dCons (dC (.int 2)) (dCons (dC (.int 6)) dNil))) (gSet 0) dYes (dCall (gF (n + 2) 4) (dCons (dVar 1) (dCons (dVar 0) dNil)))))) (gSet 6) (b_l_endless_2 (gF (n + 2)))) (sRet (dC (.bl true)))))) [.v (.lst (ns.map PV.int)), .v (.clo 15 []), .no, .v (five P), .v (five Q), .no, .no, .no, .no, .no] = .ret (.bl true) := a3
  unfold sSeal
  rw [a4]
  rfl
end M21
end
section
set_option Elab.async false
set_option linter.all false
set_option maxRecDepth 100000
set_option maxHeartbeats 4000000
namespace M21
open PySem L2 DN
/-! the law's lists -/
def Sx (c : Int) (m : Nat) : List Int := (List.range m).map fun (k : Nat) => mx c k % 16
def Lx (c : Int) (m : Nat) (j : Int) : List Int := (List.range m).map fun (k : Nat) => mx c (100 + j * m + k) % m
def KP : List Key := [.inr "P", .inr "Q", .inr "R", .inr "S", .inr "T"]
def KT : List Key := [.inr "T", .inr "S", .inr "R", .inr "Q", .inr "P"]
def dicP (L : Int → List Int) : PV := .dic KP [lsI (L 0), lsI (L 1), lsI (L 2), lsI (L 3), lsI (L 4)]
def dboT (L : Int → List Int) : PV := .dbo KT [lsI (L 4), lsI (L 3), lsI (L 2), lsI (L 1), lsI (L 0)]
theorem lists_row (n : Nat) (c : Int) (m : Nat) (h1 : 1 ≤ m) (h2 : m ≤ 100) (j : Int) (hj : 0 ≤ j ∧ j < 5) (s2 s3 : Sl) : dComp ["_law_k"] [("_law_many", 1), ("_law_cell", 0), ("_law_j", 4)] (dRng1 (dCons (dVar 1) dNil)) (gSet 0) dYes (d2 fMod (dCall (gF (n + 1) 6) (dCons (dVar 2) (dCons (d2 fAdd (d2 fAdd (dC (.int 100)) (d2 fMul (dSee 3) (dSee 1))) (dSee 0)) dNil))) (dSee 1)) [.v (.int c), .v (.int (m : Int)), s2, s3, .v (.int j)] = .ok ((Lx c m j).map PV.int) := by
  have e : dRng1 (dCons (dVar 1) dNil) ([.v (.int c), .v (.int (m : Int)), s2, s3, .v (.int j)] : PSt) = .ok ((List.range m).map fun (i : Nat) => PV.int (i : Int)) := rng1_at rfl (by omega)
  unfold dComp
  rw [e, ok_bind, if_pos (by rw [List.length_map, List.length_range]; show _ ≤ 16777216; omega)]
  unfold Lx
  rw [List.map_map]
  refine comp_all (ps0 := [.v (.int (m : Int)), .v (.int c), .v (.int j)]) (fun (i : Nat) => PV.int (i : Int)) (fun (k : Nat) => PV.int (mx c (100 + j * m + k) % m)) (List.range m) .no fun k hk => ?_
  have b1 : (-18446744073709551616 < j ∧ j < 18446744073709551616) := by omega
  have h0 : (0 : Int) < (m : Int) := by omega
  have e1 := mixed_ok n c (100 + j * m + k)
  have hm0 : ¬ m = 0 := by omega
  simp [b1, h0, e1, hm0]
theorem lists_ok (n : Nat) (c : Int) (m : Nat) (h1 : 1 ≤ m) (h2 : m ≤ 100) : gF (n + 2) 9 [.int c, .int (m : Int)] = .ok (.tup [lsI (Sx c m), dicP (Lx c m)]) := by
  rw [g_l_lists, runD_of rfl]
  show fin (d_l_lists (gF (n + 1)) [.v (.int c), .v (.int (m : Int)), .no, .no, .no]) = _
  have hc : dComp ["_law_k"] [("_law_cell", 0)] (dRng1 (dCons (dVar 1) dNil)) (gSet 0) dYes (d2 fMod (dCall (gF (n + 1) 6) (dCons (dVar 1) (dCons (dVar 0) dNil))) (dC (.int 16))) [.v (.int c), .v (.int (m : Int)), .no, .no, .no] = .ok ((Sx c m).map PV.int) := by
    have e : dRng1 (dCons (dVar 1) dNil) ([.v (.int c), .v (.int (m : Int)), .no, .no, .no] : PSt) = .ok ((List.range m).map fun (i : Nat) => PV.int (i : Int)) := rng1_at rfl (by omega)
    unfold dComp
    rw [e, ok_bind, if_pos (by rw [List.length_map, List.length_range]; show _ ≤ 16777216; omega)]
    unfold Sx
    rw [List.map_map]
    refine comp_all (ps0 := [.v (.int c)]) (fun (i : Nat) => PV.int (i : Int)) (fun (k : Nat) => PV.int (mx c k % 16)) (List.range m) .no fun k hk => ?_
    have e1 := mixed_ok n c k
    simp [e1]
  have a1 : sSet 2 (dOfN (dComp ["_law_k"] [("_law_cell", 0)] (dRng1 (dCons (dVar 1) dNil)) (gSet 0) dYes (d2 fMod (dCall (gF (n + 1) 6) (dCons (dVar 1) (dCons (dVar 0) dNil))) (dC (.int 16))))) [.v (.int c), .v (.int (m : Int)), .no, .no, .no] = .nx [.v (.int c), .v (.int (m : Int)), .v (lsI (Sx c m)), .no, .no] := by
    rw [e_set, e_ofN, hc]; rfl
  have st : ∀ (j : Int) (hj : 0 ≤ j ∧ j < 5) (d : Str) (hd : fIx (.str "PQRST") (.int j) = .ok (.str d)) (s3 : Sl), b_l_lists_1 (gF (n + 1)) [.v (.int c), .v (.int (m : Int)), .v (lsI (Sx c m)), s3, .v (.int j)] = (Rx.ok (PV.str d)).st fun y => match (some s3), keyP y with
      | some (.own (.dic [] [])), some k => if ([.v (.int c), .v (.int (m : Int)), .v (lsI (Sx c m)), s3, .v (.int j)] : PSt).any isAls = false then .nx ([.v (.int c), .v (.int (m : Int)), .v (lsI (Sx c m)), s3, .v (.int j)].set 3 (.dol [k] [(Lx c m j).map PV.int])) else .bad
      | some (.dol ks xss), some k => if ([.v (.int c), .v (.int (m : Int)), .v (lsI (Sx c m)), s3, .v (.int j)] : PSt).any isAls = false ∧ ks.length = xss.length ∧ ks.length < 999 ∧ inK ks k = false then .nx ([.v (.int c), .v (.int (m : Int)), .v (lsI (Sx c m)), s3, .v (.int j)].set 3 (.dol (ks ++ [k]) (xss ++ [(Lx c m j).map PV.int]))) else .bad
      | _, _ => .bad := by
    intro j hj d hd s3
    unfold b_l_lists_1
    rw [e_dputN, lists_row n c m h1 h2 j hj, ok_st]
    have e2 : d2 fIx (dC (.str "PQRST")) (dSee 4) ([.v (.int c), .v (.int (m : Int)), .v (lsI (Sx c m)), s3, .v (.int j)] : PSt) = .ok (.str d) := hd
    rw [e2]
    rfl
  have b0 := st 0 (by decide) "P" rfl (.own (.dic [] []))
  have b1 := st 1 (by decide) "Q" rfl (.dol [.inr "P"] [(Lx c m 0).map PV.int])
  have b2 := st 2 (by decide) "R" rfl (.dol [.inr "P", .inr "Q"] [(Lx c m 0).map PV.int, (Lx c m 1).map PV.int])
  have b3 := st 3 (by decide) "S" rfl (.dol [.inr "P", .inr "Q", .inr "R"] [(Lx c m 0).map PV.int, (Lx c m 1).map PV.int, (Lx c m 2).map PV.int])
  have b4 := st 4 (by decide) "T" rfl (.dol [.inr "P", .inr "Q", .inr "R", .inr "S"] [(Lx c m 0).map PV.int, (Lx c m 1).map PV.int, (Lx c m 2).map PV.int, (Lx c m 3).map PV.int])
  have er : dRng1 (dCons (dC (.int 5)) dNil) ([.v (.int c), .v (.int (m : Int)), .v (lsI (Sx c m)), .own (.dic [] []), .no] : PSt) = .ok [.int 0, .int 1, .int 2, .int 3, .int 4] := rfl
  have ef : forD (gSet 4) (b_l_lists_1 (gF (n + 1))) [.int 0, .int 1, .int 2, .int 3, .int 4] ([.v (.int c), .v (.int (m : Int)), .v (lsI (Sx c m)), .own (.dic [] []), .no] : PSt) = .nx [.v (.int c), .v (.int (m : Int)), .v (lsI (Sx c m)), .dol KP [(Lx c m 0).map PV.int, (Lx c m 1).map PV.int, (Lx c m 2).map PV.int, (Lx c m 3).map PV.int, (Lx c m 4).map PV.int], .v (.int 4)] := by
    rw [for_nx rfl b0, for_nx rfl b1, for_nx rfl b2, for_nx rfl b3, for_nx rfl b4]
    rfl
  unfold d_l_lists
  rw [e_seq, a1, next_nx]
  have a2 : sOwnD 3 [.v (.int c), .v (.int (m : Int)), .v (lsI (Sx c m)), .no, .no] = .nx [.v (.int c), .v (.int (m : Int)), .v (lsI (Sx c m)), .own (.dic [] []), .no] := rfl
  rw [e_seq, a2, next_nx, e_seq, e_for, er, ok_st, ef, next_nx]
  rfl
/-! a listed world -/
theorem bls_true {α : Type} : ∀ (l : List α), bAll [.lst (l.map fun _ => PV.bl true)] = .ok (.bl true) := fun l => by
  have h : blsOf (l.map fun _ => PV.bl true) = some (l.map fun _ => true) := by
    induction l with
    | nil => rfl
    | cons x l ih => show (blsOf (l.map fun _ => PV.bl true)).map _ = _; rw [ih]; rfl
  show (match blsOf (l.map fun _ => PV.bl true) with | some ns => Rx.ok (PV.bl (ns.all id)) | none => .bad) = _
  rw [h]
  show Rx.ok (PV.bl ((l.map fun _ => true).all id)) = _
  rw [List.all_map]
  have : l.all (id ∘ fun _ => true) = true := List.all_eq_true.mpr fun _ _ => rfl
  rw [this]
theorem below_ok (n : Nat) (l : List Int) (b : Int) (hl : l.length ≤ 1000) (h : ∀ z ∈ l, 0 ≤ z ∧ z < b) : gF (n + 1) 3 [lsI l, .int b] = .ok (.bl true) := by
  rw [g_all_below, runD_of rfl]
  show fin (d_all_below (gF n) [.bor (lsI l), .v (.int b)]) = _
  have hc : dComp ["number"] [("bound", 1)] (dItems (dSee 0)) (gSet 0) dYes (dChain fLe fLt (dC (.int 0)) (dSee 0) (dSee 1)) ([.bor (lsI l), .v (.int b)] : PSt) = .ok (l.map fun _ => PV.bl true) := by
    have e : dItems (dSee 0) ([.bor (lsI l), .v (.int b)] : PSt) = .ok (l.map PV.int) := rfl
    unfold dComp
    rw [e, ok_bind, if_pos (by rw [List.length_map]; show _ ≤ 16777216; omega)]
    refine comp_all (ps0 := [.v (.int b)]) PV.int (fun _ => PV.bl true) l .no fun z hz => ?_
    have h1 := decide_eq_true (h z hz).1
    have h2 := decide_eq_true (h z hz).2
    simp [(h z hz).1, (h z hz).2]
  unfold d_all_below
  rw [e_ret, e_call, e_cons, e_ofN, hc, e_nil, ok_bind, consR_ok, ok_bind, bls_true]
  rfl
theorem settings_ok (n : Nat) (S : List Int) (h0 : 1 ≤ S.length) (hl : S.length ≤ 1000) (h : ∀ z ∈ S, 0 ≤ z ∧ z < 16) : gF (n + 2) 1 [lsI S] = .ok .non := by
  rw [g_check_settings, runD_of rfl]
  show fin (d_check_settings (gF (n + 1)) [.bor (lsI S)]) = _
  have e := below_ok n S 16 hl h
  have hb : (((S.length : Nat) : Int) == 0) = false := by
    have : ((S.length : Nat) : Int) ≠ 0 := by omega
    simpa using this
  have hg : ¬ ((3000 : Int) < ((S.length : Nat) : Int)) := by omega
  have hn : ¬ S = [] := by intro z; subst z; simp at h0
  unfold d_check_settings
  simp [e, hb, hg, hn]
structure Gd (w : PV) (L : Int → List Int) : Prop where
  gp : fDGetB w (.str "P") = .ok (lsI (L 0))
  gq : fDGetB w (.str "Q") = .ok (lsI (L 1))
  gr : fDGetB w (.str "R") = .ok (lsI (L 2))
  gs : fDGetB w (.str "S") = .ok (lsI (L 3))
  gt : fDGetB w (.str "T") = .ok (lsI (L 4))
  ip : fInD true (.str "P") w = .ok (.bl false)
  iq : fInD true (.str "Q") w = .ok (.bl false)
  ir : fInD true (.str "R") w = .ok (.bl false)
  is : fInD true (.str "S") w = .ok (.bl false)
  it : fInD true (.str "T") w = .ok (.bl false)
  ln : bLenD [w] = .ok (.int 5)
theorem gd_dic (L : Int → List Int) : Gd (dicP L) L := ⟨rfl, rfl, rfl, rfl, rfl, rfl, rfl, rfl, rfl, rfl, rfl⟩
theorem gd_dbo (L : Int → List Int) : Gd (dboT L) L := ⟨rfl, rfl, rfl, rfl, rfl, rfl, rfl, rfl, rfl, rfl, rfl⟩
structure Fits (L : Int → List Int) (m : Nat) : Prop where
  ln : ∀ j, (L j).length = m
  bd : ∀ j, ∀ z ∈ L j, 0 ≤ z ∧ z < (m : Int)
theorem leads_ok (n : Nat) {w : PV} {L : Int → List Int} {m : Nat} (g : Gd w L) (f : Fits L m) (hm : m ≤ 1000) : gF (n + 2) 2 [w, .int (m : Int)] = .ok .non := by
  rw [g_check_leads, runD_of rfl]
  show fin (d_check_leads (gF (n + 1)) [.bor w, .v (.int (m : Int)), .no]) = _
  have b : ∀ (d : Str) (_ : fInD true (.str d) w = .ok (.bl false)), b_check_leads_2 (gF (n + 1)) [.bor w, .v (.int (m : Int)), .v (.str d)] = .nx [.bor w, .v (.int (m : Int)), .v (.str d)] := by
    intro d h
    unfold b_check_leads_2
    simp [h]
  have b' : ∀ (d : Str) (j : Int) (_ : fDGetB w (.str d) = .ok (lsI (L j))), b_check_leads_1 (gF (n + 1)) [.bor w, .v (.int (m : Int)), .v (.str d)] = .nx [.bor w, .v (.int (m : Int)), .v (.str d)] := by
    intro d j h
    have e := below_ok n (L j) m (by rw [f.ln]; exact hm) (f.bd j)
    have el : bLen [lsI (L j)] = .ok (.int (m : Int)) := by
      show Rx.ok (PV.int ((L j).map PV.int).length) = _
      rw [List.length_map, f.ln]
    unfold b_check_leads_1
    simp [h, e, el, -e_lenL]
  have i1 : dItemsT (dC (.tup c_DEEDS)) ([.bor w, .v (.int (m : Int)), .no] : PSt) = .ok [.str "P", .str "Q", .str "R", .str "S", .str "T"] := rfl
  have i2 : dItemsT (dC (.tup c_DEEDS)) ([.bor w, .v (.int (m : Int)), .v (.str "T")] : PSt) = .ok [.str "P", .str "Q", .str "R", .str "S", .str "T"] := rfl
  have el : sIf (dTr (d2 fGt (dCall bLenD (dCons (dSee 0) dNil)) (dC (.int 5)))) sNever sNext ([.bor w, .v (.int (m : Int)), .v (.str "T")] : PSt) = .nx [.bor w, .v (.int (m : Int)), .v (.str "T")] := by
    simp [g.ln]
  unfold d_check_leads
  rw [e_seq, e_for, i1, ok_st, for_nx rfl (b _ g.ip), for_nx rfl (b _ g.iq), for_nx rfl (b _ g.ir), for_nx rfl (b _ g.is), for_nx rfl (b _ g.it), e_fornil, next_nx, e_seq, el, next_nx, e_for, i2, ok_st,
    for_nx rfl (b' _ _ g.gp), for_nx rfl (b' _ _ g.gq), for_nx rfl (b' _ _ g.gr), for_nx rfl (b' _ _ g.gs), for_nx rfl (b' _ _ g.gt)]
  rfl
def LW (S : List Int) (L : Int → List Int) : PV := .obj 0 [.clo 13 [lsI S], .clo 14 [dicP L]]
theorem listed_ok (n : Nat) {S : List Int} {w : PV} {L : Int → List Int} {m : Nat} (g : Gd w L) (f : Fits L m) (h0 : 1 ≤ m) (hm : m ≤ 1000) (lS : S.length = m) (bS : ∀ z ∈ S, 0 ≤ z ∧ z < 16) : gF (n + 3) 0 [lsI S, w] = .ok (LW S L) := by
  rw [g_listed_world, runD_of rfl]
  show fin (d_listed_world (gF (n + 2)) [.bor (lsI S), .bor w, .no, .no, .no]) = _
  have e1 := settings_ok n S (by omega) (by omega) bS
  have e2 := leads_ok n g f hm
  have a1 : sExpr (dLift (dCall (gF (n + 2) 1) (dCons (dSee 0) dNil))) ([.bor (lsI S), .bor w, .no, .no, .no] : PSt) = .nx [.bor (lsI S), .bor w, .no, .no, .no] := by
    simp [e1]
  have el : bLen [lsI S] = .ok (.int (m : Int)) := by
    show Rx.ok (PV.int (S.map PV.int).length) = _
    rw [List.length_map, lS]
  have a2 : sExpr (dLift (dCall (gF (n + 2) 2) (dCons (dSee 1) (dCons (dCall bLen (dCons (dSee 0) dNil)) dNil)))) ([.bor (lsI S), .bor w, .no, .no, .no] : PSt) = .nx [.bor (lsI S), .bor w, .no, .no, .no] := by
    simp [e2, el, -e_lenL]
  have a3 : sSet 2 (dOfN (dCallN bList (dCons (dSee 0) dNil))) ([.bor (lsI S), .bor w, .no, .no, .no] : PSt) = .nx [.bor (lsI S), .bor w, .v (lsI S), .no, .no] := rfl
  have a4 : sOwnD 3 ([.bor (lsI S), .bor w, .v (lsI S), .no, .no] : PSt) = .nx [.bor (lsI S), .bor w, .v (lsI S), .own (.dic [] []), .no] := rfl
  have i1 : dItemsT (dC (.tup c_DEEDS)) ([.bor (lsI S), .bor w, .v (lsI S), .own (.dic [] []), .no] : PSt) = .ok [.str "P", .str "Q", .str "R", .str "S", .str "T"] := rfl
  have row : ∀ (s3 : Sl) (d : Str) (j : Int) (_ : fDGetB w (.str d) = .ok (lsI (L j))), dCallN bList (dCons (d2 fDGetB (dSee 1) (dSee 4)) dNil) ([.bor (lsI S), .bor w, .v (lsI S), s3, .v (.str d)] : PSt) = .ok ((L j).map PV.int) := by
    intro s3 d j h
    have e : d2 fDGetB (dSee 1) (dSee 4) ([.bor (lsI S), .bor w, .v (lsI S), s3, .v (.str d)] : PSt) = .ok (lsI (L j)) := h
    rw [e_callN, e_cons, e]
    rfl
  have b0 : b_listed_world_1 (gF (n + 2)) [.bor (lsI S), .bor w, .v (lsI S), .own (.dic [] []), .v (.str "P")] = .nx [.bor (lsI S), .bor w, .v (lsI S), .dol [.inr "P"] [(L 0).map PV.int], .v (.str "P")] := by
    unfold b_listed_world_1
    rw [e_dputN, row _ _ _ g.gp]; rfl
  have b1 : b_listed_world_1 (gF (n + 2)) [.bor (lsI S), .bor w, .v (lsI S), .dol [.inr "P"] [(L 0).map PV.int], .v (.str "Q")] = .nx [.bor (lsI S), .bor w, .v (lsI S), .dol [.inr "P", .inr "Q"] [(L 0).map PV.int, (L 1).map PV.int], .v (.str "Q")] := by
    unfold b_listed_world_1
    rw [e_dputN, row _ _ _ g.gq]; rfl
  have b2 : b_listed_world_1 (gF (n + 2)) [.bor (lsI S), .bor w, .v (lsI S), .dol [.inr "P", .inr "Q"] [(L 0).map PV.int, (L 1).map PV.int], .v (.str "R")] = .nx [.bor (lsI S), .bor w, .v (lsI S), .dol [.inr "P", .inr "Q", .inr "R"] [(L 0).map PV.int, (L 1).map PV.int, (L 2).map PV.int], .v (.str "R")] := by
    unfold b_listed_world_1
    rw [e_dputN, row _ _ _ g.gr]; rfl
  have b3 : b_listed_world_1 (gF (n + 2)) [.bor (lsI S), .bor w, .v (lsI S), .dol [.inr "P", .inr "Q", .inr "R"] [(L 0).map PV.int, (L 1).map PV.int, (L 2).map PV.int], .v (.str "S")] = .nx [.bor (lsI S), .bor w, .v (lsI S), .dol [.inr "P", .inr "Q", .inr "R", .inr "S"] [(L 0).map PV.int, (L 1).map PV.int, (L 2).map PV.int, (L 3).map PV.int], .v (.str "S")] := by
    unfold b_listed_world_1
    rw [e_dputN, row _ _ _ g.gs]; rfl
  have b4 : b_listed_world_1 (gF (n + 2)) [.bor (lsI S), .bor w, .v (lsI S), .dol [.inr "P", .inr "Q", .inr "R", .inr "S"] [(L 0).map PV.int, (L 1).map PV.int, (L 2).map PV.int, (L 3).map PV.int], .v (.str "T")] = .nx [.bor (lsI S), .bor w, .v (lsI S), .dol KP [(L 0).map PV.int, (L 1).map PV.int, (L 2).map PV.int, (L 3).map PV.int, (L 4).map PV.int], .v (.str "T")] := by
    unfold b_listed_world_1
    rw [e_dputN, row _ _ _ g.gt]; rfl
  unfold d_listed_world
  rw [e_seq, a1, next_nx, e_seq, a2, next_nx, e_seq, a3, next_nx, e_seq, a4, next_nx, e_seq, e_for, i1, ok_st, for_nx rfl b0, for_nx rfl b1, for_nx rfl b2, for_nx rfl b3, for_nx rfl b4]
  rfl
theorem ix_ok (l : List Int) {k : Nat} (h : k < l.length) : fIx (lsI l) (.int (k : Int)) = .ok (.int l[k]) := by
  show (match atI (l.map PV.int) (k : Int) with | some w => Rx.ok w | none => .bad) = _
  rw [atI_nat (v := PV.int l[k]) (by rw [List.getElem?_map, List.getElem?_eq_getElem h]; rfl)]
theorem lset_ok (n : Nat) (S : List Int) (L : Int → List Int) {k : Nat} (h : k < S.length) : callM q_setting (gF (n + 2)) (LW S L) [.int (k : Int)] = .ok (.int S[k]) := by
  have e := ix_ok S h
  show fin (sRet (dCallA tC (gF (n + 1)) a_says (dVar 0) (dCons (dVar 1) dNil)) [.v (LW S L), .v (.int (k : Int))]) = _
  have e2 : gF (n + 1) 13 [.int (k : Int), lsI S] = .ok (.int S[k]) := by
    rw [← e]; rfl
  have e3 : dCallA tC (gF (n + 1)) a_says (dVar 0) (dCons (dVar 1) dNil) ([.v (LW S L), .v (.int (k : Int))] : PSt) = gF (n + 1) 13 [.int (k : Int), lsI S] := rfl
  rw [e_ret, e3, e2]; rfl
theorem lled_ok (n : Nat) (S : List Int) (L : Int → List Int) {d : Str} {j : Int} (hd : fDGet (dicP L) (.str d) = .ok (lsI (L j))) {k : Nat} (h : k < (L j).length) : callM q_led (gF (n + 2)) (LW S L) [.str d, .int (k : Int)] = .ok (.int (L j)[k]) := by
  have e := ix_ok (L j) h
  show fin (sRet (dCallA tC (gF (n + 1)) a_leads (dVar 0) (dCons (dVar 1) (dCons (dVar 2) dNil))) [.v (LW S L), .v (.str d), .v (.int (k : Int))]) = _
  have e2 : gF (n + 1) 14 [.str d, .int (k : Int), dicP L] = .ok (.int (L j)[k]) := by
    show d2 fIx (d2 fDGet (dSee 2) (dSee 0)) (dSee 1) ([.v (.str d), .v (.int (k : Int)), .v (dicP L)] : PSt) = _
    have h1 : d2 fDGet (dSee 2) (dSee 0) ([.v (.str d), .v (.int (k : Int)), .v (dicP L)] : PSt) = .ok (lsI (L j)) := hd
    rw [e_2, h1, ← e]; rfl
  have e3 : dCallA tC (gF (n + 1)) a_leads (dVar 0) (dCons (dVar 1) (dCons (dVar 2) dNil)) ([.v (LW S L), .v (.str d), .v (.int (k : Int))] : PSt) = gF (n + 1) 14 [.str d, .int (k : Int), dicP L] := rfl
  rw [e_ret, e3, e2]; rfl
end M21
end
section
set_option Elab.async false
set_option linter.all false
set_option maxRecDepth 100000
set_option maxHeartbeats 4000000
namespace M21
open PySem L2 DN
theorem pd_ints (l : List Int) : pdepths (l.map PV.int) = 0 := by
  induction l with
  | nil => rfl
  | cons x l ih => rw [List.map_cons, pdepths, ih]; rfl
theorem dep_ints (l : List Int) : (lsI l).depth = 1 := by show pdepths (l.map PV.int) + 1 = 1; rw [pd_ints]
theorem pdata_ints (l : List Int) : pdata (l.map PV.int) = true := by
  induction l with
  | nil => rfl
  | cons x l ih => show (true && pdata (l.map PV.int)) = true; rw [ih]; rfl
theorem peq_ints (l : List Int) : peq (lsI l) (lsI l) = some true := peq_self _ (pdata_ints l)
theorem ne_ints (l : List Int) : fNe (lsI l) (lsI l) = .ok (.bl false) := by
  unfold fNe
  rw [if_pos (by rw [dep_ints]; decide), peq_ints]; rfl
theorem neD_ok (L : Int → List Int) : fNeD (dboT L) (dicP L) = .ok (.bl false) := by
  have hd : (PV.lst [lsI (L 4), lsI (L 3), lsI (L 2), lsI (L 1), lsI (L 0)]).depth < 100 := by
    have e : (PV.lst [lsI (L 4), lsI (L 3), lsI (L 2), lsI (L 1), lsI (L 0)]).depth = max (lsI (L 4)).depth (max (lsI (L 3)).depth (max (lsI (L 2)).depth (max (lsI (L 1)).depth (max (lsI (L 0)).depth 0)))) + 1 := rfl
    rw [e, dep_ints, dep_ints, dep_ints, dep_ints, dep_ints]; decide
  have st : ∀ (d : Str) (j : Int) (ks : List Key) (xs : List PV), getP KP [lsI (L 0), lsI (L 1), lsI (L 2), lsI (L 3), lsI (L 4)] (.inr d) = some (lsI (L j)) → hitsP KP [lsI (L 0), lsI (L 1), lsI (L 2), lsI (L 3), lsI (L 4)] ks xs = some true → hitsP KP [lsI (L 0), lsI (L 1), lsI (L 2), lsI (L 3), lsI (L 4)] (.inr d :: ks) (lsI (L j) :: xs) = some true := by
    intro d j ks xs h1 h2
    rw [hitsP, h1]
    show (match peq (lsI (L j)) (lsI (L j)), hitsP KP [lsI (L 0), lsI (L 1), lsI (L 2), lsI (L 3), lsI (L 4)] ks xs with | some e, some r => some (e && r) | _, _ => none) = _
    rw [peq_ints, h2]; rfl
  have hh : hitsP KP [lsI (L 0), lsI (L 1), lsI (L 2), lsI (L 3), lsI (L 4)] KT [lsI (L 4), lsI (L 3), lsI (L 2), lsI (L 1), lsI (L 0)] = some true := st _ _ _ _ rfl (st _ _ _ _ rfl (st _ _ _ _ rfl (st _ _ _ _ rfl (st _ _ _ _ rfl rfl))))
  show (if (PV.lst [lsI (L 4), lsI (L 3), lsI (L 2), lsI (L 1), lsI (L 0)]).depth < 100 then (match hitsP KP [lsI (L 0), lsI (L 1), lsI (L 2), lsI (L 3), lsI (L 4)] KT [lsI (L 4), lsI (L 3), lsI (L 2), lsI (L 1), lsI (L 0)] with | some b => Rx.ok (PV.bl (!(KT.length == KP.length && b))) | none => .bad) else .bad) = _
  rw [if_pos hd, hh]; rfl
theorem Sx_len (c : Int) (m : Nat) : (Sx c m).length = m := by unfold Sx; rw [List.length_map, List.length_range]
theorem Sx_bd (c : Int) (m : Nat) : ∀ z ∈ Sx c m, 0 ≤ z ∧ z < 16 := by
  intro z hz
  obtain ⟨k, _, rfl⟩ := List.mem_map.mp hz
  omega
theorem Lx_fits (c : Int) {m : Nat} (h : 1 ≤ m) : Fits (Lx c m) m := ⟨fun j => by unfold Lx; rw [List.length_map, List.length_range], fun j z hz => by
  obtain ⟨k, _, rfl⟩ := List.mem_map.mp hz
  exact ⟨Int.emod_nonneg _ (by omega), Int.emod_lt_of_pos _ (by omega)⟩⟩
section
variable (n : Nat) (ns : List Int) (m : Nat) (S : List Int) (L : Int → List Int)
theorem lbody1 {d : Str} {j : Int} (hd : fDGet (dicP L) (.str d) = .ok (lsI (L j))) {k : Nat} (h : k < (L j).length) (s0 s1 s2 s3 s7 s9 s10 : Sl) : b_law_1 (gF (n + 2)) [s0, s1, s2, s3, .v (.str d), .v (LW S L), .v (.int (k : Int)), s7, .v (dicP L), s9, s10] = .nx [s0, s1, s2, s3, .v (.str d), .v (LW S L), .v (.int (k : Int)), s7, .v (dicP L), s9, s10] := by
  have e1 := lled_ok n S L hd h
  have e2 := number_ok n ((L j)[k])
  have e3 := ix_ok (L j) h
  unfold b_law_1
  simp [hd, e1, e2, e3, -e_ixL]
theorem lbody2 (f : Fits L m) (lS : S.length = m) {k : Nat} (h : k < m) (s0 s1 s2 s3 s4 s9 s10 : Sl) : b_law_2 (gF (n + 2)) [s0, s1, s2, s3, s4, .v (LW S L), .v (.int (k : Int)), .v (lsI S), .v (dicP L), s9, s10] = .nx [s0, s1, s2, s3, .v (.str "T"), .v (LW S L), .v (.int (k : Int)), .v (lsI S), .v (dicP L), s9, s10] := by
  have hk : k < S.length := by omega
  have e1 := lset_ok n S L hk
  have e2 := number_ok n (S[k])
  have e3 := ix_ok S hk
  have a1 : sIf (dNotT (dTr (dCall (gF (n + 2) 7) (dCons (dMeth q_setting (gF (n + 2)) (dVar 5) (dCons (dVar 6) dNil)) (dCons (d2 fIx (dSee 7) (dSee 6)) dNil))))) (sRet (dC (.bl false))) sNext [s0, s1, s2, s3, s4, .v (LW S L), .v (.int (k : Int)), .v (lsI S), .v (dicP L), s9, s10] = .nx [s0, s1, s2, s3, s4, .v (LW S L), .v (.int (k : Int)), .v (lsI S), .v (dicP L), s9, s10] := by
    simp [e1, e2, e3, -e_ixL]
  have ei : dItemsS (dC (.str "PQRST")) ([s0, s1, s2, s3, s4, .v (LW S L), .v (.int (k : Int)), .v (lsI S), .v (dicP L), s9, s10] : PSt) = .ok [.str "P", .str "Q", .str "R", .str "S", .str "T"] := rfl
  have hj : ∀ j, k < (L j).length := fun j => by rw [f.ln]; exact h
  have b0 := lbody1 n S L (d := "P") (j := 0) rfl (hj 0) s0 s1 s2 s3 (.v (lsI S)) s9 s10
  have b1 := lbody1 n S L (d := "Q") (j := 1) rfl (hj 1) s0 s1 s2 s3 (.v (lsI S)) s9 s10
  have b2 := lbody1 n S L (d := "R") (j := 2) rfl (hj 2) s0 s1 s2 s3 (.v (lsI S)) s9 s10
  have b3 := lbody1 n S L (d := "S") (j := 3) rfl (hj 3) s0 s1 s2 s3 (.v (lsI S)) s9 s10
  have b4 := lbody1 n S L (d := "T") (j := 4) rfl (hj 4) s0 s1 s2 s3 (.v (lsI S)) s9 s10
  unfold b_law_2
  rw [e_seq, a1, next_nx, e_for, ei, ok_st, for_nx rfl b0, for_nx rfl b1, for_nx rfl b2, for_nx rfl b3, for_nx rfl b4]
  rfl
theorem lloop (f : Fits L m) (lS : S.length = m) (s0 s1 s2 s3 s9 s10 : Sl) : ∀ (l : List Nat) (s4 s6 : Sl), (∀ k ∈ l, k < m) → ∃ t4 t6, forD (gSet 6) (b_law_2 (gF (n + 2))) (l.map fun (i : Nat) => PV.int (i : Int)) [s0, s1, s2, s3, s4, .v (LW S L), s6, .v (lsI S), .v (dicP L), s9, s10] = .nx [s0, s1, s2, s3, t4, .v (LW S L), t6, .v (lsI S), .v (dicP L), s9, s10]
  | [], s4, s6, _ => ⟨s4, s6, rfl⟩
  | k :: l, s4, s6, h => by
    have e := lbody2 n m S L f lS (h k List.mem_cons_self) s0 s1 s2 s3 s4 s9 s10
    obtain ⟨t4, t6, e'⟩ := lloop f lS s0 s1 s2 s3 s9 s10 l (.v (.str "T")) (.v (.int (k : Int))) fun i hi => h i (List.mem_cons_of_mem _ hi)
    exact ⟨t4, t6, by rw [List.map_cons, for_nx rfl e]; exact e'⟩
theorem dput4 (s0 s1 s2 s3 s5 s6 s7 s9 s10 : Sl) {d : Str} {j : Int} (hd : fDGet (dicP L) (.str d) = .ok (lsI (L j))) : dCallN bList (dCons (d2 fDGet (dSee 8) (dSee 4)) dNil) ([s0, s1, s2, s3, .v (.str d), s5, s6, s7, .v (dicP L), s9, s10] : PSt) = .ok ((L j).map PV.int) := by
  have e : d2 fDGet (dSee 8) (dSee 4) ([s0, s1, s2, s3, .v (.str d), s5, s6, s7, .v (dicP L), s9, s10] : PSt) = .ok (lsI (L j)) := hd
  rw [e_callN, e_cons, e]
  rfl
theorem moves_ok (s0 s1 s5 s6 s9 s10 : Sl) (w2 w0 w1 : Sl) (xs : List PV) (v0 v1 v7 : PV) : ∃ t4, forD (gSet 4) (b_law_4 (gF (n + 2))) [.str "T", .str "S", .str "R", .str "Q", .str "P"] [.v v0, .v v1, .own (.lst xs), .own (.dic [] []), .no, .no, .no, .v v7, .v (dicP L), .no, .no] =
    .nx [.v v0, .v v1, .own (.lst xs), .dol KT [(L 4).map PV.int, (L 3).map PV.int, (L 2).map PV.int, (L 1).map PV.int, (L 0).map PV.int], t4, .no, .no, .v v7, .v (dicP L), .no, .no] := by
  refine ⟨.v (.str "P"), ?_⟩
  have b0 : b_law_4 (gF (n + 2)) [.v v0, .v v1, .own (.lst xs), .own (.dic [] []), .v (.str "T"), .no, .no, .v v7, .v (dicP L), .no, .no] = .nx [.v v0, .v v1, .own (.lst xs), .dol [.inr "T"] [(L 4).map PV.int], .v (.str "T"), .no, .no, .v v7, .v (dicP L), .no, .no] := by
    unfold b_law_4
    rw [e_dputN, dput4 L _ _ _ _ _ _ _ _ _ (j := 4) rfl]; rfl
  have b1 : b_law_4 (gF (n + 2)) [.v v0, .v v1, .own (.lst xs), .dol [.inr "T"] [(L 4).map PV.int], .v (.str "S"), .no, .no, .v v7, .v (dicP L), .no, .no] = .nx [.v v0, .v v1, .own (.lst xs), .dol [.inr "T", .inr "S"] [(L 4).map PV.int, (L 3).map PV.int], .v (.str "S"), .no, .no, .v v7, .v (dicP L), .no, .no] := by
    unfold b_law_4
    rw [e_dputN, dput4 L _ _ _ _ _ _ _ _ _ (j := 3) rfl]; rfl
  have b2 : b_law_4 (gF (n + 2)) [.v v0, .v v1, .own (.lst xs), .dol [.inr "T", .inr "S"] [(L 4).map PV.int, (L 3).map PV.int], .v (.str "R"), .no, .no, .v v7, .v (dicP L), .no, .no] = .nx [.v v0, .v v1, .own (.lst xs), .dol [.inr "T", .inr "S", .inr "R"] [(L 4).map PV.int, (L 3).map PV.int, (L 2).map PV.int], .v (.str "R"), .no, .no, .v v7, .v (dicP L), .no, .no] := by
    unfold b_law_4
    rw [e_dputN, dput4 L _ _ _ _ _ _ _ _ _ (j := 2) rfl]; rfl
  have b3 : b_law_4 (gF (n + 2)) [.v v0, .v v1, .own (.lst xs), .dol [.inr "T", .inr "S", .inr "R"] [(L 4).map PV.int, (L 3).map PV.int, (L 2).map PV.int], .v (.str "Q"), .no, .no, .v v7, .v (dicP L), .no, .no] = .nx [.v v0, .v v1, .own (.lst xs), .dol [.inr "T", .inr "S", .inr "R", .inr "Q"] [(L 4).map PV.int, (L 3).map PV.int, (L 2).map PV.int, (L 1).map PV.int], .v (.str "Q"), .no, .no, .v v7, .v (dicP L), .no, .no] := by
    unfold b_law_4
    rw [e_dputN, dput4 L _ _ _ _ _ _ _ _ _ (j := 1) rfl]; rfl
  have b4 : b_law_4 (gF (n + 2)) [.v v0, .v v1, .own (.lst xs), .dol [.inr "T", .inr "S", .inr "R", .inr "Q"] [(L 4).map PV.int, (L 3).map PV.int, (L 2).map PV.int, (L 1).map PV.int], .v (.str "P"), .no, .no, .v v7, .v (dicP L), .no, .no] = .nx [.v v0, .v v1, .own (.lst xs), .dol KT [(L 4).map PV.int, (L 3).map PV.int, (L 2).map PV.int, (L 1).map PV.int, (L 0).map PV.int], .v (.str "P"), .no, .no, .v v7, .v (dicP L), .no, .no] := by
    unfold b_law_4
    rw [e_dputN, dput4 L _ _ _ _ _ _ _ _ _ (j := 0) rfl]; rfl
  rw [for_nx rfl b0, for_nx rfl b1, for_nx rfl b2, for_nx rfl b3, for_nx rfl b4]
  rfl
end
theorem clear_ok (n : Nat) (l0 l1 l2 l3 l4 : List PV) (s0 s1 s2 s4 s5 s6 s7 s8 s9 s10 : Sl) : forD (gSet 4) (b_law_3 (gF n)) [.str "P", .str "Q", .str "R", .str "S", .str "T"] [s0, s1, s2, .dol KT [l4, l3, l2, l1, l0], s4, s5, s6, s7, s8, s9, s10] = .nx [s0, s1, s2, .dol KT [[], [], [], [], []], .v (.str "T"), s5, s6, s7, s8, s9, s10] := by
  have b0 : b_law_3 (gF n) [s0, s1, s2, .dol KT [l4, l3, l2, l1, l0], .v (.str "P"), s5, s6, s7, s8, s9, s10] = .nx [s0, s1, s2, .dol KT [l4, l3, l2, l1, []], .v (.str "P"), s5, s6, s7, s8, s9, s10] := rfl
  have b1 : b_law_3 (gF n) [s0, s1, s2, .dol KT [l4, l3, l2, l1, []], .v (.str "Q"), s5, s6, s7, s8, s9, s10] = .nx [s0, s1, s2, .dol KT [l4, l3, l2, [], []], .v (.str "Q"), s5, s6, s7, s8, s9, s10] := rfl
  have b2 : b_law_3 (gF n) [s0, s1, s2, .dol KT [l4, l3, l2, [], []], .v (.str "R"), s5, s6, s7, s8, s9, s10] = .nx [s0, s1, s2, .dol KT [l4, l3, [], [], []], .v (.str "R"), s5, s6, s7, s8, s9, s10] := rfl
  have b3 : b_law_3 (gF n) [s0, s1, s2, .dol KT [l4, l3, [], [], []], .v (.str "S"), s5, s6, s7, s8, s9, s10] = .nx [s0, s1, s2, .dol KT [l4, [], [], [], []], .v (.str "S"), s5, s6, s7, s8, s9, s10] := rfl
  have b4 : b_law_3 (gF n) [s0, s1, s2, .dol KT [l4, [], [], [], []], .v (.str "T"), s5, s6, s7, s8, s9, s10] = .nx [s0, s1, s2, .dol KT [[], [], [], [], []], .v (.str "T"), s5, s6, s7, s8, s9, s10] := rfl
  rw [for_nx rfl b0, for_nx rfl b1, for_nx rfl b2, for_nx rfl b3, for_nx rfl b4]
  rfl
theorem law_ok (n : Nat) (ns : List Int) : gF (n + 4) 10 [.lst (ns.map PV.int)] = .ok (.bl true) := by
  rw [g_law, runD_of rfl]
  show fin (d_law (gF (n + 3)) [.v (.lst (ns.map PV.int)), .no, .no, .no, .no, .no, .no, .no, .no, .no, .no]) = _
  obtain ⟨z6, c6⟩ := cell_ok (n + 2) ns 6
  obtain ⟨z7, c7⟩ := cell_ok (n + 2) ns 7
  obtain ⟨z8, c8⟩ := cell_ok (n + 2) ns 8
  have c6 : gF (n + 3) 4 [.lst (ns.map PV.int), .int 6] = .ok (.int z6) := c6
  have c7 : gF (n + 3) 4 [.lst (ns.map PV.int), .int 7] = .ok (.int z7) := c7
  have c8 : gF (n + 3) 4 [.lst (ns.map PV.int), .int 8] = .ok (.int z8) := c8
  obtain ⟨m, hm, em⟩ : ∃ m : Nat, (1 ≤ m ∧ m ≤ 12) ∧ 1 + z6 % 12 = (m : Int) := ⟨(1 + z6 % 12).toNat, by omega, by omega⟩
  have e1 := endless_ok n ns
  have l1 := lists_ok (n + 1) z7 m hm.1 (by omega)
  have l2 : gF (n + 3) 9 [.int z8, .int ((m : Int) + 1)] = .ok (.tup [lsI (Sx z8 (m + 1)), dicP (Lx z8 (m + 1))]) := lists_ok (n + 1) z8 (m + 1) (by omega) (by omega)
  have f1 := Lx_fits z7 hm.1
  have f2 := Lx_fits z8 (m := m + 1) (by omega)
  have w1 := listed_ok n (gd_dbo (Lx z7 m)) f1 hm.1 (by omega) (Sx_len z7 m) (Sx_bd z7 m)
  have w2 := listed_ok n (gd_dic (Lx z8 (m + 1))) f2 (by omega) (by omega) (Sx_len z8 (m + 1)) (Sx_bd z8 (m + 1))
  have lS := Sx_len z7 m
  generalize Sx z7 m = S at *
  generalize Lx z7 m = L at *
  generalize Sx z8 (m + 1) = S' at *
  generalize Lx z8 (m + 1) = L' at *
  let s0 : Sl := .v (.lst (ns.map PV.int))
  let sm : Sl := .v (.int (m : Int))
  have a0 : sIf (dNotT (dTr (dCall (gF (n + 3) 8) (dCons (dVar 0) dNil)))) (sRet (dC (.bl false))) sNext [s0, .no, .no, .no, .no, .no, .no, .no, .no, .no, .no] = .nx [s0, .no, .no, .no, .no, .no, .no, .no, .no, .no, .no] := by
    have c : dCall (gF (n + 3) 8) (dCons (dVar 0) dNil) [s0, .no, .no, .no, .no, .no, .no, .no, .no, .no, .no] = .ok (.bl true) := e1
    rw [e_if, e_notT, e_Tr, c]; rfl
  have a1 : sSet 1 (d2 fAdd (dC (.int 1)) (d2 fMod (dCall (gF (n + 3) 4) (dCons (dVar 0) (dCons (dC (.int 6)) dNil))) (dC (.int 12)))) [s0, .no, .no, .no, .no, .no, .no, .no, .no, .no, .no] = .nx [s0, sm, .no, .no, .no, .no, .no, .no, .no, .no, .no] := by
    have c : dCall (gF (n + 3) 4) (dCons (dVar 0) (dCons (dC (.int 6)) dNil)) [s0, .no, .no, .no, .no, .no, .no, .no, .no, .no, .no] = .ok (.int z6) := c6
    rw [e_set, e_2, e_2, c]
    show Rs.nx [s0, .v (.int (1 + z6 % 12)), .no, .no, .no, .no, .no, .no, .no, .no, .no] = _
    rw [em]
  have a2 : sAsg (gTupD 2 (gConsD (gSet 7) (gConsD (gSet 8) gNilD))) (dCall (gF (n + 3) 9) (dCons (dCall (gF (n + 3) 4) (dCons (dVar 0) (dCons (dC (.int 7)) dNil))) (dCons (dVar 1) dNil))) [s0, sm, .no, .no, .no, .no, .no, .no, .no, .no, .no] = .nx [s0, sm, .no, .no, .no, .no, .no, .v (lsI S), .v (dicP L), .no, .no] := by
    have c : dCall (gF (n + 3) 4) (dCons (dVar 0) (dCons (dC (.int 7)) dNil)) [s0, sm, .no, .no, .no, .no, .no, .no, .no, .no, .no] = .ok (.int z7) := c7
    have c2 : dCons (dCall (gF (n + 3) 4) (dCons (dVar 0) (dCons (dC (.int 7)) dNil))) (dCons (dVar 1) dNil) [s0, sm, .no, .no, .no, .no, .no, .no, .no, .no, .no] = .ok [.int z7, .int (m : Int)] := by rw [e_cons, c]; rfl
    rw [e_asg, e_call, c2, ok_bind, l1]; rfl
  have a3 : sOwn 2 (dCallN bList (dCons (dSee 7) dNil)) [s0, sm, .no, .no, .no, .no, .no, .v (lsI S), .v (dicP L), .no, .no] = .nx [s0, sm, .own (.lst (S.map PV.int)), .no, .no, .no, .no, .v (lsI S), .v (dicP L), .no, .no] := rfl
  have a4 : sOwnD 3 [s0, sm, .own (.lst (S.map PV.int)), .no, .no, .no, .no, .v (lsI S), .v (dicP L), .no, .no] = .nx [s0, sm, .own (.lst (S.map PV.int)), .own (.dic [] []), .no, .no, .no, .v (lsI S), .v (dicP L), .no, .no] := rfl
  have i5 : dItemsS (dC (.str "TSRQP")) ([s0, sm, .own (.lst (S.map PV.int)), .own (.dic [] []), .no, .no, .no, .v (lsI S), .v (dicP L), .no, .no] : PSt) = .ok [.str "T", .str "S", .str "R", .str "Q", .str "P"] := rfl
  obtain ⟨t4, a5⟩ := moves_ok (n + 1) L .no .no .no .no .no .no .no .no .no (S.map PV.int) (.lst (ns.map PV.int)) (.int (m : Int)) (lsI S)
  have a6 : sSet 5 (dCall (gF (n + 3) 0) (dCons (dSee 2) (dCons (dSee 3) dNil))) [s0, sm, .own (.lst (S.map PV.int)), .dol KT [(L 4).map PV.int, (L 3).map PV.int, (L 2).map PV.int, (L 1).map PV.int, (L 0).map PV.int], t4, .no, .no, .v (lsI S), .v (dicP L), .no, .no] = .nx [s0, sm, .own (.lst (S.map PV.int)), .dol KT [(L 4).map PV.int, (L 3).map PV.int, (L 2).map PV.int, (L 1).map PV.int, (L 0).map PV.int], t4, .v (LW S L), .no, .v (lsI S), .v (dicP L), .no, .no] := by
    have e : dCons (dSee 2) (dCons (dSee 3) dNil) ([s0, sm, .own (.lst (S.map PV.int)), .dol KT [(L 4).map PV.int, (L 3).map PV.int, (L 2).map PV.int, (L 1).map PV.int, (L 0).map PV.int], t4, .no, .no, .v (lsI S), .v (dicP L), .no, .no] : PSt) = .ok [lsI S, dboT L] := rfl
    rw [e_set, e_call, e, ok_bind, w1]; rfl
  have a7 : sIf (dOrT (dTr (d2 fNe (dSee 2) (dSee 7))) (dTr (d2 fNeD (dSee 3) (dSee 8)))) (sRet (dC (.bl false))) sNext [s0, sm, .own (.lst (S.map PV.int)), .dol KT [(L 4).map PV.int, (L 3).map PV.int, (L 2).map PV.int, (L 1).map PV.int, (L 0).map PV.int], t4, .v (LW S L), .no, .v (lsI S), .v (dicP L), .no, .no] = .nx [s0, sm, .own (.lst (S.map PV.int)), .dol KT [(L 4).map PV.int, (L 3).map PV.int, (L 2).map PV.int, (L 1).map PV.int, (L 0).map PV.int], t4, .v (LW S L), .no, .v (lsI S), .v (dicP L), .no, .no] := by
    have e1 : d2 fNe (dSee 2) (dSee 7) ([s0, sm, .own (.lst (S.map PV.int)), .dol KT [(L 4).map PV.int, (L 3).map PV.int, (L 2).map PV.int, (L 1).map PV.int, (L 0).map PV.int], t4, .v (LW S L), .no, .v (lsI S), .v (dicP L), .no, .no] : PSt) = .ok (.bl false) := ne_ints S
    have e2 : d2 fNeD (dSee 3) (dSee 8) ([s0, sm, .own (.lst (S.map PV.int)), .dol KT [(L 4).map PV.int, (L 3).map PV.int, (L 2).map PV.int, (L 1).map PV.int, (L 0).map PV.int], t4, .v (LW S L), .no, .v (lsI S), .v (dicP L), .no, .no] : PSt) = .ok (.bl false) := neD_ok L
    rw [e_if, e_orT, e_Tr, e1, ok_bind]
    show ifR (orR (Rx.ok false) (dTr (d2 fNeD (dSee 3) (dSee 8))) _) _ _ _ = _
    rw [orR_f, e_Tr, e2, ok_bind]
    rfl
  have i8 : dItemsS (dC (.str "PQRST")) ([s0, sm, .own (.lst (S.map PV.int)), .dol KT [(L 4).map PV.int, (L 3).map PV.int, (L 2).map PV.int, (L 1).map PV.int, (L 0).map PV.int], t4, .v (LW S L), .no, .v (lsI S), .v (dicP L), .no, .no] : PSt) = .ok [.str "P", .str "Q", .str "R", .str "S", .str "T"] := rfl
  have a8 := clear_ok (n + 3) ((L 0).map PV.int) ((L 1).map PV.int) ((L 2).map PV.int) ((L 3).map PV.int) ((L 4).map PV.int) s0 sm (.own (.lst (S.map PV.int))) t4 (.v (LW S L)) .no (.v (lsI S)) (.v (dicP L)) .no .no
  have a9 : sExpr (mClrD 3) [s0, sm, .own (.lst (S.map PV.int)), .dol KT [[], [], [], [], []], .v (.str "T"), .v (LW S L), .no, .v (lsI S), .v (dicP L), .no, .no] = .nx [s0, sm, .own (.lst (S.map PV.int)), .own (.dic [] []), .v (.str "T"), .v (LW S L), .no, .v (lsI S), .v (dicP L), .no, .no] := rfl
  have a10 : sExpr (mApp 2 (dLift (dC (.int 3)))) [s0, sm, .own (.lst (S.map PV.int)), .own (.dic [] []), .v (.str "T"), .v (LW S L), .no, .v (lsI S), .v (dicP L), .no, .no] = .nx [s0, sm, .own (.lst (S.map PV.int ++ [.int 3])), .own (.dic [] []), .v (.str "T"), .v (LW S L), .no, .v (lsI S), .v (dicP L), .no, .no] := by
    have hz : S.length < sizeLine := by show S.length < 16777216; omega
    have hz' : (S.map PV.int).length < sizeLine := by rw [List.length_map]; exact hz
    show ((if (S.map PV.int).length < sizeLine then Rx.ok (PV.non, [s0, sm, .own (.lst (S.map PV.int ++ [.int 3])), .own (.dic [] []), .v (.str "T"), .v (LW S L), .no, .v (lsI S), .v (dicP L), .no, .no]) else .bad) : Rx (PV × PSt)).st _ = _
    rw [if_pos hz']; rfl
  have a11 : sAsg (gTupD 2 (gConsD (gSet 9) (gConsD (gSet 10) gNilD))) (dCall (gF (n + 3) 9) (dCons (dCall (gF (n + 3) 4) (dCons (dVar 0) (dCons (dC (.int 8)) dNil))) (dCons (d2 fAdd (dSee 1) (dC (.int 1))) dNil))) [s0, sm, .own (.lst (S.map PV.int ++ [.int 3])), .own (.dic [] []), .v (.str "T"), .v (LW S L), .no, .v (lsI S), .v (dicP L), .no, .no] = .nx [s0, sm, .own (.lst (S.map PV.int ++ [.int 3])), .own (.dic [] []), .v (.str "T"), .v (LW S L), .no, .v (lsI S), .v (dicP L), .v (lsI S'), .v (dicP L')] := by
    have c : dCall (gF (n + 3) 4) (dCons (dVar 0) (dCons (dC (.int 8)) dNil)) [s0, sm, .own (.lst (S.map PV.int ++ [.int 3])), .own (.dic [] []), .v (.str "T"), .v (LW S L), .no, .v (lsI S), .v (dicP L), .no, .no] = .ok (.int z8) := c8
    have c2 : dCons (dCall (gF (n + 3) 4) (dCons (dVar 0) (dCons (dC (.int 8)) dNil))) (dCons (d2 fAdd (dSee 1) (dC (.int 1))) dNil) [s0, sm, .own (.lst (S.map PV.int ++ [.int 3])), .own (.dic [] []), .v (.str "T"), .v (LW S L), .no, .v (lsI S), .v (dicP L), .no, .no] = .ok [.int z8, .int ((m : Int) + 1)] := by rw [e_cons, c]; rfl
    rw [e_asg, e_call, c2, ok_bind, l2]; rfl
  have a12 : sExpr (dLift (dCall (gF (n + 3) 0) (dCons (dSee 9) (dCons (dSee 10) dNil)))) [s0, sm, .own (.lst (S.map PV.int ++ [.int 3])), .own (.dic [] []), .v (.str "T"), .v (LW S L), .no, .v (lsI S), .v (dicP L), .v (lsI S'), .v (dicP L')] = .nx [s0, sm, .own (.lst (S.map PV.int ++ [.int 3])), .own (.dic [] []), .v (.str "T"), .v (LW S L), .no, .v (lsI S), .v (dicP L), .v (lsI S'), .v (dicP L')] := by
    have c : dCall (gF (n + 3) 0) (dCons (dSee 9) (dCons (dSee 10) dNil)) [s0, sm, .own (.lst (S.map PV.int ++ [.int 3])), .own (.dic [] []), .v (.str "T"), .v (LW S L), .no, .v (lsI S), .v (dicP L), .v (lsI S'), .v (dicP L')] = .ok (LW S' L') := w2
    rw [e_expr, e_lift, c]; rfl
  have er : dRng1 (dCons (dVar 1) dNil) ([s0, sm, .own (.lst (S.map PV.int ++ [.int 3])), .own (.dic [] []), .v (.str "T"), .v (LW S L), .no, .v (lsI S), .v (dicP L), .v (lsI S'), .v (dicP L')] : PSt) = .ok ((List.range m).map fun (i : Nat) => PV.int (i : Int)) := rng1_at rfl (by omega)
  obtain ⟨u4, u6, a13⟩ := lloop (n + 1) m S L f1 lS s0 sm (.own (.lst (S.map PV.int ++ [.int 3]))) (.own (.dic [] [])) (.v (lsI S')) (.v (dicP L')) (List.range m) (.v (.str "T")) .no fun k hk => List.mem_range.mp hk
  unfold d_law
  rw [e_seq, a0, next_nx, e_seq, a1, next_nx, e_seq, a2, next_nx, e_seq, a3, next_nx, e_seq, a4, next_nx, e_seq, e_for, i5, ok_st, a5, next_nx, e_seq, a6, next_nx, e_seq, a7, next_nx, e_seq, e_for, i8, ok_st, a8, next_nx,
    e_seq, a9, next_nx, e_seq, a10, next_nx, e_seq, a11, next_nx, e_seq, a12, next_nx, e_seq, e_for, er, ok_st, a13, next_nx]
  rfl
theorem main (ns : List Int) (_ : ns.length ≤ 63) : gF 220 10 [.lst (ns.map PV.int)] = .ok (.bl true) := law_ok 216 ns
end M21
end
section
set_option Elab.async false
set_option linter.all false
set_option maxRecDepth 100000
set_option maxHeartbeats 4000000
namespace M21
open PySem L2 DN
def cOf (C0 : Addr) : Nat → Addr
  | 0 => C0
  | _ => 0
abbrev si_World : Stmt := inClass (top 7) 0
theorem all_mk {l : PySem.W.OpenLaw} {w : World} {K : PySem.W.Frag} {mg : Str → Option Value} {fa : Addr} {h : Heap} {ts : List Addr} {nDEEDS : Nat} {slDEEDS : Array (Option Value)} {C0 i0 d0 d1 d2 d3 d4 d5 d6 d7 d8 d9 d10 d11 d12 tDEEDS : Addr} {kDEEDS0 kDEEDS1 kDEEDS2 kDEEDS3 kDEEDS4 kMOST_STATES kSETTINGS : Tok} (X : K.In h) (G : h.Ns mainGlobals mg) (hfa : mg "law" = some (.ref fa))
    (a0 : .(ns C0 "World"))
    (c0 : ClsF K C0)
    (e0 : .(fi C0 "__init__" i0))
    (f0 : .(fx i0))
    (I0 : FnF K i0 "__init__" "World.__init__" si_World)
    (n0_0 : .(fo C0 "says"))
    (n0_1 : .(fo C0 "leads"))
    (b0 : .(ns d0 "listed_world"))
    (D0 : FnT K d0 "listed_world" "listed_world" s_listed_world ts)
    (b1 : .(ns d1 "check_settings"))
    (D1 : FnF K d1 "check_settings" "check_settings" s_check_settings)
    (b2 : .(ns d2 "check_leads"))
    (D2 : FnF K d2 "check_leads" "check_leads" s_check_leads)
    (b3 : .(ns d3 "all_below"))
    (D3 : FnF K d3 "all_below" "all_below" s_all_below)
    (b4 : .(ns d4 "_law_cell_at"))
    (D4 : FnF K d4 "_law_cell_at" "_law_cell_at" s_l_cell_at)
    (b5 : .(ns d5 "_law_whole"))
    (D5 : FnF K d5 "_law_whole" "_law_whole" s_l_whole)
    (b6 : .(ns d6 "_law_mixed"))
    (D6 : FnF K d6 "_law_mixed" "_law_mixed" s_l_mixed)
    (b7 : .(ns d7 "_law_number"))
    (D7 : FnF K d7 "_law_number" "_law_number" s_l_number)
    (b8 : .(ns d8 "_law_endless"))
    (D8 : FnT K d8 "_law_endless" "_law_endless" s_l_endless ts)
    (b9 : .(ns d9 "_law_lists"))
    (D9 : FnF K d9 "_law_lists" "_law_lists" s_l_lists)
    (b10 : .(ns d10 "law"))
    (D10 : FnF K d10 "law" "law" s_law)
    (m11_0 : .(fi C0 "setting" d11))
    (g11 : .(fx d11))
    (D11 : FnF K d11 "setting" "World.setting" s_World_setting)
    (m12_0 : .(fi C0 "led" d12))
    (g12 : .(fx d12))
    (D12 : FnF K d12 "led" "World.led" s_World_led)
    (wbool : KitT K (.type "bool") .(J) i_bool)
    (wint : KitT K (.type "int") .(J) i_int)
    (bxDEEDS : .(ns tDEEDS "DEEDS"))
    (lxDEEDS : K.lookup tDEEDS = some ⟨.type "tuple", none, .seq #[.str "P" kDEEDS0, .str "Q" kDEEDS1, .str "R" kDEEDS2, .str "S" kDEEDS3, .str "T" kDEEDS4] nDEEDS, slDEEDS⟩)
    (bxMOST_STATES : PySem.W.nsIn K mainGlobals "MOST_STATES" = some (some (.int (3000) kMOST_STATES)))
    (bxSETTINGS : PySem.W.nsIn K mainGlobals "SETTINGS" = some (some (.int (16) kSETTINGS)))
    (zall : .(no "all"))
    (zbool : .(no "bool"))
    (zint : .(no "int"))
    (zisinstance : .(no "isinstance"))
    (zlen : .(no "len"))
    (zlist : .(no "list"))
    (zrange : .(no "range")) :
    ∃ (cA : Nat → Addr) (fd : FuncData), (∀ (s : Shared) (v : Value), BindsTo s fd ⟨[v], []⟩ [("_law_script", v)]) ∧ ∀ base : Bs, K.In base → base.Ns mainGlobals mg → base.tabs = ts → FnOk l.prog w K mg base CX0 (220 + 3) fa fd ["_law_script"] (spG K (pg cA) [false] (gF 220 10)) := by
  have e := hfa.symm.trans (.(mg b10))
  cases e
  obtain ⟨fD0, cD0, pD0, D0, TD0⟩ := D0
  exact .(obq fD1 D1)
  exact .(obq fD2 D2)
  exact .(obq fD3 D3)
  exact .(obq fD4 D4)
  exact .(obq fD5 D5)
  exact .(obq fD6 D6)
  exact .(obq fD7 D7)
  obtain ⟨fD8, cD8, pD8, D8, TD8⟩ := D8
  exact .(obq fD9 D9)
  exact .(obq fD10 D10)
  exact .(obq fD11 D11)
  exact .(obq fD12 D12)
  exact .(obq fI0 I0)
  have F : Fs K mg (cOf C0) ts := {
    F_listed_world := ⟨_, fD0, cD0, pD0, ⟨D0, D0.binds .(B), .(mg b0)⟩, TD0⟩
    F_check_settings := .(fr fD1 D1 .(A) b1)
    F_check_leads := .(fr fD2 D2 .(B) b2)
    F_all_below := .(fr fD3 D3 .(B) b3)
    F_l_cell_at := .(fr fD4 D4 .(B) b4)
    F_l_whole := .(fr fD5 D5 .(A) b5)
    F_l_mixed := .(fr fD6 D6 .(B) b6)
    F_l_number := .(fr fD7 D7 .(B) b7)
    F_l_endless := ⟨_, fD8, cD8, pD8, ⟨D8, D8.binds .(A), .(mg b8)⟩, TD8⟩
    F_l_lists := .(fr fD9 D9 .(B) b9)
    F_law := .(fr fD10 D10 .(A) b10)
    F_World_setting := ⟨_, fD11, D11, D11.binds .(B), .(mt D11 g11 m11_0)⟩
    F_World_led := ⟨_, fD12, D12, D12.binds .(C), .(mt D12 g12 m12_0)⟩
  }
  obtain ⟨⟨oc, od, kV, dc, pm, an, cd, ct, osl, rfl, ll, cc⟩, kk⟩ := id D10
  refine ⟨(cOf C0), PySem.W.fnOf "law" "law" (defArgs s_law) (defBody s_law) (defScope s_law) .none kV dc pm an cd ct, fun s v => .of_eq rfl, fun base _ _ htb => ?_⟩
  have hC : ∀ c, c < 1 → ClsTy K ((pg (cOf C0)).cA c) := fun c h => match c, h with | 0, _ => clsTy c0 | n + 1, h => absurd h (Nat.not_lt.2 (Nat.le_add_left 1 n))
  have C : Ct l.prog w K mg base (cOf C0) ts := {
    tb := htb
    c_World := .(mg a0)
    l_World := c0
    n_World := ⟨.(mg a0), c0.cls, i0, fI0, _, .(cf c0 e0 f0), init_ok2 I0 rfl ⟨rfl, rfl, rfl, by decide +kernel, rfl, by decide +kernel, by decide +kernel⟩ c0.cls n0_0 n0_1 (by decide) (by decide) (by decide) (by decide) (by decide +kernel), I0.binds .(C)⟩
    f_leads := (.(fl c0 n0_1 0 fl_nil))
    f_says := (.(fl c0 n0_0 0 fl_nil))
    i_bool := kit_isi hC wbool rfl (by decide)
    i_int := kit_isi hC wint rfl (by decide)
    e_DEEDS := ⟨tDEEDS, .(mg bxDEEDS), topT_mk lxDEEDS (by show 5 ≤ sizeLine; decide) (.cons ⟨_, rfl⟩ (.cons ⟨_, rfl⟩ (.cons ⟨_, rfl⟩ (.cons ⟨_, rfl⟩ (.cons ⟨_, rfl⟩ (.nil))))))⟩
    e_MOST_STATES := ⟨kMOST_STATES, .(mg bxMOST_STATES)⟩
    e_SETTINGS := ⟨kSETTINGS, .(mg bxSETTINGS)⟩
    z_all := .(mz zall)
    z_bool := .(mz zbool)
    z_int := .(mz zint)
    z_isinstance := .(mz zisinstance)
    z_len := .(mz zlen)
    z_list := .(mz zlist)
    z_range := .(mz zrange)
  }
  obtain ⟨f', fd', ps', e1, e2, e3, e4⟩ := (all_fn C F 220).h_law.ex
  exact fn_ok D10 sc_law rfl fun _ _ _ _ _ _ hr => b_law C (all_fn C F 219) hr
end M21
def PySem.W.Fast.tw16428549598783649786 : Nat := 0
def PySem.W.Fast.tw1050741792441830148 : Nat := 0
def PySem.W.Fast.tw10192687308237903644 : Nat := 0
def PySem.W.Fast.tw16935191243497894628 : Nat := 0
def PySem.W.Fast.tw7814532078476846359 : Nat := 0
def PySem.W.Fast.tw5871457488110835662 : Nat := 0
def PySem.W.Fast.tw17712227634311845891 : Nat := 0
def PySem.W.Fast.tw6346286262223061776 : Nat := 0
open PySem PySem.W PyProof.Rows
set_option maxRecDepth 100000 in
set_option maxHeartbeats 0 in
theorem PySem.Challenge.cw_anymeaning_k21_worlds_holds : PySem.Challenge.rw_anymeaning_k21_worlds.Holds := by
  w_on; o_law; k_head; (case hw => w_witness2)
  k_fill
  refine L2.walk_ofK (l := PySem.Challenge.rw_anymeaning_k21_worlds) (n := 63) (k := 220 + 3) (x := "_law_script") (CX := L2.CX0) (sp := fun K => DN.spL K M21.fN M21.nF (M21.gF 220 10)) rfl (by decide) rfl ⟨rfl, by decide, by decide⟩ (fun w h Y => PySem.W.km_in_of Y) (fun w h Y => DN.km_ok Y (by kernel_rfl)) ?F (fun K H a ns hl hO hS cA => DN.law_sp hO hS (M21.main ns hl)) (fun _ _ _ _ z => z)
  case F =>
    intro w mg fa h KX G hmg
    refine DN.law_of ?_
    refine' M21.all_mk KX G hmg ?kka0 ?kkc0 ?kke0 ?kkf0 ?kkI0 ?kkn0_0 ?kkn0_1 ?kkb0 ?kkD0 ?kkb1 ?kkD1 ?kkb2 ?kkD2 ?kkb3 ?kkD3 ?kkb4 ?kkD4 ?kkb5 ?kkD5 ?kkb6 ?kkD6 ?kkb7 ?kkD7 ?kkb8 ?kkD8 ?kkb9 ?kkD9 ?kkb10 ?kkD10 ?kkm11_0 ?kkg11 ?kkD11 ?kkm12_0 ?kkg12 ?kkD12 ?kkwbool ?kkwint ?kkbxDEEDS ?kklxDEEDS ?kkbxMOST_STATES ?kkbxSETTINGS ?kkzall ?kkzbool ?kkzint ?kkzisinstance ?kkzlen ?kkzlist ?kkzrange
    (case kka0 => k_is)
    (case kkc0 => exact ⟨by k_is, by k_is, by k_is, by k_is, by k_is, by k_is, by k_is, by k_is, by k_is, by k_is⟩)
    (case kke0 => k_is)
    (case kkf0 => k_is)
    (case kkI0 => (refine' L2.fnf_mk ?l ?c ?k; (case l => k_is); (case c => k_is); (case k => k_is)))
    (case kkn0_0 => k_is)
    (case kkn0_1 => k_is)
    (case kkb0 => k_is)
    (case kkD0 => (refine' DN.fnt_mk ?l ?i ?k ?cl ?cp ?ch ?ct; (case l => k_is); (case i => k_is); (case k => k_is); (case cl => k_is); (case cp => exact rfl); (case ch => kernel_rfl); (case ct => decide)))
    (case kkb1 => k_is)
    (case kkD1 => (refine' L2.fnf_mk ?l ?c ?k; (case l => k_is); (case c => k_is); (case k => k_is)))
    (case kkb2 => k_is)
    (case kkD2 => (refine' L2.fnf_mk ?l ?c ?k; (case l => k_is); (case c => k_is); (case k => k_is)))
    (case kkb3 => k_is)
    (case kkD3 => (refine' L2.fnf_mk ?l ?c ?k; (case l => k_is); (case c => k_is); (case k => k_is)))
    (case kkb4 => k_is)
    (case kkD4 => (refine' L2.fnf_mk ?l ?c ?k; (case l => k_is); (case c => k_is); (case k => k_is)))
    (case kkb5 => k_is)
    (case kkD5 => (refine' L2.fnf_mk ?l ?c ?k; (case l => k_is); (case c => k_is); (case k => k_is)))
    (case kkb6 => k_is)
    (case kkD6 => (refine' L2.fnf_mk ?l ?c ?k; (case l => k_is); (case c => k_is); (case k => k_is)))
    (case kkb7 => k_is)
    (case kkD7 => (refine' L2.fnf_mk ?l ?c ?k; (case l => k_is); (case c => k_is); (case k => k_is)))
    (case kkb8 => k_is)
    (case kkD8 => (refine' DN.fnt_mk ?l ?i ?k ?cl ?cp ?ch ?ct; (case l => k_is); (case i => k_is); (case k => k_is); (case cl => k_is); (case cp => exact rfl); (case ch => kernel_rfl); (case ct => decide)))
    (case kkb9 => k_is)
    (case kkD9 => (refine' L2.fnf_mk ?l ?c ?k; (case l => k_is); (case c => k_is); (case k => k_is)))
    (case kkb10 => k_is)
    (case kkD10 => (refine' L2.fnf_mk ?l ?c ?k; (case l => k_is); (case c => k_is); (case k => k_is)))
    (case kkm11_0 => k_is)
    (case kkg11 => k_is)
    (case kkD11 => (refine' L2.fnf_mk ?l ?c ?k; (case l => k_is); (case c => k_is); (case k => k_is)))
    (case kkm12_0 => k_is)
    (case kkg12 => k_is)
    (case kkD12 => (refine' L2.fnf_mk ?l ?c ?k; (case l => k_is); (case c => k_is); (case k => k_is)))
    (case kkwbool => (repeat refine ⟨by kit_is, ?_⟩); exact trivial)
    (case kkwint => (repeat refine ⟨by kit_is, ?_⟩); exact trivial)
    (case kkbxDEEDS => k_is)
    (case kklxDEEDS => k_is)
    (case kkbxMOST_STATES => k_is)
    (case kkbxSETTINGS => k_is)
    (case kkzall => k_is)
    (case kkzbool => k_is)
    (case kkzint => k_is)
    (case kkzisinstance => k_is)
    (case kkzlen => k_is)
    (case kkzlist => k_is)
    (case kkzrange => k_is)
#print axioms PySem.Challenge.cw_anymeaning_k21_worlds_holds
end
