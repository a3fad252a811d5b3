import PyProof.Rows.All
import Wide.All
import OpenK.AllK
import Wide.FinOn
import Lean
import PyProof.EqAt
import PyProof.EqKinds
import PyProof.TupleCall
import PyProof.CompFree
import PyProof.NeKinds
import PyProof.Rows.SumAny
import KE.KNest
import KE.KLam
import KE.KNestM
import KE.LcSums
import PyProof.EnumFor
import PyProof.EnumMake
import PyProof.EnumStmt
import PyProof.CompUse
import PyProof.RulesTry
import PyProof.StrCalls2
import PyProof.StrCalls5
import PyProof.StrLawsTight
import PyProof.Rows.StrNews2
import PyProof.Rows.StrItems
import KE.KRevIter
import PyProof.PureStr
import PyProof.SliceStr2
import PyProof.StrLawsIdx
import PyProof.WalkInts
import PyProof.SeqI3
import PyProof.IsRules
import PyProof.StationsW
import PyProof.ExcClass2
import PyProof.PassesOwn
import PyProof.Rows.Catch
import PyProof.Rows.CatchOwn
import OpenK.KOwn
import PySem.Challenge.RW_anymeaning_k02_tests_written
section
set_option Elab.async false
set_option linter.all false
set_option maxRecDepth 100000
/-! THE HAND LAYER, for ints, bools, texts, own classes, LISTS and tuples (index, slices, in, append, pop ..), calls, loops. Paste it whole ahead of your own text; what your proof does not reach may be deleted. -/
namespace L2
open PySem PySem.Spec PyProof.Rows
/-- a key: an int or a str -/
abbrev Key := Sum Int Str
def keyIs : Key → Value → Bool
  | .inl k, v => Value.isInt k v
  | .inr x, v => Value.isStrOf x v
def keyH (w : World) : Key → Int
  | .inl k => hashInt k
  | .inr x => hashStr w x
theorem keyIs_shape : ∀ {k : Key} {v : Value}, keyIs k v = true → (∃ i t, k = Sum.inl i ∧ v = Value.int i t) ∨ (∃ x t, k = Sum.inr x ∧ v = Value.str x t)
  | .inl i, v, h => by
    obtain ⟨t, e⟩ := Value.isInt_shape (k := i) (v := v) h
    exact .inl ⟨i, t, rfl, e⟩
  | .inr x, v, h => by
    obtain ⟨t, e⟩ := Value.isStrOf_shape (x := x) (v := v) h
    exact .inr ⟨x, t, rfl, e⟩
theorem key_ll (a b : Int) : decide ((Sum.inl a : Key) = Sum.inl b) = (a == b) := by
  by_cases e : a = b
  · subst e; simp
  · have h : ¬ (Sum.inl a : Key) = Sum.inl b := fun q => e (Sum.inl.inj q)
    rw [decide_eq_false h]
    exact (beq_eq_false_iff_ne.mpr e).symm
theorem key_rr (a b : Str) : decide ((Sum.inr a : Key) = Sum.inr b) = decide (a = b) := by
  by_cases e : a = b
  · subst e; simp
  · have h : ¬ (Sum.inr a : Key) = Sum.inr b := fun q => e (Sum.inr.inj q)
    rw [decide_eq_false h, decide_eq_false e]
theorem key_lr (a : Int) (b : Str) : decide ((Sum.inl a : Key) = Sum.inr b) = false := decide_eq_false (fun q => nomatch q)
theorem key_rl (a : Str) (b : Int) : decide ((Sum.inr a : Key) = Sum.inl b) = false := decide_eq_false (fun q => nomatch q)
def mixKind (prog : Program) (w : World) : PySem.KeyKind prog w Key where
  is := keyIs
  hash := keyH w
  inj := fun v a b ha hb => by
    rcases keyIs_shape ha with ⟨i, t, rfl, rfl⟩ | ⟨x, t, rfl, rfl⟩
    · rcases keyIs_shape hb with ⟨j, u, rfl, e⟩ | ⟨y, u, rfl, e⟩
      · injection e with e1 _; rw [e1]
      · exact nomatch e
    · rcases keyIs_shape hb with ⟨j, u, rfl, e⟩ | ⟨y, u, rfl, e⟩
      · exact nomatch e
      · injection e with e1 _; rw [e1]
  byValue := fun k v h => by
    rcases keyIs_shape h with ⟨i, t, rfl, rfl⟩ | ⟨x, t, rfl, rfl⟩ <;> rfl
  pyHash := fun hv h => by
    rcases keyIs_shape hv with ⟨i, t, rfl, rfl⟩ | ⟨x, t, rfl, rfl⟩
    · exact wpAny_pyHash_int h
    · exact wpAny_pyHash_str h
  eqBool := fun hu hv h => by
    rcases keyIs_shape hu with ⟨i, t, rfl, rfl⟩ | ⟨x, t, rfl, rfl⟩
    · rcases keyIs_shape hv with ⟨j, u, rfl, rfl⟩ | ⟨y, u, rfl, rfl⟩
      · rw [key_ll] at h; exact wpAny_eqBool_int h
      · rw [key_lr] at h; exact SeqAt.EqAt.int_str i t y u _ _ _ _ h
    · rcases keyIs_shape hv with ⟨j, u, rfl, rfl⟩ | ⟨y, u, rfl, rfl⟩
      · rw [key_rl] at h; exact SeqAt.EqAt.str_int x t j u _ _ _ _ h
      · rw [key_rr] at h; exact wpAny_eqBool_str h
  «strs» := fun k x t v h => by
    rcases keyIs_shape h with ⟨i, u, rfl, e⟩ | ⟨y, u, rfl, e⟩
    · exact nomatch e
    · injection e with e1 _
      subst e1
      cases v <;> rfl
end L2
namespace L2
open PySem PySem.Spec PyProof.Rows
/-- a value, without the heap -/
inductive V where
  | non | bl (b : Bool) | int (i : Int) | str (x : Str) | byt (b : Array UInt8) | flt (b : UInt64) | ref (a : Addr) | ty (n : String)
  deriving DecidableEq
def RelV : V → Value → Prop
  | .non, u => u = Value.none
  | .bl b, u => u = Value.bool b
  | .int i, u => ∃ t, u = Value.int i t
  | .str x, u => ∃ t, u = Value.str x t
  | .byt b, u => ∃ t, u = Value.bytes b t
  | .flt b, u => ∃ t, u = Value.float b t
  | .ref a, u => u = Value.ref a
  | .ty n, u => u = Value.type n
abbrev Vals : List V → List Value → Prop := Paired RelV
theorem Vals.length {xs : List V} {us : List Value} (r : Vals xs us) : xs.length = us.length := Paired.length r
theorem Vals.get : ∀ {xs : List V} {us : List Value} {i : Nat} {x : V}, Vals xs us → xs[i]? = some x → ∃ u, us[i]? = some u ∧ RelV x u
  | _, _, _, _, .nil, e => by simp at e
  | _, _, 0, _, .cons r _, e => by simp at e; subst e; exact ⟨_, rfl, r⟩
  | _, _, i + 1, x, .cons _ t, e => by
    obtain ⟨u, h1, h2⟩ := Vals.get (i := i) (x := x) t (by simpa using e)
    exact ⟨u, by simpa using h1, h2⟩
theorem Vals.set {x : V} {u : Value} (r : RelV x u) : ∀ {xs : List V} {us : List Value} (i : Nat), Vals xs us → Vals (xs.set i x) (us.set i u)
  | _, _, _, .nil => .nil
  | _, _, 0, .cons _ t => .cons r t
  | _, _, i + 1, .cons q t => .cons q (Vals.set r i t)
theorem Vals.append : ∀ {xs ys : List V} {us ws : List Value}, Vals xs us → Vals ys ws → Vals (xs ++ ys) (us ++ ws)
  | _, _, _, _, .nil, s => s
  | _, _, _, _, .cons r t, s => .cons r (Vals.append t s)
theorem Vals.take : ∀ {xs : List V} {us : List Value} (n : Nat), Vals xs us → Vals (xs.take n) (us.take n)
  | _, _, 0, _ => .nil
  | _, _, _ + 1, .nil => .nil
  | _, _, n + 1, .cons r t => .cons r (Vals.take n t)
theorem Vals.drop : ∀ {xs : List V} {us : List Value} (n : Nat), Vals xs us → Vals (xs.drop n) (us.drop n)
  | _, _, 0, r => r
  | _, _, _ + 1, .nil => .nil
  | _, _, n + 1, .cons _ t => Vals.drop n t
theorem Vals.none_of : ∀ {xs : List V} {us : List Value} {i : Nat}, Vals xs us → xs[i]? = none → us[i]? = none := fun {xs us i} r e => by
  have h1 := r.length
  have h2 : xs.length ≤ i := List.getElem?_eq_none_iff.mp e
  exact List.getElem?_eq_none_iff.mpr (by omega)
def RelO : Option V → Option Value → Prop
  | some v, some u => RelV v u
  | none, none => True
  | _, _ => False
def KV {κ : Type} : List (κ × V) → List (κ × Value) → Prop := Paired fun (p : κ × V) (q : κ × Value) => p.1 = q.1 ∧ RelV p.2 q.2
/-- a key of a dict (00_mix): an int or a text -/
def kV : Key → V
  | .inl i => .int i
  | .inr x => .str x
/-- what stands at a tracked address -/
inductive HO where
  /-- a list -/
  | lst (xs : List V)
  /-- a tuple (never changes) -/
  | tup (xs : List V)
  /-- a dict whose keys are ints and texts; one whose keys are tuples of ints and texts (the empty one is both) -/
  | dK (kvs : List (Key × V)) | dT (kvs : List (List Key × V))
  /-- a set of ints: its members, its size -/
  | set (S : Int → Bool) (n : Nat)
  /-- an instance of the class at C, its dict at dx, its attributes -/
  | ins (C dx : Addr) (fs : List (Str × V))
  /-- the dict of the instance at x -/
  | own (x : Addr)
  /-- the dict of an exception -/
  | xd (fs : List (Str × V))
  /-- a bound method, f of x -/
  | met (f x : Addr)
  /-- a range object lo, lo + 1, .. below hi -/
  | rng (lo hi : Int)
  /-- a thing that is known to the object (the script; a dict while a loop walks it): read, never written while it is so -/
  | frz (o : Obj) (u : HO)
  /-- a code object's table -/
  | tbl (q : Nat)
  /-- any other thing, by what is true of its one object (a def of one's own: SetO a S n := HO.ext fun h => ..) -/
  | ext (φ : Heap → Prop)
abbrev Hp := Addr → Option HO
def upd (H : Hp) (a : Addr) (o : HO) : Hp := fun b => if b = a then some o else H b
theorem upd_same {H : Hp} {a : Addr} {o : HO} : upd H a o a = some o := by unfold upd; rw [if_pos rfl]
theorem upd_ne {H : Hp} {a b : Addr} {o : HO} (h : b ≠ a) : upd H a o b = H b := by unfold upd; rw [if_neg h]
theorem upd_upd {H : Hp} {a : Addr} {o u : HO} : upd (upd H a o) a u = upd H a u := by
  funext b; unfold upd; split <;> rfl
theorem ne_of_none {H : Hp} {a b : Addr} {o : HO} (h : H a = some o) (h' : H b = none) : a ≠ b := by
  intro e; subst e; rw [h] at h'; cases h'
/-- a code object: its name for frames stands in it -/
def CodeO (o : Obj) : Prop := ∃ (vs : Array Value) (q : Str) (t : Tok), o.data = .fields vs ∧ vs[1]? = some (.str q t)
section
variable (P : Program) (w : World)
def ObjOk (H : Hp) (h : Heap) (a : Addr) : HO → Prop
  | .lst xs => xs.length ≤ sizeLine ∧ ∃ (its : List Value) (n : Nat), Vals xs its ∧ h.get? a = some { cls := .type "list", data := .seq its.toArray n }
  | .tup xs => xs.length ≤ sizeLine ∧ ∃ its : List Value, Vals xs its ∧ IsTup h a its.toArray
  | .dK kvs => kvs.length ≤ sizeLine ∧ (a == sysModules) = false ∧ ∃ vs, KV kvs vs ∧ h.DictOf (mixKind P w) a vs
  | .dT kvs => kvs.length ≤ sizeLine ∧ (a == sysModules) = false ∧ ∃ xs : List (List Key × Addr × Value),
      Paired (fun (p : List Key × V) (q : List Key × Addr × Value) => p.1 = q.1 ∧ H q.2.1 = some (.tup (p.1.map kV)) ∧ RelV p.2 q.2.2) kvs xs ∧
      ∃ o es ep, h.get? a = some o ∧ o.ExactDict ∧ o.data = .dict es ep ∧ es.toList = xs.map (entryOfKey (tupleKind (mixKind P w))) ∧ (xs.map (·.1)).Nodup
  | .set S n => h.SetOf (intKind P w) a S n
  | .ins C dx fs => H dx = some (.own a) ∧ fs.length ≤ 1000 ∧ dx ≠ a ∧ h.get? a = some (PySem.W.instObj C dx) ∧
      ∃ mA, h.Ns1 dx mA ∧ (∀ f, RelO (fs.lookup f) (mA f)) ∧ PySem.Within mA (fs.map (·.1))
  | .own _ => ∃ o, h.get? a = some o
  | .xd fs => ∃ mA, h.Ns1 a mA ∧ ∀ f, RelO (fs.lookup f) (mA f)
  | .rng lo hi => ∃ t u v, h.get? a = some { cls := .type "range", data := .fields #[.int lo t, .int hi u, .int 1 v] }
  | .frz o u => h.get? a = some o ∧ ObjOk H h a u
  | .tbl _ => ∃ ps : Array Value, h.get? a = some (PySem.W.tabObj ps) ∧ TriplesOk ps.toList ∧ ∀ pos cv, codeAmong pos ps.toList = some cv → ∃ c oc u, cv = .ref c ∧ H c = some (.frz oc u) ∧ CodeO oc
  | .met f x => h.get? a = some (PySem.W.methodObj (.ref f) (.ref x))
  | .ext φ => φ h ∧ (∃ o, h.get? a = some o) ∧ ∀ h1 h2 : Heap, φ h1 → (∀ o, h1.get? a = some o → h2.get? a = some o) → φ h2
/-- the abstract heap is held -/
def HOk (H : Hp) (h : Heap) : Prop := ∀ a o, H a = some o → ObjOk P w H h a o
end
section
variable {P : Program} {w : World} {H H' : Hp} {h h' : Heap} {a : Addr} {o : HO}
theorem ObjOk.lt (x : ObjOk P w H h a o) : a < h.objs.size := by
  cases o with
  | lst xs => obtain ⟨_, _, _, _, e⟩ := x; exact Heap.lt_size e
  | tup xs => obtain ⟨_, _, _, p⟩ := x; exact p.lt
  | dK kvs => obtain ⟨_, _, _, _, o, _, _, e, _⟩ := x; exact Heap.lt_size e
  | dT kvs => obtain ⟨_, _, _, _, o, _, _, e, _⟩ := x; exact Heap.lt_size e
  | set S n => obtain ⟨o, _, _, _, e, _⟩ := x; exact Heap.lt_size e
  | ins C dx fs => obtain ⟨_, _, _, e, _⟩ := x; exact Heap.lt_size e
  | own y => obtain ⟨_, e⟩ := x; exact Heap.lt_size e
  | xd fs => obtain ⟨_, ⟨_, _, _, e, _⟩, _⟩ := x; exact Heap.lt_size e
  | rng lo hi => obtain ⟨_, _, _, e⟩ := x; exact Heap.lt_size e
  | frz ob u => obtain ⟨e, _⟩ := x; exact Heap.lt_size e
  | tbl q => obtain ⟨_, e, _⟩ := x; exact Heap.lt_size e
  | met f y => exact Heap.lt_size (show h.get? a = some _ from x)
  | ext φ => obtain ⟨_, ⟨_, e⟩, _⟩ := x; exact Heap.lt_size e
theorem Paired.mapP {α β : Type} {F G : α → β → Prop} : ∀ {l₁ : List α} {l₂ : List β}, Paired F l₁ l₂ → (∀ a b, F a b → G a b) → Paired G l₁ l₂
  | _, _, .nil, _ => .nil
  | _, _, .cons r t, f => .cons (f _ _ r) (Paired.mapP t f)
/-- what an object's description leans on: its own object, its own dict, the tuples -/
theorem ObjOk.stay (x : ObjOk P w H h a o) (k : ∀ b u, (b = a ∨ H b = some (.own a)) → h.get? b = some u → h'.get? b = some u)
    (ho : ∀ b, H b = some (.own a) → H' b = some (.own a)) (ht : ∀ b xs, H b = some (.tup xs) → H' b = some (.tup xs)) (hz : ∀ b o u, H b = some (.frz o u) → H' b = some (.frz o u)) : ObjOk P w H' h' a o := by
  induction o with
  | lst xs => obtain ⟨z, its, n, r, e⟩ := x; exact ⟨z, its, n, r, k _ _ (.inl rfl) e⟩
  | tup xs => obtain ⟨z, its, r, ob, e, c⟩ := x; exact ⟨z, its, r, ob, k _ _ (.inl rfl) e, c⟩
  | dK kvs => obtain ⟨z, y, vs, r, ob, es, ep, e, c⟩ := x; exact ⟨z, y, vs, r, ob, es, ep, k _ _ (.inl rfl) e, c⟩
  | dT kvs =>
    obtain ⟨z, y, xs, r, ob, es, ep, e, c⟩ := x
    exact ⟨z, y, xs, Paired.mapP r fun p q z => ⟨z.1, ht _ _ z.2.1, z.2.2⟩, ob, es, ep, k _ _ (.inl rfl) e, c⟩
  | set S n => obtain ⟨ob, es, ep, t, e, c⟩ := x; exact ⟨ob, es, ep, t, k _ _ (.inl rfl) e, c⟩
  | ins C dx fs =>
    obtain ⟨d, z, ne, e, mA, ⟨od, es, ep, e2, c⟩, r⟩ := x
    exact ⟨ho _ d, z, ne, k _ _ (.inl rfl) e, mA, ⟨od, es, ep, k _ _ (.inr d) e2, c⟩, r⟩
  | own y => obtain ⟨ob, e⟩ := x; exact ⟨ob, k _ _ (.inl rfl) e⟩
  | xd fs => obtain ⟨mA, ⟨od, es, ep, e, c⟩, r⟩ := x; exact ⟨mA, ⟨od, es, ep, k _ _ (.inl rfl) e, c⟩, r⟩
  | rng lo hi => obtain ⟨t, u, v, e⟩ := x; exact ⟨t, u, v, k _ _ (.inl rfl) e⟩
  | frz ob u ih => obtain ⟨e, q⟩ := x; exact ⟨k _ _ (.inl rfl) e, ih q⟩
  | tbl q =>
    obtain ⟨ps, e, t, r⟩ := x
    exact ⟨ps, k a _ (.inl rfl) e, t, fun pos cv z => let ⟨c, oc, u, e1, e2, e3⟩ := r pos cv z; ⟨c, oc, u, e1, hz _ _ _ e2, e3⟩⟩
  | met f y =>
    have e : h.get? a = some (PySem.W.methodObj (.ref f) (.ref y)) := x
    show h'.get? a = some (PySem.W.methodObj (.ref f) (.ref y))
    exact k a _ (.inl rfl) e
  | ext φ => obtain ⟨p, ⟨o, e⟩, st⟩ := x; exact ⟨st _ _ p fun o q => k _ _ (.inl rfl) q, ⟨o, k _ _ (.inl rfl) e⟩, st⟩
theorem HOk.lt (x : HOk P w H h) (e : H a = some o) : a < h.objs.size := (x a o e).lt
theorem HOk.fresh (x : HOk P w H h) (e : h.objs.size ≤ a) : H a = none := by
  cases q : H a with
  | none => rfl
  | some u => exact absurd (Nat.lt_of_lt_of_le (x.lt q) e) (Nat.lt_irrefl _)
/-- every object of the heap is kept -/
theorem HOk.kept (x : HOk P w H h) (k : ∀ b u, h.get? b = some u → h'.get? b = some u) : HOk P w H h' := fun a o e =>
  (x a o e).stay (fun b u _ q => k b u q) (fun _ q => q) (fun _ _ q => q) fun _ _ _ q => q
/-- a new object is laid and tracked -/
theorem HOk.laid (x : HOk P w H h) (k : ∀ b u, h.get? b = some u → h'.get? b = some u) (hp : h.objs.size ≤ a) (new : ObjOk P w (upd H a o) h' a o) : HOk P w (upd H a o) h' := fun b u e => by
  have hn := x.fresh hp
  by_cases hb : b = a
  · subst hb; rw [upd_same] at e; cases e; exact new
  · rw [upd_ne hb] at e
    exact (x b u e).stay (fun c v _ q => k c v q) (fun c q => by rw [upd_ne (ne_of_none q hn)]; exact q) (fun c xs q => by rw [upd_ne (ne_of_none q hn)]; exact q) fun c o u q => by rw [upd_ne (ne_of_none q hn)]; exact q
end
/-- what may be read as u: it is u, or a known u -/
def Rd (H : Hp) (a : Addr) (u : HO) : Prop := H a = some u ∨ ∃ o, H a = some (.frz o u)
theorem Rd.of {H : Hp} {a : Addr} {u : HO} (h : H a = some u) : Rd H a u := .inl h
theorem Rd.ok {P : Program} {w : World} {H : Hp} {h : Heap} {a : Addr} {u : HO} (r : Rd H a u) (x : HOk P w H h) : ObjOk P w H h a u := by
  rcases r with r | ⟨o, r⟩
  · exact x a u r
  · obtain ⟨_, q⟩ := x a _ r
    exact q
/-- what may be written -/
def Mut : Option HO → Prop
  | some (.lst _) => True
  | some (.dK _) => True
  | some (.dT _) => True
  | some (.set _ _) => True
  | some (.ins _ _ _) => True
  | some (.ext _) => True
  | _ => False
section
variable {P : Program} {w : World} {H : Hp} {h h' : Heap} {x e : Addr} {o' : HO}
/-- the object at e is changed: x itself, or the dict of the instance x -/
theorem HOk.write (ok : HOk P w H h) (mu : Mut (H x)) (he : e = x ∨ H e = some (.own x)) (k : ∀ b u, b ≠ e → h.get? b = some u → h'.get? b = some u) (heo : ∃ u, h'.get? e = some u)
    (new : ObjOk P w (upd H x o') h' x o') : HOk P w (upd H x o') h' := fun b u q => by
  have nown : ∀ c y, H c = some (.own y) → c ≠ x := fun c y r z => by subst z; rw [r] at mu; exact mu
  have nfrz : ∀ c o u, H c = some (.frz o u) → c ≠ x := fun c o u r z => by subst z; rw [r] at mu; exact mu
  have ntup : ∀ c xs, H c = some (.tup xs) → c ≠ x := fun c xs r z => by subst z; rw [r] at mu; exact mu
  by_cases hb : b = x
  · subst hb; rw [upd_same] at q; cases q; exact new
  · rw [upd_ne hb] at q
    by_cases hbe : b = e
    · have q' : H b = some (.own x) := by
        rcases he with z | z
        · exact absurd (hbe.trans z) hb
        · rw [hbe]; exact z
      rw [q] at q'; cases q'
      obtain ⟨v, hv⟩ := heo
      exact ⟨v, by rw [hbe]; exact hv⟩
    · refine (ok b u q).stay (fun c v hc r => k c v ?_ r) (fun c r => by rw [upd_ne (nown c b r)]; exact r) (fun c xs r => by rw [upd_ne (ntup c xs r)]; exact r) fun c o u r => by rw [upd_ne (nfrz c o u r)]; exact r
      rcases hc with rfl | hc
      · exact hbe
      · rintro rfl
        rcases he with z | z
        · exact nown c b hc z
        · rw [hc] at z; cases z; exact hb rfl
end
/-! ### kept unless tracked; of the frames at fs (the callers') the slots may change (an exception that passes writes there); of the records at ex (iterators) nothing is said -/
structure Un (fs ex : List Addr) (H H' : Hp) (h h' : Heap) : Prop where
  keep : ∀ b o, h.get? b = some o → H b = none → b ∉ fs → b ∉ ex → h'.get? b = some o
  slot : ∀ b o, h.get? b = some o → H b = none → b ∈ fs → b ∉ ex → ∃ sl, h'.get? b = some { o with slots := sl }
  free : ∀ b o, h.get? b = some o → H b = none → b ∉ ex → H' b = none
  there : ∀ b o, h.get? b = some o → b ∉ ex → ∃ o', h'.get? b = some o'
  tups : ∀ b xs, H b = some (.tup xs) → H' b = some (.tup xs)
  frzs : ∀ b o u, H b = some (.frz o u) → H' b = some (.frz o u)
  tbls : ∀ b q, H b = some (.tbl q) → H' b = some (.tbl q)
section
variable {fs fs' ex ex' : List Addr} {H H1 H2 : Hp} {h h1 h2 h' : Heap} {a x e : Addr} {o : HO}
theorem Un.any (u : Un fs ex H H1 h h1) {b : Addr} {ob : Obj} (q : h.get? b = some ob) (n : H b = none) (hx : b ∉ ex) : ∃ sl, h1.get? b = some { ob with slots := sl } := by
  by_cases hb : b ∈ fs
  · exact u.slot b ob q n hb hx
  · exact ⟨ob.slots, u.keep b ob q n hb hx⟩
theorem Un.trans (a : Un fs ex H H1 h h1) (b : Un fs ex H1 H2 h1 h2) : Un fs ex H H2 h h2 where
  keep := fun c ob q n hc hx => b.keep c ob (a.keep c ob q n hc hx) (a.free c ob q n hx) hc hx
  slot := fun c ob q n hc hx => by
    obtain ⟨sl, e1⟩ := a.slot c ob q n hc hx
    obtain ⟨sl', e2⟩ := b.slot c _ e1 (a.free c ob q n hx) hc hx
    exact ⟨sl', e2⟩
  free := fun c ob q n hx => by
    obtain ⟨o', e1⟩ := a.there c ob q hx
    exact b.free c o' e1 (a.free c ob q n hx) hx
  there := fun c ob q hx => by
    obtain ⟨o', e1⟩ := a.there c ob q hx
    exact b.there c o' e1 hx
  tups := fun c xs q => b.tups c xs (a.tups c xs q)
  frzs := fun c ob xs q => b.frzs c ob xs (a.frzs c ob xs q)
  tbls := fun c ps q => b.tbls c ps (a.tbls c ps q)
theorem Un.kept (k : ∀ b u, h.get? b = some u → h'.get? b = some u) : Un fs ex H H h h' :=
  ⟨fun b ob q _ _ _ => k b ob q, fun b ob q _ _ _ => ⟨ob.slots, k b ob q⟩, fun _ _ _ n _ => n, fun b ob q _ => ⟨ob, k b ob q⟩, fun _ _ q => q, fun _ _ _ q => q, fun _ _ q => q⟩
theorem Un.refl : Un fs ex H H h h := Un.kept fun _ _ q => q
theorem Un.laid (k : ∀ b u, h.get? b = some u → h'.get? b = some u) (hp : h.objs.size ≤ a) (hn : H a = none) : Un fs ex H (upd H a o) h h' where
  keep := fun b u q _ _ _ => k b u q
  slot := fun b u q _ _ _ => ⟨u.slots, k b u q⟩
  free := fun b u q n _ => by rw [upd_ne (Nat.ne_of_lt (Nat.lt_of_lt_of_le (Heap.lt_size q) hp))]; exact n
  there := fun b u q _ => ⟨u, k b u q⟩
  tups := fun b xs q => by rw [upd_ne (ne_of_none q hn)]; exact q
  frzs := fun b u xs q => by rw [upd_ne (ne_of_none q hn)]; exact q
  tbls := fun b ps q => by rw [upd_ne (ne_of_none q hn)]; exact q
theorem Un.write (mu : Mut (H x)) (he : e = x ∨ H e = some (.own x)) (k : ∀ b u, b ≠ e → h.get? b = some u → h'.get? b = some u) (heo : ∃ u, h'.get? e = some u) : Un fs ex H (upd H x o) h h' := by
  have hx : ∀ b, H b = none → b ≠ x := fun b n z => by subst z; rw [n] at mu; exact mu
  have hb : ∀ b, H b = none → b ≠ e := fun b n z => by
    subst z
    rcases he with r | r
    · exact hx b n r
    · rw [n] at r; cases r
  have hm : ∀ b u, H b = some u → ¬ Mut (some u) → b ≠ x := fun b u q nm z => by subst z; rw [q] at mu; exact nm mu
  refine ⟨fun b u q n _ _ => k b u (hb b n) q, fun b u q n _ _ => ⟨u.slots, k b u (hb b n) q⟩, fun b u q n _ => by rw [upd_ne (hx b n)]; exact n, fun b u q _ => ?_,
    fun b xs q => by rw [upd_ne (hm b _ q fun z => z)]; exact q, fun b u xs q => by rw [upd_ne (hm b _ q fun z => z)]; exact q, fun b ps q => by rw [upd_ne (hm b _ q fun z => z)]; exact q⟩
  by_cases hbe : b = e
  · subst hbe; exact heo
  · exact ⟨u, k b u hbe q⟩
theorem Un.mono (u : Un fs ex H H1 h h1) (hs : ∀ b ∈ fs, b ∈ fs') (hx : ∀ b ∈ ex, b ∈ ex') : Un fs' ex' H H1 h h1 :=
  ⟨fun b ob q n hb he => u.keep b ob q n (fun z => hb (hs b z)) fun z => he (hx b z), fun _ _ q n _ he => u.any q n fun z => he (hx _ z), fun b ob q n he => u.free b ob q n fun z => he (hx b z), fun b ob q he => u.there b ob q fun z => he (hx b z), u.tups, u.frzs, u.tbls⟩
end
/-! ### the heap without what is tracked -/
def trk (h : Heap) (H : Hp) : List Addr := (List.range h.objs.size).filter fun a => (H a).isSome
def hidT (h : Heap) (H : Hp) : Heap := PySem.W.hideAll h (trk h H)
theorem hidT_size (h : Heap) (H : Hp) : (hidT h H).objs.size = h.objs.size := PySem.W.hideAll_size _ _
theorem hidT_get {h : Heap} {H : Hp} {b : Addr} {o : Obj} (e : h.get? b = some o) (n : H b = none) : (hidT h H).get? b = some o :=
  PySem.W.hideAll_get _ e fun hm => by
    have q : (H b).isSome = true := (List.mem_filter.mp hm).2
    rw [n] at q; simp at q
theorem of_hidT {h : Heap} {H : Hp} {b : Addr} {o : Obj} (e : (hidT h H).get? b = some o) : h.get? b = some o ∧ H b = none := by
  have e' : h.get? b = some o := PySem.W.of_hideAll (trk h H) e
  refine ⟨e', ?_⟩
  cases q : H b with
  | none => rfl
  | some x =>
    have hm : b ∈ trk h H := List.mem_filter.mpr ⟨List.mem_range.mpr (Heap.lt_size e'), by simp [q]⟩
    have z : (hidT h H).get? b = none := PySem.W.hideAll_none (trk h H) hm
    rw [z] at e; cases e
/-! ### OpenK's ledger, filled with every new object but one -/
def allNews (g h : Heap) (L : Addr) : List (Addr × Obj) := (List.range h.objs.size).filterMap fun a => if a = L ∨ (g.get? a).isSome = true then none else (h.get? a).map fun o => (a, o)
def rest (g h : Heap) (L d : Addr) : List (Addr × Obj) := (allNews g h L).filter fun p => decide (p.1 ≠ d)
end L2
namespace L2
open PySem PySem.Spec PyProof.Rows
/-- the base; the tables of code objects that are tracked -/
structure Bs extends Heap where
  tabs : List Addr
instance : Coe Bs Heap := ⟨Bs.toHeap⟩
/-- the module's facts, over the base: the heap at the law's entry without what is tracked there -/
structure Mod (K : PySem.W.Frag) (mg : Str → Option Value) (base : Bs) : Prop where
  kin : K.In base
  glob : base.Ns mainGlobals mg
  blt : ∃ mb, base.Ns builtinsNs mb ∧ ∀ x : Str, x ≠ "__name__" → mb x = bootBuiltins x
  nolimit : base.NoLimit
  bmain : ∃ bm ob, mg "__builtins__" = some (.ref bm) ∧ bm ≠ builtinsNs ∧ base.get? bm = some ob ∧ ob.cls = .type "module" ∧ ob.dict = some builtinsNs ∧ ob.data = .plain
/-- the context: a def's body (or a comprehension's block) running. base: fixed through the whole law; s₀, H₀: the entry; outer: the frames whose slots others may change (a def's callers); stack: all frames that run;
   ex: iterators that were made ahead of the entry and are walked here (a comprehension's); fn: the names whose cells were made at the entry (a def: all; a comprehension's block: its own); calm: not within an except suite; pn: pins that every state bears; xe: what is wanted of an exception that leaves the code -/
structure Cx where
  prog : Program
  w : World
  K : PySem.W.Frag
  mg : Str → Option Value
  base : Bs
  A : Around
  N : List Str
  s₀ : Shared
  H₀ : Hp
  env : Env
  outer : List Env
  stack : List Env
  ex : List Addr
  fn : Str → Bool
  cw : Str → Bool
  calm : Bool
  pn : List (Addr × Obj)
  xe : Value → Shared → Prop
/-- the callers' frames -/
def frs (l : List Env) : List Addr := l.filterMap (·.frame)
abbrev Cx.fs (X : Cx) : List Addr := frs X.outer
def Vis (sc : Scope) (x : Str) : Prop := sc.names.lookup x = some .local ∨ sc.names.lookup x = some .cell ∨ sc.names.lookup x = some .free
def Loc (sc : Scope) (x : Str) : Prop := sc.names.lookup x = some .local ∨ sc.names.lookup x = some .cell
def Look (env : Env) (h : Heap) (m : Str → Option Value) (x : Str) (u : Value) : Prop :=
  (env.kindOf x = some .local ∧ m x = some u) ∨ ((env.kindOf x = some .cell ∨ env.kindOf x = some .free) ∧ ∃ c, env.cells.lookup x = some c ∧ h.IsCell c (some u))
structure Cx.Ok (X : Cx) : Prop where
  mod : Mod X.K X.mg X.base
  kind : X.env.scope.kind = .function
  glob : X.env.globals = mainGlobals
  blt : X.env.builtins = builtinsNs
  above : X.s₀.heap.objs.size ≤ X.env.locals
  inj : ∀ x y c, X.env.cells.lookup x = some c → X.env.cells.lookup y = some c → x = y
  has : ∀ x, (X.env.kindOf x = some .cell ∨ X.env.kindOf x = some .free) → ∃ c, X.env.cells.lookup x = some c
  cab : ∀ x c, X.cw x = true → X.env.cells.lookup x = some c → X.s₀.heap.objs.size ≤ c
  hd : X.calm = true → X.A.handled = none
  frames : X.A.frames = some X.stack
  stk : X.stack = X.outer ∨ (X.stack = X.env :: X.outer ∧ X.env.frame = some X.env.locals)
  exf : ∀ b ∈ X.ex, b ≠ X.env.locals ∧ ∀ x c, X.env.cells.lookup x = some c → c ≠ b
  bs : ∀ b o, X.base.get? b = some o → X.s₀.heap.get? b = some o ∧ X.H₀ b = none
  bsz : X.base.objs.size ≤ X.s₀.heap.objs.size
  noex : ∀ b o, X.base.get? b = some o → b ∉ X.ex
  exfs : ∀ b ∈ X.ex, b ∉ X.fs
  funs : X.s₀.heap.FunFrames X.base X.outer
  frf : ∀ b ∈ X.fs, X.H₀ b = none
  tab : ∀ P ∈ X.base.tabs, X.H₀ P = some (.tbl 0)
  fc : ∀ x, X.fn x = true → X.cw x = true
structure Inv (X : Cx) (pins : List (Addr × Obj)) (σ : List (Option V)) (H : Hp) (s : Shared) : Prop where
  ok : X.Ok
  os : s.os = X.s₀.os
  bare : AllBare s.gens
  base : Un X.fs X.ex X.H₀ H X.s₀.heap s.heap
  loc : ∃ m, s.heap.Ns X.env.locals m ∧ ∀ (i : Nat) (x : Str) (v : V), X.N[i]? = some x → σ[i]? = some (some v) → Vis X.env.scope x → ∃ u, RelV v u ∧ Look X.env s.heap m x u
  cell : ∀ x c, X.env.cells.lookup x = some c → ∃ v, s.heap.IsCell c v
  free : H X.env.locals = none
  freeC : ∀ x c, X.env.cells.lookup x = some c → H c = none ∨ (X.fn x = false ∧ ∃ o u, H c = some (.frz o u))
  pin : ∀ p ∈ X.pn ++ pins, s.heap.get? p.1 = some p.2 ∧ H p.1 = none ∧ p.1 ≠ X.env.locals ∧ p.1 ∉ X.fs ∧ ∀ v, p.2.data ≠ .cell v
  hok : HOk X.prog X.w H s.heap
  len : σ.length = X.N.length
section
variable {X : Cx} {pins : List (Addr × Obj)} {σ : List (Option V)} {H H' : Hp} {s : Shared} {h' : Heap}
theorem Cx.Ok.nofr (ok : X.Ok) {b : Addr} {o : Obj} (e : X.base.get? b = some o) : b ∉ X.fs := fun hb => by
  have := (ok.funs.mem hb).1
  rw [e] at this; cases this
theorem Inv.bs (I : Inv X pins σ H s) : ∀ b o, X.base.get? b = some o → s.heap.get? b = some o ∧ H b = none := fun b o e =>
  ⟨I.base.keep b o (I.ok.bs b o e).1 (I.ok.bs b o e).2 (I.ok.nofr e) (I.ok.noex b o e), I.base.free b o (I.ok.bs b o e).1 (I.ok.bs b o e).2 (I.ok.noex b o e)⟩
theorem Inv.bk (I : Inv X pins σ H s) : ∀ b o, X.base.get? b = some o → s.heap.get? b = some o := fun b o e => (I.bs b o e).1
theorem Inv.mod (I : Inv X pins σ H s) : Mod X.K X.mg X.base := I.ok.mod
theorem Inv.kIn (I : Inv X pins σ H s) : X.K.In s.heap := I.ok.mod.kin.keeps I.bk
theorem Inv.nolimit (I : Inv X pins σ H s) : s.heap.NoLimit := I.ok.mod.nolimit.keeps I.bk
/-- the frame over the base: for OpenK's rules (K.In X.base is I.mod.kin) -/
theorem Inv.fr (I : Inv X pins σ H s) : ∃ m, Fr X.base X.env.locals s.heap m :=
  let ⟨m, hn, _⟩ := I.loc
  ⟨m, hn, I.bk, Nat.le_trans I.ok.bsz I.ok.above⟩
theorem Inv.lt (I : Inv X pins σ H s) : X.env.locals < s.heap.objs.size := let ⟨_, hn, _⟩ := I.loc; hn.lt
theorem Inv.sz (I : Inv X pins σ H s) : X.s₀.heap.objs.size ≤ s.heap.objs.size := Nat.le_trans I.ok.above (Nat.le_of_lt I.lt)
theorem Inv.nofs (I : Inv X pins σ H s) {a : Addr} (h : s.heap.objs.size ≤ a) : a ∉ X.fs := fun hb => by
  obtain ⟨_, o, ho, _⟩ := I.ok.funs.mem hb
  exact absurd (Nat.lt_of_lt_of_le (Heap.lt_size ho) (Nat.le_trans I.sz h)) (Nat.lt_irrefl _)
theorem Inv.cne (I : Inv X pins σ H s) : ∀ x c, X.env.cells.lookup x = some c → c ≠ X.env.locals := fun x c e z => by
  obtain ⟨v, o, ho, hd⟩ := I.cell x c e
  obtain ⟨m, ⟨o', es, ep, ho', hd', _⟩, _⟩ := I.loc
  rw [z, ho'] at ho; cases ho; rw [hd'] at hd; cases hd
theorem Inv.funs (I : Inv X pins σ H s) : s.heap.FunFrames X.base X.outer := by
  have all : ∀ (l : List Env), (∀ b ∈ frs l, b ∈ X.fs) → X.s₀.heap.FunFrames X.base l → s.heap.FunFrames X.base l := by
    intro l
    induction l with
    | nil => intro _ _; trivial
    | cons env r ih =>
      intro hs hl
      obtain ⟨hk, ⟨L, o, hf, hn, ho, hd⟩, hr⟩ := hl
      have hL : L ∈ X.fs := hs L (by unfold frs; rw [List.filterMap_cons, hf]; exact List.mem_cons_self)
      obtain ⟨sl, e⟩ := I.base.slot L o ho (I.ok.frf L hL) hL fun z => I.ok.exfs L z hL
      exact ⟨hk, ⟨L, _, hf, hn, e, hd⟩, ih (fun b hb => hs b (by unfold frs; rw [List.filterMap_cons, hf]; exact List.mem_cons_of_mem _ hb)) hr⟩
  exact all X.outer (fun _ hb => hb) I.ok.funs
/-- the frames that run, for a call -/
theorem Inv.stack (I : Inv X pins σ H s) : s.heap.FunFrames X.base X.stack := by
  rcases I.ok.stk with e | ⟨e, hf⟩
  · rw [e]; exact I.funs
  · rw [e]
    obtain ⟨m, hn, _⟩ := I.loc
    refine .cons (by rw [I.ok.kind]; decide) hf hn ?_ I.funs
    exact Heap.get?_none_of_le (Nat.le_trans I.ok.bsz I.ok.above)
theorem Inv.stkSub (I : Inv X pins σ H s) : ∀ b ∈ frs X.stack, b ∈ X.env.locals :: X.fs := fun b hb => by
  rcases I.ok.stk with e | ⟨e, hf⟩
  · rw [e] at hb; exact List.mem_cons_of_mem _ hb
  · rw [e] at hb
    unfold frs at hb
    rw [List.filterMap_cons, hf] at hb
    exact hb
theorem Inv.stkFree (I : Inv X pins σ H s) : ∀ b ∈ frs X.stack, H b = none := fun b hb => by
  rcases List.mem_cons.mp (I.stkSub b hb) with e | hb
  · rw [e]; exact I.free
  · obtain ⟨_, o, ho, _⟩ := I.ok.funs.mem hb
    exact I.base.free b o ho (I.ok.frf b hb) fun z => I.ok.exfs b z hb
/-- THE STEP: the untracked objects but the frame and the records at ch are kept (the callers' frames up to slots), the frame's map is kept, the new abstract heap is held -/
theorem Inv.step {g' : Array GenState} {t' : Nat} {d' : Drawn} {ch : List Addr} (I : Inv X pins σ H s)
    (hch : ∀ b ∈ ch, (b ∈ X.ex ∨ X.s₀.heap.objs.size ≤ b) ∧ b ≠ X.env.locals ∧ (∀ x c, X.env.cells.lookup x = some c → c ≠ b) ∧ ∀ p ∈ X.pn ++ pins, p.1 ≠ b)
    (keep : ∀ b o, b ≠ X.env.locals → b ∉ X.fs → b ∉ ch → s.heap.get? b = some o → H b = none → h'.get? b = some o)
    (slot : ∀ b o, b ≠ X.env.locals → b ∈ X.fs → b ∉ ch → s.heap.get? b = some o → H b = none → ∃ sl, h'.get? b = some { o with slots := sl }) (free : ∀ b o, b ∉ ch → s.heap.get? b = some o → H b = none → H' b = none)
    (there : ∀ b o, b ∉ ch → s.heap.get? b = some o → ∃ o', h'.get? b = some o')
    (tups : ∀ b xs, H b = some (.tup xs) → H' b = some (.tup xs)) (frzs : ∀ b o u, H b = some (.frz o u) → H' b = some (.frz o u)) (tbls : ∀ b q, H b = some (.tbl q) → H' b = some (.tbl q))
    (ns : ∀ m, s.heap.Ns X.env.locals m → h'.Ns X.env.locals m) (hok : HOk X.prog X.w H' h') (hg : AllBare g') :
    Inv X pins σ H' { s with heap := h', gens := g', drawn := d', toks := t' } := by
  have neL : ∀ b o, X.s₀.heap.get? b = some o → b ≠ X.env.locals := fun b o e => Nat.ne_of_lt (Nat.lt_of_lt_of_le (Heap.lt_size e) I.ok.above)
  have neC : ∀ b o, X.s₀.heap.get? b = some o → b ∉ X.ex → b ∉ ch := fun b o e hx hb => by
    rcases (hch b hb).1 with z | z
    · exact hx z
    · exact absurd (Nat.lt_of_lt_of_le (Heap.lt_size e) z) (Nat.lt_irrefl _)
  have cellK : ∀ x c, X.env.cells.lookup x = some c → ∀ v, s.heap.IsCell c v → h'.IsCell c v := fun x c e v ⟨o, ho, hd⟩ => by
    have nch : c ∉ ch := fun z => (hch c z).2.2.1 x c e rfl
    rcases I.freeC x c e with fc | ⟨_, ob, u, fc⟩
    · by_cases hc : c ∈ X.fs
      · obtain ⟨sl, q⟩ := slot c o (I.cne x c e) hc nch ho fc
        exact ⟨_, q, hd⟩
      · exact ⟨o, keep c o (I.cne x c e) hc nch ho fc, hd⟩
    · obtain ⟨e1, _⟩ := I.hok c _ fc
      obtain ⟨e2, _⟩ := hok c _ (frzs c ob u fc)
      rw [e1] at ho; cases ho
      exact ⟨_, e2, hd⟩
  refine ⟨I.ok, I.os, hg, ⟨fun b o e n hb hx => ?_, fun b o e n hb hx => ?_, fun b o e n hx => ?_, fun b o e hx => ?_, fun b xs e => tups b xs (I.base.tups b xs e), fun b o xs e => frzs b o xs (I.base.frzs b o xs e), fun b ps e => ?_⟩, ?_, fun x c e => ?_, ?_, fun x c e => ?_, fun p hp => ?_, hok, I.len⟩
  · exact keep b o (neL b o e) hb (neC b o e hx) (I.base.keep b o e n hb hx) (I.base.free b o e n hx)
  · obtain ⟨sl, e1⟩ := I.base.slot b o e n hb hx
    obtain ⟨sl', e2⟩ := slot b _ (neL b o e) hb (neC b o e hx) e1 (I.base.free b o e n hx)
    exact ⟨sl', e2⟩
  · obtain ⟨o', e1⟩ := I.base.there b o e hx
    exact free b o' (neC b o e hx) e1 (I.base.free b o e n hx)
  · obtain ⟨o', e1⟩ := I.base.there b o e hx
    exact there b o' (neC b o e hx) e1
  · exact tbls b ps (I.base.tbls b ps e)
  · obtain ⟨m, hn, hl⟩ := I.loc
    refine ⟨m, ns m hn, fun i x v e1 e2 e3 => ?_⟩
    obtain ⟨u, r, l⟩ := hl i x v e1 e2 e3
    refine ⟨u, r, ?_⟩
    rcases l with l | ⟨k, c, e, z⟩
    · exact .inl l
    · exact .inr ⟨k, c, e, cellK x c e _ z⟩
  · obtain ⟨v, z⟩ := I.cell x c e
    exact ⟨v, cellK x c e v z⟩
  · obtain ⟨m, ⟨o, _, _, ho, _⟩, _⟩ := I.loc
    exact free _ o (fun z => (hch _ z).2.1 rfl) ho I.free
  · obtain ⟨v, o, ho, hd⟩ := I.cell x c e
    rcases I.freeC x c e with fc | ⟨f, ob, u, fc⟩
    · exact .inl (free c o (fun z => (hch c z).2.2.1 x c e rfl) ho fc)
    · exact .inr ⟨f, ob, u, frzs c ob u fc⟩
  · obtain ⟨e, n, ne, nf, d⟩ := I.pin p hp
    have nch : p.1 ∉ ch := fun z => (hch p.1 z).2.2.2 p hp rfl
    exact ⟨keep p.1 p.2 ne nf nch e n, free p.1 p.2 nch e n, ne, nf, d⟩
/-- .. where the frame's own object is kept too -/
theorem Inv.un {t' : Nat} (I : Inv X pins σ H s) (u : Un X.fs [] H H' s.heap h') (hok : HOk X.prog X.w H' h') : Inv X pins σ H' { s with heap := h', toks := t' } := by
  obtain ⟨m, ⟨o, es, ep, ho, r⟩, _⟩ := id I.loc
  obtain ⟨sl, hL⟩ := u.any ho I.free (by simp)
  exact I.step (g' := s.gens) (d' := s.drawn) (ch := []) (fun _ z => nomatch z) (fun b o _ hb _ e n => u.keep b o e n hb (by simp)) (fun b o _ hb _ e n => u.slot b o e n hb (by simp)) (fun b o _ e n => u.free b o e n (by simp)) (fun b o _ e => u.there b o e (by simp)) u.tups u.frzs u.tbls (fun m' hm => by
    obtain ⟨o', es', ep', ho', r'⟩ := hm
    rw [ho] at ho'; cases ho'
    exact ⟨_, es', ep', hL, r'⟩) hok I.bare
/-- behind a call (or a comprehension's block): the slots of this frame may have changed too, the records at ch may have turned -/
theorem Inv.call {g' : Array GenState} {t' : Nat} {d' : Drawn} {ch : List Addr} (I : Inv X pins σ H s) (u : Un (frs X.stack) ch H H' s.heap h') (hok : HOk X.prog X.w H' h') (hg : AllBare g')
    (hch : ∀ b ∈ ch, (b ∈ X.ex ∨ X.s₀.heap.objs.size ≤ b) ∧ b ≠ X.env.locals ∧ (∀ x c, X.env.cells.lookup x = some c → c ≠ b) ∧ ∀ p ∈ X.pn ++ pins, p.1 ≠ b) :
    Inv X pins σ H' { s with heap := h', gens := g', drawn := d', toks := t' } := by
  obtain ⟨m, ⟨o, es, ep, ho, r⟩, _⟩ := id I.loc
  obtain ⟨sl, hL⟩ := u.any ho I.free fun z => (hch _ z).2.1 rfl
  exact I.step (ch := ch) hch (fun b o hL hb hc e n => u.keep b o e n (fun z => (List.mem_cons.mp (I.stkSub b z)).elim hL hb) hc) (fun b o _ _ hc e n => u.any e n hc) (fun b o hc e n => u.free b o e n hc) (fun b o hc e => u.there b o e hc) u.tups u.frzs u.tbls (fun m' hm => by
    obtain ⟨o', es', ep', ho', r'⟩ := hm
    rw [ho] at ho'; cases ho'
    exact ⟨_, es', ep', hL, r'⟩) hok hg
/-- an untracked record of ours (an iterator) has turned -/
theorem Inv.turned {t' : Nat} {it : Addr} (I : Inv X pins σ H s) (k : ∀ b o, b ≠ it → s.heap.get? b = some o → h'.get? b = some o) (hn : H it = none) (hL : it ≠ X.env.locals)
    (h1 : it ∈ X.ex ∨ X.s₀.heap.objs.size ≤ it) (h2 : ∀ x c, X.env.cells.lookup x = some c → c ≠ it) (h3 : ∀ p ∈ X.pn ++ pins, p.1 ≠ it) : Inv X pins σ H { s with heap := h', toks := t' } := by
  have nit : ∀ b u, H b = some u → b ≠ it := fun b u e z => by rw [z, hn] at e; cases e
  refine I.step (g' := s.gens) (d' := s.drawn) (ch := [it]) (fun b hb => ?_) (fun b o _ _ hc e _ => k b o (fun z => hc (by simp [z])) e) (fun b o _ _ hc e _ => ⟨o.slots, k b o (fun z => hc (by simp [z])) e⟩) (fun _ _ _ _ n => n)
    (fun b o hc e => ⟨o, k b o (fun z => hc (by simp [z])) e⟩) (fun _ _ e => e) (fun _ _ _ e => e) (fun _ _ e => e) (fun m hm => ?_) (fun b u e => ?_) I.bare
  · have e : b = it := by simpa using hb
    subst e
    exact ⟨h1, hL, h2, h3⟩
  · obtain ⟨o, es, ep, ho, r⟩ := hm
    exact ⟨o, es, ep, k _ o (Ne.symm hL) ho, r⟩
  · refine (I.hok b u e).stay (fun c v hc q => k c v ?_ q) (fun _ q => q) (fun _ _ q => q) fun _ _ _ q => q
    rcases hc with z | z
    · rw [z]; exact nit b u e
    · exact nit c _ z
theorem Inv.tok (I : Inv X pins σ H s) (t : Nat) : Inv X pins σ H { s with toks := t } := I.un (h' := s.heap) (t' := t) Un.refl I.hok
/-- all objects kept -/
theorem Inv.kept {t' : Nat} (I : Inv X pins σ H s) (k : ∀ b u, s.heap.get? b = some u → h'.get? b = some u) : Inv X pins σ H { s with heap := h', toks := t' } := I.un (Un.kept k) (I.hok.kept k)
/-- a new object laid and tracked -/
theorem Inv.laid {a : Addr} {o : HO} {t' : Nat} (I : Inv X pins σ H s) (k : ∀ b u, s.heap.get? b = some u → h'.get? b = some u) (hp : s.heap.objs.size ≤ a) (new : ObjOk X.prog X.w (upd H a o) h' a o) :
    Inv X pins σ (upd H a o) { s with heap := h', toks := t' } := I.un (Un.laid k hp (I.hok.fresh hp)) (I.hok.laid k hp new)
/-- an object written -/
theorem Inv.write {x e : Addr} {o : HO} {t' : Nat} (I : Inv X pins σ H s) (mu : Mut (H x)) (he : e = x ∨ H e = some (.own x)) (k : ∀ b u, b ≠ e → s.heap.get? b = some u → h'.get? b = some u) (heo : ∃ u, h'.get? e = some u)
    (new : ObjOk X.prog X.w (upd H x o) h' x o) : Inv X pins σ (upd H x o) { s with heap := h', toks := t' } := I.un (Un.write mu he k heo) (I.hok.write mu he k heo new)
/-- forgetting slots, pins -/
theorem Inv.weak {σ' : List (Option V)} (I : Inv X pins σ H s) (hl : σ'.length = σ.length) (w : ∀ (i : Nat) v, σ'[i]? = some (some v) → σ[i]? = some (some v)) : Inv X pins σ' H s :=
  ⟨I.ok, I.os, I.bare, I.base, let ⟨m, hn, hl'⟩ := I.loc; ⟨m, hn, fun i x v e1 e2 e3 => hl' i x v e1 (w i v e2) e3⟩, I.cell, I.free, I.freeC, I.pin, I.hok, hl.trans I.len⟩
theorem Inv.pins_of {pins' : List (Addr × Obj)} (I : Inv X pins σ H s) (h : ∀ p ∈ pins', s.heap.get? p.1 = some p.2 ∧ H p.1 = none ∧ p.1 ≠ X.env.locals ∧ p.1 ∉ X.fs ∧ ∀ v, p.2.data ≠ .cell v) : Inv X pins' σ H s :=
  ⟨I.ok, I.os, I.bare, I.base, I.loc, I.cell, I.free, I.freeC, fun p hp => (List.mem_append.mp hp).elim (fun z => I.pin p (List.mem_append_left _ z)) (h p), I.hok, I.len⟩
theorem nodup_ix {N : List Str} (hN : N.Nodup) {i j : Nat} {x : Str} (a : N[i]? = some x) (b : N[j]? = some x) : i = j := by
  obtain ⟨h1, e1⟩ := List.getElem?_eq_some_iff.mp a
  obtain ⟨h2, e2⟩ := List.getElem?_eq_some_iff.mp b
  exact (List.getElem_inj hN).mp (e1.trans e2.symm)
/-- a name is stored; what changed -/
theorem store_ok2 {M : Model} {A : Around} {E : Value → Shared → Prop} {i : Nat} {x : Str} {v : V} {u : Value} {Q : Unit → Shared → Prop} (I : Inv X pins σ H s) (hN : X.N.Nodup) (hi : X.N[i]? = some x) (hx : Loc X.env.scope x) (r : RelV v u)
    (h : ∀ s', Inv X pins (σ.set i (some v)) H s' → (∃ a, Heap.SameBut a s.heap s'.heap ∧ (a = X.env.locals ∨ X.env.cells.lookup x = some a)) → Q () s') (hf : X.fn x = true ∨ X.env.scope.names.lookup x = some .local := by first | exact .inl rfl | exact .inr rfl | assumption) : wpAny M A (storeName X.env x u) Q E s := by
  obtain ⟨m, hn, hl⟩ := id I.loc
  have hcls : (X.env.scope.kind == .class || (X.env.scope.kind == .module && X.env.locals != X.env.globals)) = false := by rw [I.ok.kind]; rfl
  have hiσ : i < σ.length := by rw [I.len]; exact (List.getElem?_eq_some_iff.mp hi).1
  have cne := I.cne
  have tracked : ∀ {a : Addr} {h' : Heap}, (∃ o, s.heap.get? a = some o ∧ H a = none) → Heap.SameBut a s.heap h' → HOk X.prog X.w H h' := fun {a h'} ha hs b ob e => by
    obtain ⟨_, _, hfree⟩ := ha
    refine (I.hok b ob e).stay (fun c w' hc q => (hs.2 c ?_).trans q) (fun _ q => q) (fun _ _ q => q) fun _ _ _ q => q
    rintro rfl
    rcases hc with rfl | hc
    · rw [hfree] at e; cases e
    · rw [hfree] at hc; cases hc
  rcases hx with hk | hk
  · refine wpAny_storeName_local hk hn (fun h' hn' hs => ?_) hcls
    obtain ⟨oL, _, _, hoL, _⟩ := id hn
    refine h _ ⟨I.ok, I.os, I.bare, ⟨fun b o e n hb hx => ?_, fun b o e n hb hx => ?_, I.base.free, fun b o e hx => ?_, I.base.tups, I.base.frzs, I.base.tbls⟩, ⟨_, hn', fun j y v' e1 e2 e3 => ?_⟩, fun y c e => ?_, I.free, I.freeC, fun p hp => ?_, tracked ⟨oL, hoL, I.free⟩ hs, by simpa using I.len⟩ ⟨_, hs, .inl rfl⟩
    · exact (hs.2 b (Nat.ne_of_lt (Nat.lt_of_lt_of_le (Heap.lt_size e) I.ok.above))).trans (I.base.keep b o e n hb hx)
    · obtain ⟨sl, e1⟩ := I.base.slot b o e n hb hx
      exact ⟨sl, (hs.2 b (Nat.ne_of_lt (Nat.lt_of_lt_of_le (Heap.lt_size e) I.ok.above))).trans e1⟩
    · obtain ⟨o', e1⟩ := I.base.there b o e hx
      exact ⟨o', (hs.2 b (Nat.ne_of_lt (Nat.lt_of_lt_of_le (Heap.lt_size e) I.ok.above))).trans e1⟩
    · by_cases hj : j = i
      · subst hj
        rw [hi] at e1; cases e1
        rw [List.getElem?_set_self hiσ] at e2
        cases e2
        exact ⟨u, r, .inl ⟨hk, by simp⟩⟩
      · rw [List.getElem?_set_ne (Ne.symm hj)] at e2
        obtain ⟨u', r', q⟩ := hl j y v' e1 e2 e3
        refine ⟨u', r', ?_⟩
        rcases q with ⟨k, e⟩ | ⟨k, c, e, z⟩
        · refine .inl ⟨k, ?_⟩
          have : y ≠ x := fun e => hj (nodup_ix hN e1 (e ▸ hi))
          simp [this, e]
        · exact .inr ⟨k, c, e, z.sameBut hs (cne y c e)⟩
    · obtain ⟨w', z⟩ := I.cell y c e
      exact ⟨w', z.sameBut hs (cne y c e)⟩
    · obtain ⟨e, n, ne, nf, d⟩ := I.pin p hp
      exact ⟨(hs.2 p.1 ne).trans e, n, ne, nf, d⟩
  · have hfn : X.fn x = true := by
      rcases hf with z | z
      · exact z
      · rw [z] at hk; cases hk
    obtain ⟨c, hc⟩ := I.ok.has x (.inl hk)
    obtain ⟨w', z⟩ := I.cell x c hc
    refine wpAny_storeName_cell I.ok.kind hk hc z (fun h' hc' hs => ?_)
    obtain ⟨oc, hoc, hocd⟩ := id z
    have hcf : H c = none := by
      rcases I.freeC x c hc with q | ⟨q, _⟩
      · exact q
      · rw [hfn] at q; cases q
    refine h { s with heap := h' } ⟨I.ok, I.os, I.bare, ⟨fun b o e n hb hx => ?_, fun b o e n hb hx => ?_, I.base.free, fun b o e hx => ?_, I.base.tups, I.base.frzs, I.base.tbls⟩, ⟨m, hn.sameBut hs (Ne.symm (cne x c hc)), fun j y v' e1 e2 e3 => ?_⟩, fun y c' e => ?_, I.free, I.freeC, fun p hp => ?_, tracked ⟨oc, hoc, hcf⟩ hs, by simpa using I.len⟩ ⟨c, hs, .inr hc⟩
    · exact (hs.2 b (Nat.ne_of_lt (Nat.lt_of_lt_of_le (Heap.lt_size e) (I.ok.cab x c (I.ok.fc x hfn) hc)))).trans (I.base.keep b o e n hb hx)
    · obtain ⟨sl, e1⟩ := I.base.slot b o e n hb hx
      exact ⟨sl, (hs.2 b (Nat.ne_of_lt (Nat.lt_of_lt_of_le (Heap.lt_size e) (I.ok.cab x c (I.ok.fc x hfn) hc)))).trans e1⟩
    · obtain ⟨o', e1⟩ := I.base.there b o e hx
      exact ⟨o', (hs.2 b (Nat.ne_of_lt (Nat.lt_of_lt_of_le (Heap.lt_size e) (I.ok.cab x c (I.ok.fc x hfn) hc)))).trans e1⟩
    · by_cases hj : j = i
      · subst hj
        rw [hi] at e1; cases e1
        rw [List.getElem?_set_self hiσ] at e2
        cases e2
        exact ⟨u, r, .inr ⟨.inl hk, c, hc, hc'⟩⟩
      · rw [List.getElem?_set_ne (Ne.symm hj)] at e2
        obtain ⟨u', r', q⟩ := hl j y v' e1 e2 e3
        refine ⟨u', r', ?_⟩
        rcases q with q | ⟨k, c', e, z'⟩
        · exact .inl q
        · refine .inr ⟨k, c', e, z'.sameBut hs ?_⟩
          rintro rfl
          exact hj (nodup_ix hN e1 (I.ok.inj _ _ _ e hc ▸ hi))
    · by_cases hcc : c' = c
      · subst hcc; exact ⟨_, hc'⟩
      · obtain ⟨w2, z2⟩ := I.cell y c' e
        exact ⟨w2, z2.sameBut hs hcc⟩
    · obtain ⟨e, n, ne, nf, d⟩ := I.pin p hp
      refine ⟨(hs.2 p.1 ?_).trans e, n, ne, nf, d⟩
      intro q
      rw [q, hoc] at e
      have q' : oc = p.2 := Option.some.inj e
      exact d w' (by rw [← q']; exact hocd)
theorem store_ok {M : Model} {A : Around} {E : Value → Shared → Prop} {i : Nat} {x : Str} {v : V} {u : Value} {Q : Unit → Shared → Prop} (I : Inv X pins σ H s) (hN : X.N.Nodup) (hi : X.N[i]? = some x) (hx : Loc X.env.scope x) (r : RelV v u)
    (h : ∀ s', Inv X pins (σ.set i (some v)) H s' → Q () s') (hf : X.fn x = true ∨ X.env.scope.names.lookup x = some .local := by first | exact .inl rfl | exact .inr rfl | assumption) : wpAny M A (storeName X.env x u) Q E s :=
  store_ok2 I hN hi hx r (fun s' I' _ => h s' I') hf
/-- behind a call or a block, the state as it is -/
theorem Inv.call' {s' : Shared} {ch : List Addr} (I : Inv X pins σ H s) (ho : s'.os = s.os) (u : Un (frs X.stack) ch H H' s.heap s'.heap) (hok : HOk X.prog X.w H' s'.heap) (hg : AllBare s'.gens)
    (hch : ∀ b ∈ ch, (b ∈ X.ex ∨ X.s₀.heap.objs.size ≤ b) ∧ b ≠ X.env.locals ∧ (∀ x c, X.env.cells.lookup x = some c → c ≠ b) ∧ ∀ p ∈ X.pn ++ pins, p.1 ≠ b) : Inv X pins σ H' s' := by
  obtain ⟨h', g', d', t', o'⟩ := s'
  have e : o' = s.os := ho
  subst e
  exact I.call (g' := g') (t' := t') (d' := d') u hok hg hch
end
/-! ### the judgements -/
/-- an exception: its class, its own dict's address (where it has one), the abstract heap behind it -/
abbrev XK := Value → Option Addr → Hp → Prop
abbrev St := List (Option V)
abbrev VK := V → Hp → Prop
/-- an expression's reading; a test's; an argument list's -/
abbrev TE := St → Hp → VK → Prop
abbrev TT := St → Hp → (Bool → Hp → Prop) → Prop
abbrev TA := St → Hp → (List V → Hp → Prop) → Prop
/-- what is wanted behind a statement -/
structure Ends where
  nx : St → Hp → Prop
  rt : VK
  bk : St → Hp → Prop := fun _ _ => False
  ct : St → Hp → Prop := fun _ _ => False
abbrev TS := Ends → St → Hp → Prop
/-- what is left of the state when the frame is gone -/
structure Fin (X : Cx) (H : Hp) (s : Shared) : Prop where
  os : s.os = X.s₀.os
  bare : AllBare s.gens
  base : Un X.fs X.ex X.H₀ H X.s₀.heap s.heap
  hok : HOk X.prog X.w H s.heap
theorem Inv.fin {X : Cx} {pins : List (Addr × Obj)} {σ : St} {H : Hp} {s : Shared} (I : Inv X pins σ H s) : Fin X H s := ⟨I.os, I.bare, I.base, I.hok⟩
def EP (X : Cx) (pins : List (Addr × Obj)) (σ : St) (Q : VK) (u : Value) (s' : Shared) : Prop := ∃ v H', Inv X pins σ H' s' ∧ RelV v u ∧ Q v H'
def TP (X : Cx) (pins : List (Addr × Obj)) (σ : St) (Q : Bool → Hp → Prop) (b : Bool) (s' : Shared) : Prop := ∃ H', Inv X pins σ H' s' ∧ Q b H'
def AP (X : Cx) (pins : List (Addr × Obj)) (σ : St) (Q : List V → Hp → Prop) (us : List Value) (s' : Shared) : Prop := ∃ vs H', Inv X pins σ H' s' ∧ Vals vs us ∧ Q vs H'
def SP (X : Cx) (pins : List (Addr × Obj)) (D : Ends) (f : Flow) (s' : Shared) : Prop :=
  match f with
  | .next => ∃ σ' H', Inv X pins σ' H' s' ∧ D.nx σ' H'
  | .brk => ∃ σ' H', Inv X pins σ' H' s' ∧ D.bk σ' H'
  | .cont => ∃ σ' H', Inv X pins σ' H' s' ∧ D.ct σ' H'
  | .ret u => ∃ v H', Fin X H' s' ∧ RelV v u ∧ D.rt v H'
def PE (X : Cx) (e : Expr) (t : TE) : Prop :=
  ∀ (pins : List (Addr × Obj)) (s : Shared) (σ : St) (H : Hp) (Q : VK), Inv X pins σ H s → t σ H Q → wpAny (model X.prog X.w) X.A (eval e X.env) (EP X pins σ Q) X.xe s
def PT (X : Cx) (e : Expr) (t : TT) : Prop :=
  ∀ (pins : List (Addr × Obj)) (s : Shared) (σ : St) (H : Hp) (Q : Bool → Hp → Prop), Inv X pins σ H s → t σ H Q → wpAny (model X.prog X.w) X.A (isTrue e X.env (eval e X.env)) (TP X pins σ Q) X.xe s
/-- a test whatever its 'whole' is (and, or) -/
def PW (X : Cx) (e : Expr) (t : TT) : Prop :=
  ∀ (whole : Sem Value) (pins : List (Addr × Obj)) (s : Shared) (σ : St) (H : Hp) (Q : Bool → Hp → Prop), Inv X pins σ H s → t σ H Q → wpAny (model X.prog X.w) X.A (isTrue e X.env whole) (TP X pins σ Q) X.xe s
theorem PW.pt {X : Cx} {e : Expr} {t : TT} (h : PW X e t) : PT X e t := h _
/-- an argument list (no star), from the left -/
def PA (X : Cx) (es : List Expr) (t : TA) : Prop :=
  ∀ (pos : Pos) (pins : List (Addr × Obj)) (s : Shared) (σ : St) (H : Hp) (Q : List V → Hp → Prop), Inv X pins σ H s → t σ H Q → wpAny (model X.prog X.w) X.A (spliced (backTo pos (starEach es X.env))) (AP X pins σ Q) X.xe s
def PS (X : Cx) (st : Stmt) (t : TS) : Prop :=
  ∀ (pins : List (Addr × Obj)) (s : Shared) (σ : St) (H : Hp) (D : Ends), Inv X pins σ H s → t D σ H → wpAny (model X.prog X.w) X.A (exec st X.env) (SP X pins D) X.xe s
def PSs (X : Cx) (st : List Stmt) (t : TS) : Prop :=
  ∀ (pins : List (Addr × Obj)) (s : Shared) (σ : St) (H : Hp) (D : Ends), Inv X pins σ H s → t D σ H → wpAny (model X.prog X.w) X.A (execs st X.env) (SP X pins D) X.xe s
/-- weaken the end -/
theorem thn {α : Type} {t : Sem α} {Q Q' : α → Shared → Prop} {M : Model} {A : Around} {E : Value → Shared → Prop} {s : Shared} (h : wpAny M A t Q E s) (hQ : ∀ a s, Q a s → Q' a s) : wpAny M A t Q' E s := wpAny_mono h hQ fun _ _ x => x
end L2
namespace L2
open PySem PySem.Spec PyProof.Rows
section
variable {X : Cx}
/-! ### names and constants -/
def tVar (i : Nat) : TE := fun σ H Q => ∃ v, σ[i]? = some (some v) ∧ Q v H
def tC (v : V) : TE := fun _ H Q => Q v H
theorem pe_var {i : Nat} {x : Str} {pos : Pos} (hN : X.N[i]? = some x) (hv : Vis X.env.scope x) (hd : (x == ("__debug__" : Str)) = false := by decide) (hcd : (x == ("__classdict__" : Str)) = false := by decide) : PE X (.Name x pos) (tVar i) := by
  intro pins s σ H Q I h
  obtain ⟨v, e, h⟩ := h
  obtain ⟨m, hn, hl⟩ := I.loc
  obtain ⟨u, r, l⟩ := hl i x v hN e hv
  have fin : EP X pins σ Q u s := ⟨v, H, I, r, h⟩
  rcases l with ⟨hk, hm⟩ | ⟨hk, c, hc, hcell⟩
  · exact wpAny_Name (wpAny_loadName_local I.ok.kind hk hn hm fin) hd
  · rcases hk with hk | hk
    · exact wpAny_Name (wpAny_loadName_cell I.ok.kind hk hc hcell fin) hd
    · exact wpAny_Name (wpAny_loadName_free I.ok.kind hk hc hcell fin hcd) hd
theorem pe_int {i j pos} : PE X (.Constant (.int i) j pos) (tC (.int i)) := fun _ _ _ H _ I h => wpAny_Constant_int ⟨.int i, H, I.tok _, ⟨_, rfl⟩, h⟩
theorem pe_bl {b j pos} : PE X (.Constant (.bool b) j pos) (tC (.bl b)) := fun _ _ _ H _ I h => Constant_bool ⟨.bl b, H, I, rfl, h⟩
theorem pe_non {j pos} : PE X (.Constant .none j pos) (tC .non) := fun _ _ _ H _ I h => Constant_none ⟨.non, H, I, rfl, h⟩
theorem pe_str {x j pos} : PE X (.Constant (.str x) j pos) (tC (.str x)) := fun _ _ _ H _ I h => Calls.Constant_str ⟨.str x, H, I.tok _, ⟨_, rfl⟩, h⟩
/-- a global name of the def -/
def Gl (X : Cx) (x : Str) : Prop := X.env.kindOf x = some .globalImplicit
theorem ld_glob {E : Value → Shared → Prop} {pins : List (Addr × Obj)} {s : Shared} {σ : St} {H : Hp} {x : Str} {u : Value} {pos : Pos} {Q : Value → Shared → Prop} (I : Inv X pins σ H s) (hg : Gl X x) (hm : X.mg x = some u) (h : Q u s)
    (hd : (x == ("__debug__" : Str)) = false := by decide) : wpAny (model X.prog X.w) X.A (eval (.Name x pos) X.env) Q E s :=
  Calls.Name_function_global I.ok.kind hg (Calls.loadGlobal_global (by rw [I.ok.glob]; exact I.mod.glob.keeps I.bk) hm h) hd
theorem ld_blt {E : Value → Shared → Prop} {pins : List (Addr × Obj)} {s : Shared} {σ : St} {H : Hp} {x : Str} {u : Value} {pos : Pos} {Q : Value → Shared → Prop} (I : Inv X pins σ H s) (hg : Gl X x) (hm : X.mg x = none) (hv : bootBuiltins x = some u) (h : Q u s)
    (hn : x ≠ "__name__" := by decide) (hd : (x == ("__debug__" : Str)) = false := by decide) : wpAny (model X.prog X.w) X.A (eval (.Name x pos) X.env) Q E s := by
  obtain ⟨mb, h1, h2⟩ := I.mod.blt
  exact Calls.Name_function_global I.ok.kind hg (Calls.loadGlobal_builtin (by rw [I.ok.glob]; exact I.mod.glob.keeps I.bk) hm (by rw [I.ok.blt]; exact h1.keeps I.bk) ((h2 x hn).trans hv) h) hd
/-- a module's constant, a class, a function, as a value -/
theorem pe_glob {x : Str} {v : V} {u : Value} {pos : Pos} (hg : Gl X x) (hm : X.mg x = some u) (r : RelV v u) (hd : (x == ("__debug__" : Str)) = false := by decide) : PE X (.Name x pos) (tC v) :=
  fun _ _ _ H _ I h => ld_glob I hg hm ⟨v, H, I, r, h⟩ hd
variable {a b : Expr} {ta tb : TE} {pos : Pos}
/-! ### comparisons -/
def PC (X : Cx) (op : CmpOp) (a b : Expr) (t : TE) : Prop :=
  ∀ (pins : List (Addr × Obj)) (s : Shared) (σ : St) (H : Hp) (Q : VK), Inv X pins σ H s → t σ H Q →
    wpAny (model X.prog X.w) X.A (eval a X.env) (fun v s₁ => wpAny (model X.prog X.w) X.A (eval b X.env) (fun u s₂ => wpAny (model X.prog X.w) X.A (compareOp op v u) (EP X pins σ Q) X.xe s₂) X.xe s₁) X.xe s
theorem nobehind (b : Expr) {op : CmpOp} (h : op ≠ .In) (h2 : op ≠ .NotIn) : behindInMarks op b = false := by
  have e1 : (op == CmpOp.In) = false := by cases op <;> first | rfl | exact absurd rfl h
  have e2 : (op == CmpOp.NotIn) = false := by cases op <;> first | rfl | exact absurd rfl h2
  cases b <;> simp [behindInMarks, e1, e2]
/-- is None -/
def tIsN (ta : TE) : TE := fun σ H Q => ta σ H fun x H1 => Q (.bl (decide (x = .non))) H1
def tNotN (ta : TE) : TE := fun σ H Q => ta σ H fun x H1 => Q (.bl (!decide (x = .non))) H1
theorem RelV.none_iff {x : V} {v : Value} (r : RelV x v) : (v == Value.none) = decide (x = .non) := by
  cases x with
  | non => cases r; rfl
  | bl _ => cases r; rfl
  | int _ => obtain ⟨t, rfl⟩ := r; rfl
  | str _ => obtain ⟨t, rfl⟩ := r; rfl
  | byt _ => obtain ⟨t, rfl⟩ := r; rfl
  | flt _ => obtain ⟨t, rfl⟩ := r; rfl
  | ref _ => cases r; rfl
  | ty _ => cases r; rfl
theorem pc_isN {j pos'} (ha : PE X a ta) : PC X .Is a (.Constant .none j pos') (tIsN ta) := by
  intro pins s σ H Q I h
  refine thn (ha pins s σ H _ I h) fun v s1 ⟨x, H1, I1, r1, q1⟩ => ?_
  exact Constant_none (is_none_gen ⟨.bl _, H1, I1, by rw [r1.none_iff]; rfl, q1⟩)
theorem pc_notN {j pos'} (ha : PE X a ta) : PC X .IsNot a (.Constant .none j pos') (tNotN ta) := by
  intro pins s σ H Q I h
  refine thn (ha pins s σ H _ I h) fun v s1 ⟨x, H1, I1, r1, q1⟩ => ?_
  exact Constant_none (isnot_none_gen ⟨.bl _, H1, I1, by rw [r1.none_iff]; rfl, q1⟩)
/-- a comparison as a value, as a test -/
def tB (t : TE) : TT := fun σ H Q => t σ H fun x H1 => ∃ c, x = .bl c ∧ Q c H1
theorem pe_cmp {op : CmpOp} {t : TE} (h : PC X op a b t) (h1 : behindInMarks op b = false := by first | exact nobehind _ (by decide) (by decide) | rfl) : PE X (.Compare a [op] [b] pos) t := fun pins s σ H Q I hw => wpAny_Compare1 (h pins s σ H Q I hw) h1
/-- an expression whose value is a bool, as a test -/
theorem pt_val {e : Expr} {t : TE} (h : PE X e t) (he : ∀ whole, isTrue e X.env whole = (do let v ← whole; standAt e.pos; holding [v] (truthy v)) := by intro _; rfl) : PT X e (tB t) := by
  intro pins s σ H Q I hw
  refine isTrue_plain (thn (h pins s σ H _ I hw) fun v s1 ⟨x, H1, I1, r1, q1⟩ => ?_) (he _)
  obtain ⟨d, rfl, q⟩ := q1
  cases r1
  exact wpAny_truthy_bool ⟨H1, I1, q⟩
/-! ### and, or, not -/
variable {tA tB' : TT} {rest : List Expr}
def tAnd (t u : TT) : TT := fun σ H Q => t σ H fun c H1 => if c = true then u σ H1 Q else Q false H1
def tOr (t u : TT) : TT := fun σ H Q => t σ H fun c H1 => if c = true then Q true H1 else u σ H1 Q
def tNot (t : TT) : TT := fun σ H Q => t σ H fun c H1 => Q (!c) H1
theorem pw_and1 (ha : PT X a tA) : PW X (.BoolOp .And [a] pos) tA := by
  intro wh pins s σ H Q I h
  refine isTrue_and (thn (ha pins s σ H Q I h) fun c s1 e => ?_)
  cases c with
  | true => exact isTrue_and_nil e
  | false => exact e
theorem pw_or1 (ha : PT X a tA) : PW X (.BoolOp .Or [a] pos) tA := by
  intro wh pins s σ H Q I h
  refine isTrue_or (thn (ha pins s σ H Q I h) fun c s1 e => ?_)
  cases c with
  | false => exact isTrue_or_nil e
  | true => exact e
theorem pw_and (ha : PT X a tA) (hb : PW X (.BoolOp .And (b :: rest) pos) tB') : PW X (.BoolOp .And (a :: b :: rest) pos) (tAnd tA tB') := by
  intro wh pins s σ H Q I h
  refine isTrue_and (thn (ha pins s σ H _ I h) fun c s1 ⟨H1, I1, q1⟩ => ?_)
  cases c with
  | true => exact hb wh pins s1 σ H1 Q I1 q1
  | false => exact ⟨H1, I1, q1⟩
theorem pw_or (ha : PT X a tA) (hb : PW X (.BoolOp .Or (b :: rest) pos) tB') : PW X (.BoolOp .Or (a :: b :: rest) pos) (tOr tA tB') := by
  intro wh pins s σ H Q I h
  refine isTrue_or (thn (ha pins s σ H _ I h) fun c s1 ⟨H1, I1, q1⟩ => ?_)
  cases c with
  | true => exact ⟨H1, I1, q1⟩
  | false => exact hb wh pins s1 σ H1 Q I1 q1
theorem pt_not (ha : PT X a tA) : PT X (.UnaryOp .Not a pos) (tNot tA) := by
  intro pins s σ H Q I h
  exact isTrue_not (ha pins s σ H (fun c H1 => Q (!c) H1) I h)
/-- .. as values (bools) -/
def tAndV (ta tb : TE) : TE := fun σ H Q => ta σ H fun x H1 => ∃ c, x = .bl c ∧ if c = true then tb σ H1 Q else Q (.bl false) H1
def tOrV (ta tb : TE) : TE := fun σ H Q => ta σ H fun x H1 => ∃ c, x = .bl c ∧ if c = true then Q (.bl true) H1 else tb σ H1 Q
def tNotV (ta : TE) : TE := fun σ H Q => ta σ H fun x H1 => ∃ c, x = .bl c ∧ Q (.bl (!c)) H1
theorem pe_one {op} {t : TE} (h : PE X a t) : PE X (.BoolOp op [a] pos) t := fun pins s σ H Q I hw => BoolOp_one (h pins s σ H Q I hw)
theorem pe_and (ha : PE X a ta) (hb : PE X (.BoolOp .And (b :: rest) pos) tb) : PE X (.BoolOp .And (a :: b :: rest) pos) (tAndV ta tb) := by
  intro pins s σ H Q I h
  refine BoolOp_and (thn (ha pins s σ H _ I h) fun v s1 ⟨x, H1, I1, r1, q1⟩ => ?_)
  obtain ⟨c, rfl, q1⟩ := q1
  cases r1
  refine wpAny_truthy_bool ?_
  cases c with
  | true => exact hb pins s1 σ H1 Q I1 q1
  | false => exact ⟨.bl false, H1, I1, rfl, q1⟩
theorem pe_or (ha : PE X a ta) (hb : PE X (.BoolOp .Or (b :: rest) pos) tb) : PE X (.BoolOp .Or (a :: b :: rest) pos) (tOrV ta tb) := by
  intro pins s σ H Q I h
  refine BoolOp_or (thn (ha pins s σ H _ I h) fun v s1 ⟨x, H1, I1, r1, q1⟩ => ?_)
  obtain ⟨c, rfl, q1⟩ := q1
  cases r1
  refine wpAny_truthy_bool ?_
  cases c with
  | false => exact hb pins s1 σ H1 Q I1 q1
  | true => exact ⟨.bl true, H1, I1, rfl, q1⟩
theorem pe_not (ha : PE X a ta) : PE X (.UnaryOp .Not a pos) (tNotV ta) := by
  intro pins s σ H Q I h
  refine UnaryOp_ (thn (ha pins s σ H _ I h) fun v s1 ⟨x, H1, I1, r1, q1⟩ => ?_)
  obtain ⟨c, rfl, q1⟩ := q1
  cases r1
  exact not_of (wpAny_truthy_bool ⟨.bl (!c), H1, I1, rfl, q1⟩)
end
end L2
namespace L2
open PySem PySem.Spec PyProof.Rows
/-! ### a list, a tuple that is read: tracked, frozen, or an object of the module -/
def SqL (K : PySem.W.Frag) (H : Hp) (a : Addr) (xs : List V) : Prop :=
  Rd H a (.lst xs) ∨
    ∃ (o : Obj) (its : Array Value) (n : Nat), K.lookup a = some o ∧ o.cls = .type "list" ∧ o.dict = none ∧ o.data = .seq its n ∧ its.size ≤ sizeLine ∧ Vals xs its.toList
def SqT (K : PySem.W.Frag) (H : Hp) (a : Addr) (xs : List V) : Prop :=
  Rd H a (.tup xs) ∨
    ∃ (o : Obj) (its : Array Value) (n : Nat), K.lookup a = some o ∧ o.cls = .type "tuple" ∧ o.data = .seq its n ∧ its.size ≤ sizeLine ∧ Vals xs its.toList
def absV : Value → Option V
  | .none => some .non
  | .bool b => some (.bl b)
  | .int i _ => some (.int i)
  | .str x _ => some (.str x)
  | .bytes b _ => some (.byt b)
  | .float b _ => some (.flt b)
  | .ref a => some (.ref a)
  | .type n => some (.ty n)
  | _ => none
theorem RelV.abs {x : V} {u : Value} (r : RelV x u) : absV u = some x := by
  cases x with
  | non => cases r; rfl
  | bl _ => cases r; rfl
  | int _ => obtain ⟨t, rfl⟩ := r; rfl
  | str _ => obtain ⟨t, rfl⟩ := r; rfl
  | byt _ => obtain ⟨t, rfl⟩ := r; rfl
  | flt _ => obtain ⟨t, rfl⟩ := r; rfl
  | ref _ => cases r; rfl
  | ty _ => cases r; rfl
theorem RelV.inj {x y : V} {u : Value} (r : RelV x u) (q : RelV y u) : x = y := Option.some.inj (r.abs.symm.trans q.abs)
theorem Vals.inj : ∀ {xs ys : List V} {us : List Value}, Vals xs us → Vals ys us → xs = ys
  | _, _, _, .nil, .nil => rfl
  | _, _, _, .cons r t, .cons r' t' => by rw [r.inj r', Vals.inj t t']
section
variable {X : Cx} {pins : List (Addr × Obj)} {σ : St} {H : Hp} {s : Shared} {a : Addr} {xs ys : List V}
theorem SqL.of {K : PySem.W.Frag} (h : H a = some (.lst xs)) : SqL K H a xs := .inl (.inl h)
theorem SqT.of {K : PySem.W.Frag} (h : H a = some (.tup xs)) : SqT K H a xs := .inl (.inl h)
theorem Inv.list (I : Inv X pins σ H s) (h : SqL X.K H a xs) : ∃ its : List Value, Vals xs its ∧ PlainL s.heap a its.toArray ∧ xs.length ≤ sizeLine := by
  rcases h with h | ⟨o, its, n, hk, hc, hd, hs, hz, r⟩
  · obtain ⟨z, its, n, r, e⟩ := h.ok I.hok
    exact ⟨its, r, ⟨_, n, e, rfl, rfl, rfl⟩, z⟩
  · refine ⟨its.toList, r, ⟨o, n, I.kIn a o hk, hc, hd, by simpa using hs⟩, ?_⟩
    have e := r.length
    simp only [Array.length_toList] at e
    omega
theorem Inv.tuple (I : Inv X pins σ H s) (h : SqT X.K H a xs) : ∃ its : List Value, Vals xs its ∧ IsTup s.heap a its.toArray ∧ xs.length ≤ sizeLine := by
  rcases h with h | ⟨o, its, n, hk, hc, hs, hz, r⟩
  · obtain ⟨z, its, r, p⟩ := h.ok I.hok
    exact ⟨its, r, p, z⟩
  · refine ⟨its.toList, r, ⟨o, I.kIn a o hk, hc, n, by simpa using hs⟩, ?_⟩
    have e := r.length
    simp only [Array.length_toList] at e
    omega
theorem Inv.list_inj (I : Inv X pins σ H s) (h : SqL X.K H a xs) (h' : SqL X.K H a ys) : xs = ys := by
  obtain ⟨its, r, ⟨o, n, e, _, _, d⟩, _⟩ := I.list h
  obtain ⟨its', r', ⟨o', n', e', _, _, d'⟩, _⟩ := I.list h'
  rw [e] at e'; cases e'
  rw [d] at d'
  injection d' with d1 _
  have : its = its' := by simpa using congrArg Array.toList d1
  subst this
  exact r.inj r'
theorem Inv.tuple_inj (I : Inv X pins σ H s) (h : SqT X.K H a xs) (h' : SqT X.K H a ys) : xs = ys := by
  obtain ⟨its, r, ⟨o, e, _, n, d⟩, _⟩ := I.tuple h
  obtain ⟨its', r', ⟨o', e', _, n', d'⟩, _⟩ := I.tuple h'
  rw [e] at e'; cases e'
  rw [d] at d'
  injection d' with d1 _
  have : its = its' := by simpa using congrArg Array.toList d1
  subst this
  exact r.inj r'
end
/-! ### another wish about exceptions -/
abbrev Cx.wish (X : Cx) (E : Value → Shared → Prop) : Cx := { X with xe := E }
/-- no exception leaves -/
abbrev Cx.nox (X : Cx) : Cx := X.wish fun _ _ => False
theorem Cx.Ok.wish {X : Cx} (ok : X.Ok) (E : Value → Shared → Prop) : (X.wish E).Ok :=
  ⟨ok.mod, ok.kind, ok.glob, ok.blt, ok.above, ok.inj, ok.has, ok.cab, ok.hd, ok.frames, ok.stk, ok.exf, ok.bs, ok.bsz, ok.noex, ok.exfs, ok.funs, ok.frf, ok.tab, ok.fc⟩
theorem Cx.Ok.unwish {X : Cx} {E : Value → Shared → Prop} (ok : (X.wish E).Ok) : X.Ok :=
  ⟨ok.mod, ok.kind, ok.glob, ok.blt, ok.above, ok.inj, ok.has, ok.cab, ok.hd, ok.frames, ok.stk, ok.exf, ok.bs, ok.bsz, ok.noex, ok.exfs, ok.funs, ok.frf, ok.tab, ok.fc⟩
section
variable {X : Cx} {pins : List (Addr × Obj)} {σ : St} {H : Hp} {s : Shared} {E : Value → Shared → Prop}
theorem Inv.wish (I : Inv X pins σ H s) (E : Value → Shared → Prop) : Inv (X.wish E) pins σ H s := ⟨I.ok.wish E, I.os, I.bare, I.base, I.loc, I.cell, I.free, I.freeC, I.pin, I.hok, I.len⟩
theorem Inv.unwish (I : Inv (X.wish E) pins σ H s) : Inv X pins σ H s := ⟨I.ok.unwish, I.os, I.bare, I.base, I.loc, I.cell, I.free, I.freeC, I.pin, I.hok, I.len⟩
theorem SP.unwish {D : Ends} {f : Flow} {s' : Shared} (h : SP (X.wish E) pins D f s') : SP X pins D f s' := by
  cases f with
  | next => obtain ⟨σ', H', I, q⟩ := h; exact ⟨σ', H', I.unwish, q⟩
  | brk => obtain ⟨σ', H', I, q⟩ := h; exact ⟨σ', H', I.unwish, q⟩
  | cont => obtain ⟨σ', H', I, q⟩ := h; exact ⟨σ', H', I.unwish, q⟩
  | ret u => obtain ⟨v, H', I, r, q⟩ := h; exact ⟨v, H', ⟨I.os, I.bare, I.base, I.hok⟩, r, q⟩
theorem PE.nox {e : Expr} {t : TE} (h : PE X.nox e t) : PE X e t := fun pins s σ H Q I hw =>
  wpAny_mono (h pins s σ H Q (I.wish _) hw) (fun _ _ ⟨v, H', I', r, q⟩ => ⟨v, H', I'.unwish, r, q⟩) fun _ _ z => False.elim z
theorem PT.nox {e : Expr} {t : TT} (h : PT X.nox e t) : PT X e t := fun pins s σ H Q I hw =>
  wpAny_mono (h pins s σ H Q (I.wish _) hw) (fun _ _ ⟨H', I', q⟩ => ⟨H', I'.unwish, q⟩) fun _ _ z => False.elim z
theorem PSs.nox {st : List Stmt} {t : TS} (h : PSs X.nox st t) : PSs X st t := fun pins s σ H D I hw =>
  wpAny_mono (h pins s σ H D (I.wish _) hw) (fun _ _ q => q.unwish) fun _ _ z => False.elim z
end
/-! ### blocks and small statements -/
section
variable {X : Cx} {st : Stmt} {rest : List Stmt} {t u : TS} {e : Expr} {te : TE} {pos : Pos}
def tNext : TS := fun D σ H => D.nx σ H
def tSeq (t u : TS) : TS := fun D σ H => t { D with nx := u D } σ H
theorem pss_nil : PSs X [] tNext := fun _ _ σ H _ I h => wpAny_execs_nil ⟨σ, H, I, h⟩
theorem pss_cons (h1 : PS X st t) (h2 : PSs X rest u) : PSs X (st :: rest) (tSeq t u) := by
  intro pins s σ H D I h
  refine wpAny_execs_cons (thn (h1 pins s σ H { D with nx := u D } I h) fun f s1 q => ?_)
  cases f with
  | next =>
    obtain ⟨σ', H', I', q⟩ := q
    exact h2 pins s1 σ' H' D I' q
  | ret v => exact q
  | brk => exact q
  | cont => exact q
theorem pss_one (h1 : PS X st t) : PSs X [st] t := by
  intro pins s σ H D I h
  refine wpAny_execs_cons (thn (h1 pins s σ H D I h) fun f s1 q => ?_)
  cases f with
  | next => exact wpAny_execs_nil q
  | ret v => exact q
  | brk => exact q
  | cont => exact q
/-- in a def's body nothing is shown -/
theorem Inv.quiet {pins : List (Addr × Obj)} {σ : St} {H : Hp} {s : Shared} (I : Inv X pins σ H s) : interactive X.env = false := by simp [interactive, I.ok.kind]
/-- an expression whose value is dropped -/
def tDrop (te : TE) : TS := fun D σ H => te σ H fun _ H1 => D.nx σ H1
theorem ps_expr (he : PE X e te) (hs : swapsWith e none pos.line X.env = pure false := by rfl) : PS X (.Expr e pos) (tDrop te) := by
  intro pins s σ H D I h
  exact wpAny_Expr_any (thn (he pins s σ H _ I h) fun v s1 ⟨x, H1, I1, r1, q1⟩ => ⟨σ, H1, I1, q1⟩) I.quiet hs
def tRet (te : TE) : TS := fun D σ H => te σ H D.rt
theorem ps_ret (he : PE X e te) : PS X (.Return (some e) pos) (tRet te) := by
  intro pins s σ H D I h
  exact wpAny_Return_some (thn (he pins s σ H _ I h) fun v s1 ⟨x, H1, I1, r1, q1⟩ => ⟨x, H1, I1.fin, r1, q1⟩)
def tIfS (c : TT) (t u : TS) : TS := fun D σ H => c σ H fun b H1 => if b = true then t D σ H1 else u D σ H1
theorem ps_if {c : Expr} {a b : List Stmt} {tc : TT} (hc : PT X c tc) (ha : PSs X a t) (hb : PSs X b u) : PS X (.If c a b pos) (tIfS tc t u) := by
  intro pins s σ H D I h
  refine wpAny_If (thn (hc pins s σ H _ I h) fun d s1 ⟨H1, I1, q1⟩ => ?_)
  cases d with
  | true => exact ha pins s1 σ H1 D I1 q1
  | false => exact hb pins s1 σ H1 D I1 q1
end
/-! ### targets -/
abbrev TG := V → St → Hp → (St → Hp → Prop) → Prop
def PG (X : Cx) (target : Expr) (t : TG) : Prop :=
  ∀ (pins : List (Addr × Obj)) (s : Shared) (σ : St) (H : Hp) (v : V) (u : Value) (Q : St → Hp → Prop), Inv X pins σ H s → RelV v u → t v σ H Q →
    wpAny (model X.prog X.w) X.A (assign target X.env u) (fun _ s' => ∃ σ' H', Inv X pins σ' H' s' ∧ Q σ' H') X.xe s
section
variable {X : Cx} {pos : Pos}
def gName (i : Nat) : TG := fun v σ H Q => Q (σ.set i (some v)) H
theorem pg_name {i : Nat} {x : Str} (hN : X.N.Nodup) (hi : X.N[i]? = some x) (hx : Loc X.env.scope x) (hf : X.fn x = true ∨ X.env.scope.names.lookup x = some .local := by first | exact .inl rfl | exact .inr rfl | assumption) : PG X (.Name x pos) (gName i) := by
  intro pins s σ H v u Q I r h
  exact wpAny_assign_Name (store_ok I hN hi hx r (fun s' I' => ⟨_, H, I', h⟩) hf)
/-- target = value -/
def tAsg (te : TE) (g : TG) : TS := fun D σ H => te σ H fun x H1 => g x σ H1 D.nx
/-- name = value -/
theorem ps_set {i : Nat} {x : Str} {e : Expr} {te : TE} {pos' : Pos} (hN : X.N.Nodup) (hi : X.N[i]? = some x) (hx : Loc X.env.scope x) (he : PE X e te) (hs : swapsWith e (some (.Name x pos')) pos.line X.env = pure false := by rfl) (hf : X.fn x = true ∨ X.env.scope.names.lookup x = some .local := by first | exact .inl rfl | exact .inr rfl | assumption) :
    PS X (.Assign [.Name x pos'] e pos) (tAsg te (gName i)) := by
  intro pins s σ H D I h
  refine wpAny_Assign_Name (thn (he pins s σ H _ I h) fun v s1 ⟨y, H1, I1, r1, q1⟩ => ?_) hs
  exact store_ok I1 hN hi hx r1 (fun s2 I2 => ⟨_, H1, I2, q1⟩) hf
end
/-! ### while -/
section
variable {X : Cx} {pos : Pos}
/-- the invariant W with its measure -/
def tWhile (c : TT) (tb : TS) : TS := fun D σ H => ∃ W : Nat → St → Hp → Prop, (∃ m, W m σ H) ∧ ∀ m σ H, W m σ H →
  c σ H fun b H1 => if b = true then ∃ N : St → Hp → Prop, (∀ σ' H', N σ' H' → ∃ m', m' < m ∧ W m' σ' H') ∧ tb { D with nx := N, ct := N, bk := D.nx } σ H1 else D.nx σ H1
theorem ps_while {c : Expr} {body : List Stmt} {tc : TT} {tb : TS} (hp : PassesOwn (model X.prog X.w) X.A X.env X.xe) (hc : PT X c tc) (hb : PSs X body tb) : PS X (.While c body [] pos) (tWhile tc tb) := by
  intro pins s σ H D I h
  obtain ⟨W, ⟨m0, w0⟩, turn⟩ := h
  refine wpAny_While (codeAny_whileLoop (fun n s' => ∃ σ' H', Inv X pins σ' H' s' ∧ W n σ' H') ?_ m0 ⟨σ, H, I, w0⟩)
  rintro n s1 ⟨σ1, H1, I1, w1⟩
  refine wpAny_passesOwn hp (thn (hc pins s1 σ1 H1 _ I1 (turn n σ1 H1 w1)) fun b s2 ⟨H2, I2, q2⟩ => ?_)
  cases b with
  | true =>
    obtain ⟨N, hN, q2⟩ := q2
    rw [if_pos rfl]
    refine wpAny_passesOwn hp (thn (hb pins s2 σ1 H2 _ I2 q2) fun f s3 q3 => ?_)
    cases f with
    | next =>
      obtain ⟨σ3, H3, I3, n3⟩ := q3
      obtain ⟨m', hm, w3⟩ := hN σ3 H3 n3
      exact ⟨m', hm, σ3, H3, I3, w3⟩
    | cont =>
      obtain ⟨σ3, H3, I3, n3⟩ := q3
      obtain ⟨m', hm, w3⟩ := hN σ3 H3 n3
      exact ⟨m', hm, σ3, H3, I3, w3⟩
    | brk => exact q3
    | ret v => exact q3
  | false =>
    rw [if_neg Bool.false_ne_true]
    exact wpAny_execs_nil ⟨σ1, H2, I2, q2⟩
end
/-! ### what a loop or a comprehension walks -/
/-- at turn i: it yields x (the heap may grow), or it stops -/
structure It where
  go : Nat → Hp → Prop
  yld : Nat → Hp → V → Hp → Prop
  stop : Nat → Hp → Prop
/-- the iterator's own objects may turn: they are not the frame's, not pinned, younger than the entry (or a comprehension's own) -/
def FpOk (X : Cx) (pins : List (Addr × Obj)) (H : Hp) (b : Addr) : Prop :=
  H b = none ∧ b ≠ X.env.locals ∧ b ∉ X.fs ∧ (b ∈ X.ex ∨ X.s₀.heap.objs.size ≤ b) ∧ (∀ x c, X.env.cells.lookup x = some c → c ≠ b) ∧ ∀ p ∈ X.pn ++ pins, p.1 ≠ b
theorem Inv.fpOk {X : Cx} {pins : List (Addr × Obj)} {σ : St} {H H' : Hp} {s : Shared} {b : Addr} (I : Inv X pins σ H s) (hb : s.heap.objs.size ≤ b) (hn : H' b = none) : FpOk X pins H' b := by
  refine ⟨hn, Nat.ne_of_gt (Nat.lt_of_lt_of_le I.lt hb), I.nofs hb, .inr (Nat.le_trans I.sz hb), fun x c e z => ?_, fun p hp z => ?_⟩
  · obtain ⟨v, q⟩ := I.cell x c e
    exact absurd (Nat.lt_of_lt_of_le q.lt (by rw [z]; exact hb)) (Nat.lt_irrefl _)
  · exact absurd (Nat.lt_of_lt_of_le (Heap.lt_size (I.pin p hp).1) (by rw [z]; exact hb)) (Nat.lt_irrefl _)
structure Turn (P : Program) (w : World) (K : PySem.W.Frag) (tg : Expr) (J : It) (fp : List Addr) (it : Addr) (tn : Nat → Heap → Prop) : Prop where
  mem : it ∈ fp
  obj : ∀ i h, tn i h → ∀ b ∈ fp, ∃ o, h.get? b = some o ∧ ∀ v, o.data ≠ .cell v
  keep : ∀ i h h', tn i h → (∀ b ∈ fp, ∀ o, h.get? b = some o → h'.get? b = some o) → tn i h'
  item : ∀ (X : Cx), X.prog = P → X.w = w → X.K = K → X.calm = true → ∀ (i : Nat) (pins : List (Addr × Obj)) (s : Shared) (σ : St) (H : Hp) (E : Value → Shared → Prop), Inv X pins σ H s → (∀ b ∈ fp, FpOk X pins H b) → tn i s.heap → J.go i H →
    wpAny (model P w) X.A (pyNext (.ref it)) (fun r s1 => ∃ u, r = some u ∧
      wpAny (model P w) X.A (letOwnedTupleGo tg (.ref it) u) (fun _ s2 => ∃ x H', Inv X pins σ H' s2 ∧ RelV x u ∧ J.yld i H x H' ∧ tn (i + 1) s2.heap ∧ ∀ b ∈ fp, H' b = none) E s1) E s
  done : ∀ (X : Cx), X.prog = P → X.w = w → X.K = K → X.calm = true → ∀ (i : Nat) (pins : List (Addr × Obj)) (s : Shared) (σ : St) (H : Hp) (E : Value → Shared → Prop), Inv X pins σ H s → (∀ b ∈ fp, FpOk X pins H b) → tn i s.heap → J.stop i H →
    wpAny (model P w) X.A (pyNext (.ref it)) (fun r s1 => r = none ∧ Inv X pins σ H s1) E s
  self : ∀ (A : Around) (i : Nat) (s : Shared) (Q : Value → Shared → Prop) (E : Value → Shared → Prop), tn i s.heap → Q (.ref it) s → wpAny (model P w) A (pyIter (.ref it)) Q E s
abbrev TI := St → Hp → (It → Hp → Prop) → Prop
/-- an iterator has come -/
def PIE (X : Cx) (pins : List (Addr × Obj)) (σ : St) (tg : Expr) (R : It → Hp → Prop) (itv : Value) (s2 : Shared) : Prop :=
  ∃ (it : Addr) (fp : List Addr) (tn : Nat → Heap → Prop) (J : It) (H' : Hp), itv = .ref it ∧ Inv X pins σ H' s2 ∧ Turn X.prog X.w X.K tg J fp it tn ∧ tn 0 s2.heap ∧ (∀ b ∈ fp, FpOk X pins H' b) ∧ R J H'
def PI (X : Cx) (tg iter : Expr) (wi : TI) : Prop :=
  ∀ (pins : List (Addr × Obj)) (s : Shared) (σ : St) (H : Hp) (R : It → Hp → Prop), Inv X pins σ H s → wi σ H R →
    wpAny (model X.prog X.w) X.A (eval iter X.env) (fun v s1 => wpAny (model X.prog X.w) X.A (pyIter v) (PIE X pins σ tg R) X.xe s1) X.xe s
/-- the step ahead of the store is nothing for an iterator that keeps no tuple -/
theorem go_of {M : Model} {A : Around} {E : Value → Shared → Prop} {s : Shared} {tg : Expr} {it : Addr} {u : Value} {o : Obj} {n : String} {vs : Array Value} {Q : Unit → Shared → Prop} (ho : s.heap.get? it = some o) (hc : o.cls = .type n) (hd : o.data = .fields vs)
    (hn : ["enumerate", "zip", "dict_itemiterator", "dict_reverseitemiterator", "odict_iterator", "itertools.zip_longest", "itertools.pairwise"].contains n = false) (hQ : Q () s) : wpAny M A (letOwnedTupleGo tg (.ref it) u) Q E s := by
  unfold letOwnedTupleGo
  cases tg <;> first
    | exact wpAny_pure hQ
    | (cases u <;> first
        | exact wpAny_pure hQ
        | (refine wpAny_bind (wpAny_load ho ?_)
           rw [hc, hd]
           show wpAny M A (if (["enumerate", "zip", "dict_itemiterator", "dict_reverseitemiterator", "odict_iterator", "itertools.zip_longest", "itertools.pairwise"].contains n && vs[0]? == some (rawInt _)) = true then _ else _) Q E s
           rw [if_neg (by intro h; rw [hn, Bool.false_and] at h; cases h)]
           exact wpAny_pure hQ))
/-- the list at a, as it stands at each turn (a loop may append to it) -/
def Itl (K : PySem.W.Frag) (a : Addr) : It :=
  ⟨fun i H => ∃ xs x, SqL K H a xs ∧ xs[i]? = some x, fun i H x H' => H' = H ∧ ∀ xs, SqL K H a xs → xs[i]? = some x, fun i H => ∃ xs, SqL K H a xs ∧ xs.length ≤ i⟩
def Itt (K : PySem.W.Frag) (a : Addr) : It :=
  ⟨fun i H => ∃ xs x, SqT K H a xs ∧ xs[i]? = some x, fun i H x H' => H' = H ∧ ∀ xs, SqT K H a xs → xs[i]? = some x, fun i H => ∃ xs, SqT K H a xs ∧ xs.length ≤ i⟩
theorem turn_list {P : Program} {w : World} {K : PySem.W.Frag} {tg : Expr} (a it : Addr) : Turn P w K tg (Itl K a) [it] it (fun i h => h.IsListIter it a i) where
  mem := by simp
  obj := fun i h st b hb => by
    have e : b = it := by simpa using hb
    subst e
    obtain ⟨o, e, c, d⟩ := st
    exact ⟨o, e, fun v z => by rw [d] at z; cases z⟩
  keep := fun i h h' st k => st.at fun o e => k it (by simp) o e
  item := by
    intro X hP hw hK hc i pins s σ H E I hf st hg
    subst hP hw hK
    obtain ⟨xs, x, hq, hx⟩ := hg
    obtain ⟨its, rv, p, hz⟩ := I.list hq
    obtain ⟨u, hu, ru⟩ := rv.get hx
    obtain ⟨f0, f1, f2, f3, f4, f5⟩ := hf it (by simp)
    refine wpAny_pyNext_list_item st p.isList (x := u) (by simpa using hu) fun h' st' sb => ?_
    have I1 : Inv X pins σ H { s with heap := h' } := I.turned (t' := s.toks) (fun b o hb e => (sb.2 b hb).trans e) f0 f1 f3 f4 f5
    obtain ⟨o, e, c, d⟩ := id st'
    exact ⟨u, rfl, go_of (s := { s with heap := h' }) e c d (by decide) ⟨x, H, I1, ru, ⟨rfl, fun ys hy => by rw [I.list_inj hy hq]; exact hx⟩, st', fun b hb => (hf b hb).1⟩⟩
  done := by
    intro X hP hw hK hc i pins s σ H E I hf st hg
    subst hP hw hK
    obtain ⟨xs, hq, hx⟩ := hg
    obtain ⟨its, rv, p, hz⟩ := I.list hq
    obtain ⟨f0, f1, f2, f3, f4, f5⟩ := hf it (by simp)
    have hl := rv.length
    exact wpAny_pyNext_list_end (I.ok.hd hc) st p.isList (by simp; omega) fun h' eb => ⟨rfl, I.turned (t' := s.toks) (fun b o hb e => eb b o hb e) f0 f1 f3 f4 f5⟩
  self := fun _ _ _ _ _ st h => wpAny_pyIter_listiter st h
theorem turn_tuple {P : Program} {w : World} {K : PySem.W.Frag} {tg : Expr} (a it : Addr) : Turn P w K tg (Itt K a) [it] it (fun i h => h.IsTupleIter it a i) where
  mem := by simp
  obj := fun i h st b hb => by
    have e : b = it := by simpa using hb
    subst e
    obtain ⟨o, e, c, d⟩ := st
    exact ⟨o, e, fun v z => by rw [d] at z; cases z⟩
  keep := fun i h h' st k => st.at fun o e => k it (by simp) o e
  item := by
    intro X hP hw hK hc i pins s σ H E I hf st hg
    subst hP hw hK
    obtain ⟨xs, x, hq, hx⟩ := hg
    obtain ⟨its, rv, p, hz⟩ := I.tuple hq
    obtain ⟨u, hu, ru⟩ := rv.get hx
    obtain ⟨f0, f1, f2, f3, f4, f5⟩ := hf it (by simp)
    refine wpAny_pyNext_tuple_item st (show s.heap.IsTuple a its.toArray from p) (x := u) (by simpa using hu) fun h' st' sb => ?_
    have I1 : Inv X pins σ H { s with heap := h' } := I.turned (t' := s.toks) (fun b o hb e => (sb.2 b hb).trans e) f0 f1 f3 f4 f5
    obtain ⟨o, e, c, d⟩ := id st'
    exact ⟨u, rfl, go_of (s := { s with heap := h' }) e c d (by decide) ⟨x, H, I1, ru, ⟨rfl, fun ys hy => by rw [I.tuple_inj hy hq]; exact hx⟩, st', fun b hb => (hf b hb).1⟩⟩
  done := by
    intro X hP hw hK hc i pins s σ H E I hf st hg
    subst hP hw hK
    obtain ⟨xs, hq, hx⟩ := hg
    obtain ⟨its, rv, p, hz⟩ := I.tuple hq
    obtain ⟨f0, f1, f2, f3, f4, f5⟩ := hf it (by simp)
    have hl := rv.length
    exact wpAny_pyNext_tuple_end (I.ok.hd hc) st (show s.heap.IsTuple a its.toArray from p) (by simp; omega) fun h' eb => ⟨rfl, I.turned (t' := s.toks) (fun b o hb e => eb b o hb e) f0 f1 f3 f4 f5⟩
  self := fun _ _ _ _ _ st h => wpAny_pyIter_tupleiter st h
end L2
namespace L2
open PySem PySem.Spec PyProof.Rows
section
variable {X : Cx} {tg : Expr}
def iList (K : PySem.W.Frag) (tl : TE) : TI := fun σ H R => tl σ H fun x H1 => ∃ a, x = .ref a ∧ (∃ xs, SqL K H1 a xs) ∧ R (Itl K a) H1
def iTup (K : PySem.W.Frag) (tl : TE) : TI := fun σ H R => tl σ H fun x H1 => ∃ a, x = .ref a ∧ (∃ xs, SqT K H1 a xs) ∧ R (Itt K a) H1
theorem pi_list {l : Expr} {tl : TE} (hl : PE X l tl) : PI X tg l (iList X.K tl) := by
  intro pins s σ H R I h
  refine thn (hl pins s σ H _ I h) fun v s1 ⟨x, H1, I1, r1, q1⟩ => ?_
  obtain ⟨a, e, ⟨xs, hq⟩, q⟩ := q1
  subst e
  cases r1
  obtain ⟨its, rv, p, hz⟩ := I1.list hq
  refine wpAny_pyIter_list p.isList ?_
  refine ⟨s1.heap.objs.size, [s1.heap.objs.size], _, _, H1, rfl, I1.kept (t' := s1.toks) fun b o e => Heap.get?_push_of_some _ e, turn_list a _, ⟨_, Heap.get?_push_size _ rfl, rfl, rfl⟩, fun b hb => ?_, q⟩
  have e : b = s1.heap.objs.size := by simpa using hb
  subst e
  exact I1.fpOk (Nat.le_refl _) (I1.hok.fresh (Nat.le_refl _))
theorem pi_tup {l : Expr} {tl : TE} (hl : PE X l tl) : PI X tg l (iTup X.K tl) := by
  intro pins s σ H R I h
  refine thn (hl pins s σ H _ I h) fun v s1 ⟨x, H1, I1, r1, q1⟩ => ?_
  obtain ⟨a, e, ⟨xs, hq⟩, q⟩ := q1
  subst e
  cases r1
  obtain ⟨its, rv, p, hz⟩ := I1.tuple hq
  refine wpAny_pyIter_tuple (show s1.heap.IsTuple a its.toArray from p) ?_
  refine ⟨s1.heap.objs.size, [s1.heap.objs.size], _, _, H1, rfl, I1.kept (t' := s1.toks) fun b o e => Heap.get?_push_of_some _ e, turn_tuple a _, ⟨_, Heap.get?_push_size _ rfl, rfl, rfl⟩, fun b hb => ?_, q⟩
  have e : b = s1.heap.objs.size := by simpa using hb
  subst e
  exact I1.fpOk (Nat.le_refl _) (I1.hok.fresh (Nat.le_refl _))
/-! ### for -/
/-- W: the invariant by the turn and a measure; N: what the body is to reach -/
def tFor (wi : TI) (g : TG) (tb : TS) : TS := fun D σ H => wi σ H fun J H1 => ∃ W : Nat → Nat → St → Hp → Prop, (∃ m, W 0 m σ H1) ∧ ∀ i m σ H, W i m σ H →
  (J.stop i H ∧ D.nx σ H) ∨ (J.go i H ∧ ∃ N : St → Hp → Prop, (∀ σ' H', N σ' H' → ∃ m', m' < m ∧ W (i + 1) m' σ' H') ∧ ∀ x H', J.yld i H x H' → g x σ H' fun σ2 H2 => tb { D with nx := N, ct := N, bk := D.nx } σ2 H2)
/-- the records at fp as they stand -/
def pinsAt (fp : List Addr) (h : Heap) : List (Addr × Obj) := fp.filterMap fun b => (h.get? b).map fun o => (b, o)
theorem mem_pinsAt {fp : List Addr} {h : Heap} {b : Addr} {o : Obj} (hb : b ∈ fp) (e : h.get? b = some o) : (b, o) ∈ pinsAt fp h := List.mem_filterMap.mpr ⟨b, hb, by rw [e]; rfl⟩
theorem of_pinsAt {fp : List Addr} {h : Heap} {p : Addr × Obj} (hp : p ∈ pinsAt fp h) : p.1 ∈ fp ∧ h.get? p.1 = some p.2 := by
  obtain ⟨b, hb, e⟩ := List.mem_filterMap.mp hp
  cases q : h.get? b with
  | none => rw [q] at e; cases e
  | some o =>
    rw [q] at e
    have e' : (b, o) = p := Option.some.inj e
    subst e'
    exact ⟨hb, q⟩
theorem Inv.pinned {pins : List (Addr × Obj)} {σ : St} {H : Hp} {s : Shared} {fp : List Addr} (I : Inv X pins σ H s) (hf : ∀ b ∈ fp, FpOk X pins H b) (ho : ∀ b ∈ fp, ∃ o, s.heap.get? b = some o ∧ ∀ v, o.data ≠ .cell v) : Inv X (pins ++ pinsAt fp s.heap) σ H s :=
  I.pins_of fun p hp => (List.mem_append.mp hp).elim (fun z => I.pin p (List.mem_append_right _ z)) fun z => by
    obtain ⟨hb, e⟩ := of_pinsAt z
    obtain ⟨f0, f1, f2, _⟩ := hf p.1 hb
    obtain ⟨o, e', d⟩ := ho p.1 hb
    rw [e] at e'; cases e'
    exact ⟨e, f0, f1, f2, d⟩
theorem Inv.unpinned {pins pl : List (Addr × Obj)} {σ : St} {H : Hp} {s : Shared} (I : Inv X (pins ++ pl) σ H s) : Inv X pins σ H s := I.pins_of fun p hp => I.pin p (List.mem_append_right _ (List.mem_append_left _ hp))
theorem ps_for {iter : Expr} {body : List Stmt} {wi : TI} {g : TG} {tb : TS} {pos : Pos} (hp : PassesOwn (model X.prog X.w) X.A X.env X.xe) (hc : X.calm = true) (hi : PI X tg iter wi) (hg : PG X tg g) (hb : PSs X body tb)
    (hs : ∀ x, foldedSetIterable iter X.env x = pure x := by intro _; rfl) : PS X (.For tg iter body [] pos) (tFor wi g tb) := by
  intro pins s σ H D I h
  refine wpAny_For (thn (hi pins s σ H _ I h) fun v s1 h1 => thn h1 fun itv s2 h2 => ?_) hs
  obtain ⟨it, fp, tn, J, H2, e, I2, T, st2, f2, W, ⟨m0, w0⟩, turn⟩ := h2
  subst e
  -- what stays true of the iterator's objects through the loop
  have stat : ∀ {H' : Hp}, (∀ b ∈ fp, H' b = none) → ∀ b ∈ fp, FpOk X pins H' b := fun hn b hb => ⟨hn b hb, (f2 b hb).2⟩
  refine codeAny_forLoop_any (fun n s' => ∃ i σ' H', Inv X pins σ' H' s' ∧ tn i s'.heap ∧ (∀ b ∈ fp, H' b = none) ∧ W i n σ' H') ?_ m0 ⟨0, σ, H2, I2, st2, fun b hb => (f2 b hb).1, w0⟩
  rintro n s3 ⟨i, σ3, H3, I3, st3, fr3, w3⟩
  rcases turn i n σ3 H3 w3 with ⟨stop, qn⟩ | ⟨go, N, hN, step⟩
  · refine wpAny_passesOwn hp (thn (T.done X rfl rfl rfl hc i pins s3 σ3 H3 X.xe I3 (stat fr3) st3 stop) fun r s4 ⟨hr, I4⟩ => ?_)
    subst hr
    exact wpAny_execs_nil ⟨σ3, H3, I4, qn⟩
  · refine wpAny_passesOwn hp (thn (T.item X rfl rfl rfl hc i pins s3 σ3 H3 X.xe I3 (stat fr3) st3 go) fun r s4 ⟨u, hr, h4⟩ => ?_)
    subst hr
    refine wpAny_passesOwn hp (thn h4 fun _ s5 ⟨x, H5, I5, r5, y5, st5, fr5⟩ => ?_)
    have I5' := I5.pinned (stat fr5) (T.obj _ _ st5)
    refine wpAny_passesOwn hp (thn (hg _ s5 σ3 H5 x u _ I5' r5 (step x H5 y5)) fun _ s6 ⟨σ6, H6, I6, q6⟩ => ?_)
    refine wpAny_passesOwn hp (thn (hb _ s6 σ6 H6 _ I6 q6) fun f s7 q7 => ?_)
    have again : ∀ {σ7 : St} {H7 : Hp}, Inv X (pins ++ pinsAt fp s5.heap) σ7 H7 s7 → N σ7 H7 → ∃ m, m < n ∧ ∃ i σ' H', Inv X pins σ' H' s7 ∧ tn i s7.heap ∧ (∀ b ∈ fp, H' b = none) ∧ W i m σ' H' := fun {σ7 H7} I7 n7 => by
      obtain ⟨m', hm, w7⟩ := hN σ7 H7 n7
      refine ⟨m', hm, i + 1, σ7, H7, I7.unpinned, T.keep _ _ _ st5 fun b hb o e => (I7.pin (b, o) (List.mem_append_right _ (List.mem_append_right _ (mem_pinsAt hb e)))).1, fun b hb => ?_, w7⟩
      obtain ⟨o, e, d⟩ := T.obj _ _ st5 b hb
      exact (I7.pin (b, o) (List.mem_append_right _ (List.mem_append_right _ (mem_pinsAt hb e)))).2.1
    cases f with
    | next => obtain ⟨σ7, H7, I7, n7⟩ := q7; exact again I7 n7
    | cont => obtain ⟨σ7, H7, I7, n7⟩ := q7; exact again I7 n7
    | brk => obtain ⟨σ7, H7, I7, q7⟩ := q7; exact ⟨σ7, H7, I7.unpinned, q7⟩
    | ret v => exact q7
end
end L2
namespace L2
open PySem PySem.Spec PyProof.Rows
abbrev R2 := V → V → Hp → VK → Prop
/-- a two-place operation on values: f is binaryOp op, inplaceOp op or compareOp op -/
def OpR (X : Cx) (f : Value → Value → Sem Value) (r : R2) : Prop :=
  ∀ (pins : List (Addr × Obj)) (s : Shared) (σ : St) (H : Hp) (x y : V) (v u : Value) (Q : VK), Inv X pins σ H s → RelV x v → RelV y u → r x y H Q →
    wpAny (model X.prog X.w) X.A (f v u) (EP X pins σ Q) X.xe s
/-- a one-place operation -/
def UnR (X : Cx) (f : Value → Sem Value) (r : V → Hp → VK → Prop) : Prop :=
  ∀ (pins : List (Addr × Obj)) (s : Shared) (σ : St) (H : Hp) (x : V) (v : Value) (Q : VK), Inv X pins σ H s → RelV x v → r x H Q →
    wpAny (model X.prog X.w) X.A (f v) (EP X pins σ Q) X.xe s
/-- a call of a value that is known (a builtin, a type) with values -/
def CallR (X : Cx) (f : Value) (r : List V → Hp → VK → Prop) : Prop :=
  ∀ (pins : List (Addr × Obj)) (s : Shared) (σ : St) (H : Hp) (xs : List V) (us : List Value) (Q : VK), Inv X pins σ H s → Vals xs us → r xs H Q →
    wpAny (model X.prog X.w) X.A (call f us) (EP X pins σ Q) X.xe s
def tOp (r : R2) (ta tb : TE) : TE := fun σ H Q => ta σ H fun x H1 => tb σ H1 fun y H2 => r x y H2 Q
def tUn (r : V → Hp → VK → Prop) (ta : TE) : TE := fun σ H Q => ta σ H fun x H1 => r x H1 Q
/-- ints in, under C, and a value out -/
def rI (C : Int → Int → Prop) (g : Int → Int → V) : R2 := fun x y H Q => ∃ i j, x = .int i ∧ y = .int j ∧ C i j ∧ Q (g i j) H
def rI0 (g : Int → Int → V) : R2 := fun x y H Q => ∃ i j, x = .int i ∧ y = .int j ∧ Q (g i j) H
def rU (g : Int → V) : V → Hp → VK → Prop := fun x H Q => ∃ i, x = .int i ∧ Q (g i) H
section
variable {X : Cx} {a b c : Expr} {ta tb tc : TE} {pos : Pos}
theorem binT (ha : PE X a ta) (hb : PE X b tb) {pins : List (Addr × Obj)} {s : Shared} {σ : St} {H : Hp} {R : V → V → Hp → Prop} (I : Inv X pins σ H s)
    (h : ta σ H fun x H1 => tb σ H1 fun y H2 => R x y H2) {Q : Value → Shared → Prop} {f : Value → Value → Sem Value}
    (hf : ∀ v u s2 x y H2, Inv X pins σ H2 s2 → RelV x v → RelV y u → R x y H2 → wpAny (model X.prog X.w) X.A (f v u) Q X.xe s2) :
    wpAny (model X.prog X.w) X.A (eval a X.env) (fun v s₁ => wpAny (model X.prog X.w) X.A (eval b X.env) (fun u s₂ => wpAny (model X.prog X.w) X.A (f v u) Q X.xe s₂) X.xe s₁) X.xe s := by
  refine thn (ha pins s σ H _ I h) fun v s1 ⟨x, H1, I1, r1, q1⟩ => ?_
  refine thn (hb pins s1 σ H1 _ I1 q1) fun u s2 ⟨y, H2, I2, r2, q2⟩ => ?_
  exact hf v u s2 x y H2 I2 r1 r2 q2
theorem pe_op {op : Operator} {r : R2} (ho : OpR X (binaryOp op) r) (ha : PE X a ta) (hb : PE X b tb) : PE X (.BinOp a op b pos) (tOp r ta tb) := by
  intro pins s σ H Q I h
  exact wpAny_BinOp (binT ha hb I h fun v u s2 x y H2 I2 rx ry q => ho pins s2 σ H2 x y v u Q I2 rx ry q)
theorem pe_un {op : UnaryOp} {r : V → Hp → VK → Prop} (ho : UnR X (unaryOp op) r) (ha : PE X a ta) : PE X (.UnaryOp op a pos) (tUn r ta) := by
  intro pins s σ H Q I h
  exact UnaryOp_ (thn (ha pins s σ H _ I h) fun v s1 ⟨x, H1, I1, r1, q1⟩ => ho pins s1 σ H1 x v Q I1 r1 q1)
/-! ### ints -/
theorem opI {f : Value → Value → Sem Value} {C : Int → Int → Prop} {g : Int → Int → Int}
    (rule : ∀ (i j : Int) (t u : Tok) (s : Shared) (Q : Value → Shared → Prop) (E : Value → Shared → Prop), C i j → Q (.int (g i j) s.toks) { s with toks := s.toks + 1 } → wpAny (model X.prog X.w) X.A (f (.int i t) (.int j u)) Q E s) :
    OpR X f (rI C fun i j => .int (g i j)) := by
  intro pins s σ H x y v u Q I rx ry h
  obtain ⟨i, j, rfl, rfl, hc, q⟩ := h
  obtain ⟨t, rfl⟩ := rx
  obtain ⟨t', rfl⟩ := ry
  exact rule i j t t' s _ _ hc ⟨.int (g i j), H, I.tok _, ⟨_, rfl⟩, q⟩
theorem opI0 {f : Value → Value → Sem Value} {g : Int → Int → Int}
    (rule : ∀ (i j : Int) (t u : Tok) (s : Shared) (Q : Value → Shared → Prop) (E : Value → Shared → Prop), Q (.int (g i j) s.toks) { s with toks := s.toks + 1 } → wpAny (model X.prog X.w) X.A (f (.int i t) (.int j u)) Q E s) :
    OpR X f (rI0 fun i j => .int (g i j)) := by
  intro pins s σ H x y v u Q I rx ry h
  obtain ⟨i, j, rfl, rfl, q⟩ := h
  obtain ⟨t, rfl⟩ := rx
  obtain ⟨t', rfl⟩ := ry
  exact rule i j t t' s _ _ ⟨.int (g i j), H, I.tok _, ⟨_, rfl⟩, q⟩
theorem opB0 {f : Value → Value → Sem Value} {g : Int → Int → Bool}
    (rule : ∀ (i j : Int) (t u : Tok) (s : Shared) (Q : Value → Shared → Prop) (E : Value → Shared → Prop), Q (.bool (g i j)) s → wpAny (model X.prog X.w) X.A (f (.int i t) (.int j u)) Q E s) :
    OpR X f (rI0 fun i j => .bl (g i j)) := by
  intro pins s σ H x y v u Q I rx ry h
  obtain ⟨i, j, rfl, rfl, q⟩ := h
  obtain ⟨t, rfl⟩ := rx
  obtain ⟨t', rfl⟩ := ry
  exact rule i j t t' s _ _ ⟨.bl (g i j), H, I, rfl, q⟩
def CDiv (i j : Int) : Prop := 0 < j ∧ j < 1073741824
def CMul (i j : Int) : Prop := (-(2 ^ 64) < i ∧ i < 2 ^ 64) ∨ (-(2 ^ 64) < j ∧ j < 2 ^ 64)
theorem CMul.ok {i j : Int} (h : CMul i j) : IntMulOk i j := by
  rcases h with ⟨h1, h2⟩ | ⟨h1, h2⟩
  · exact .of_left (intBits_le_64 h1 h2)
  · exact .of_right (intBits_le_64 h1 h2)
theorem two_pow_nn (k : Nat) : (0 : Int) ≤ 2 ^ k := by
  rw [two_pow_cast]
  exact Int.natCast_nonneg _
theorem op_add : OpR X (binaryOp .Add) (rI0 fun i j => .int (i + j)) := opI0 fun _ _ _ _ _ _ _ q => add_int q
theorem op_sub : OpR X (binaryOp .Sub) (rI0 fun i j => .int (i - j)) := opI0 fun _ _ _ _ _ _ _ q => sub_int q
theorem op_mul : OpR X (binaryOp .Mult) (rI CMul fun i j => .int (i * j)) := opI fun _ _ _ _ _ _ _ hc q => mul_int q hc.ok
/-- // by a positive divisor -/
theorem op_fdiv : OpR X (binaryOp .FloorDiv) (rI CDiv fun i j => .int (i / j)) := opI fun i j _ _ _ _ _ hc q => by
  have h1 : (0 : Int) < j := hc.1
  have h2 : j < 1073741824 := hc.2
  exact floordiv_int (by omega) (by rw [Int.fdiv_eq_ediv_of_nonneg i (by omega)]; exact q) (.inl (PyProof.noPylong_small (by omega)))
/-- % by a positive divisor of any size -/
theorem op_mod : OpR X (binaryOp .Mod) (rI (fun _ j => 0 < j) fun i j => .int (i % j)) := opI fun i j _ _ _ _ _ hc q => by
  have h1 : (0 : Int) < j := hc
  exact mod_int' (by omega) (by rw [Int.fmod_eq_emod_of_nonneg i (by omega)]; exact q)
theorem op_shr : OpR X (binaryOp .RShift) (rI (fun _ j => 0 ≤ j) fun i j => .int (i / 2 ^ j.toNat)) := opI fun i j _ _ _ _ _ hc q =>
  rshift_int hc (by rw [Int.fdiv_eq_ediv_of_nonneg i (two_pow_nn _)]; exact q)
theorem op_and : OpR X (binaryOp .BitAnd) (rI0 fun i j => .int (Builtin.bitAnd i j)) := opI0 fun _ _ _ _ _ _ _ q => and_int q
theorem unI {f : Value → Sem Value} {g : Int → Int}
    (rule : ∀ (i : Int) (t : Tok) (s : Shared) (Q : Value → Shared → Prop) (E : Value → Shared → Prop), Q (.int (g i) s.toks) { s with toks := s.toks + 1 } → wpAny (model X.prog X.w) X.A (f (.int i t)) Q E s) :
    UnR X f (rU fun i => .int (g i)) := by
  intro pins s σ H x v Q I rx h
  obtain ⟨i, rfl, q⟩ := h
  obtain ⟨t, rfl⟩ := rx
  exact rule i t s _ _ ⟨.int (g i), H, I.tok _, ⟨_, rfl⟩, q⟩
theorem un_neg : UnR X (unaryOp .USub) (rU fun i => .int (-i)) := unI fun _ _ _ _ _ q => neg_int q
end
section
variable {X : Cx} {a b c : Expr} {ta tb tc : TE} {pos : Pos}
theorem op_lt : OpR X (compareOp .Lt) (rI0 fun i j => .bl (decide (i < j))) := opB0 fun _ _ _ _ _ _ _ q => lt_int q
theorem op_gt : OpR X (compareOp .Gt) (rI0 fun i j => .bl (decide (j < i))) := opB0 fun _ _ _ _ _ _ _ q => gt_int q
theorem op_ge : OpR X (compareOp .GtE) (rI0 fun i j => .bl (decide (j ≤ i))) := opB0 fun _ _ _ _ _ _ _ q => ge_int q
/-- two rules for one operation: by cases -/
theorem OpR.or {f : Value → Value → Sem Value} {r r' : R2} (h : OpR X f r) (h' : OpR X f r') : OpR X f (fun x y H Q => r x y H Q ∨ r' x y H Q) := by
  intro pins s σ H x y v u Q I rx ry q
  rcases q with q | q
  · exact h pins s σ H x y v u Q I rx ry q
  · exact h' pins s σ H x y v u Q I rx ry q
theorem nomark (b : Expr) {op : CmpOp} (h : op ≠ .In := by decide) (h2 : op ≠ .NotIn := by decide) : behindInMarks op b = false := by
  have e1 : (op == CmpOp.In) = false := by cases op <;> first | rfl | exact absurd rfl h
  have e2 : (op == CmpOp.NotIn) = false := by cases op <;> first | rfl | exact absurd rfl h2
  cases b <;> simp [behindInMarks, e1, e2]
/-- a comparison as a value; hm: nomark b, or (for in, not in) by with_unfolding_all rfl -/
theorem pe_cmpR {op : CmpOp} {r : R2} (ho : OpR X (compareOp op) r) (ha : PE X a ta) (hb : PE X b tb) (hm : behindInMarks op b = false) : PE X (.Compare a [op] [b] pos) (tOp r ta tb) := by
  intro pins s σ H Q I h
  exact wpAny_Compare1 (binT ha hb I h fun v u s2 x y H2 I2 rx ry q => ho pins s2 σ H2 x y v u Q I2 rx ry q) hm
/-- a reading of a value as a test -/
def tTest (t : TE) : TT := fun σ H Q => t σ H fun x H' => ∃ k, x = .bl k ∧ Q k H'
theorem pt_cmpR {op : CmpOp} {r : R2} (ho : OpR X (compareOp op) r) (ha : PE X a ta) (hb : PE X b tb) (hm : behindInMarks op b = false) : PT X (.Compare a [op] [b] pos) (tTest (tOp r ta tb)) := by
  intro pins s σ H Q I h
  refine wpAny_isTrue_Compare1 (thn (ha pins s σ H _ I h) fun v s1 ⟨x, H1, I1, r1, q1⟩ => thn (hb pins s1 σ H1 _ I1 q1) fun u s2 ⟨y, H2, I2, r2, q2⟩ =>
    thn (ho pins s2 σ H2 x y v u _ I2 r1 r2 q2) fun c s3 ⟨z, H3, I3, r3, k, e, q3⟩ => ?_) hm
  subst e
  cases r3
  exact wpAny_truthy_bool ⟨H3, I3, q3⟩
theorem line63 : (sizeLine : Nat) < 2 ^ 63 := by rw [sizeLine_eq]; decide
theorem op_add_str : OpR X (binaryOp .Add) (fun x y H Q => ∃ i j, x = .str i ∧ y = .str j ∧ i.length + j.length ≤ sizeLine ∧ Q (.str (i ++ j)) H) := by
  intro pins s σ H x y v u Q I rx ry h
  obtain ⟨i, j, rfl, rfl, hz, q⟩ := h
  obtain ⟨t, rfl⟩ := rx
  obtain ⟨t', rfl⟩ := ry
  exact add_str (fun t' tk => ⟨.str (i ++ j), H, I.tok _, ⟨_, rfl⟩, q⟩) hz
/-! ### scalar builtins, by CallR -/
theorem vals1 {x : V} {us : List Value} (r : Vals [x] us) : ∃ u, us = [u] ∧ RelV x u := by
  cases r with
  | cons r1 r2 => cases r2; exact ⟨_, rfl, r1⟩
theorem vals2 {x y : V} {us : List Value} (r : Vals [x, y] us) : ∃ u w', us = [u, w'] ∧ RelV x u ∧ RelV y w' := by
  cases r with
  | cons r1 r2 =>
    cases r2 with
    | cons r3 r4 => cases r4; exact ⟨_, _, rfl, r1, r3⟩
/-- len of a str, a bytes, a list, a tuple -/
def LenV (K : PySem.W.Frag) (x : V) (H : Hp) (n : Nat) : Prop :=
  match x with
  | .str y => y.length ≤ sizeLine ∧ n = y.length
  | .byt y => y.size ≤ sizeLine ∧ n = y.size
  | .ref p => (∃ xs, SqL K H p xs ∧ n = xs.length) ∨ ∃ xs, SqT K H p xs ∧ n = xs.length
  | _ => False
theorem call_len : CallR X (.builtin "len") (fun xs H Q => ∃ x n, xs = [x] ∧ LenV X.K x H n ∧ Q (.int n) H) := by
  intro pins s σ H xs us Q I r h
  obtain ⟨x, n, rfl, e, q⟩ := h
  obtain ⟨u, rfl, rx⟩ := vals1 r
  have hl := line63
  have hs : sizeLine = 16777216 := sizeLine_eq
  cases x with
  | str y =>
    obtain ⟨t, rfl⟩ := rx
    obtain ⟨hy, e'⟩ : y.length ≤ sizeLine ∧ n = y.length := e
    subst e'
    exact len_str (by omega) ⟨.int _, H, I.tok _, ⟨_, rfl⟩, q⟩
  | byt y =>
    obtain ⟨t, rfl⟩ := rx
    obtain ⟨hy, e'⟩ : y.size ≤ sizeLine ∧ n = y.size := e
    subst e'
    exact PySem.W.len_bytes (by omega) ⟨.int _, H, I.tok _, ⟨_, rfl⟩, q⟩
  | ref p =>
    cases rx
    have e' : (∃ xs, SqL X.K H p xs ∧ n = xs.length) ∨ ∃ xs, SqT X.K H p xs ∧ n = xs.length := e
    rcases e' with ⟨xs, hx, e'⟩ | ⟨xs, hx, e'⟩
    · subst e'
      obtain ⟨its, r', pl, hz⟩ := I.list hx
      have hlen := r'.length
      exact Calls.call_len_list pl.isList (by simp only [List.size_toArray]; omega) ⟨.int xs.length, H, I.tok _, ⟨_, by simp only [List.size_toArray]; rw [hlen]⟩, q⟩
    · subst e'
      obtain ⟨its, r', pl, hz⟩ := I.tuple hx
      have hlen := r'.length
      exact len_tuple pl (by simp only [List.size_toArray]; omega) ⟨.int xs.length, H, I.tok _, ⟨_, by simp only [List.size_toArray]; rw [hlen]⟩, q⟩
  | _ => exact (show False from e).elim
end
end L2
namespace L2
open PySem PySem.Spec PyProof.Rows
/-! ### an instance, its attributes a map -/
structure ObjM (h : Heap) (x dx C : Addr) (mA : Str → Option Value) : Prop where
  obj : h.get? x = some (PySem.W.instObj C dx)
  ns : h.Ns1 dx mA
  ne : dx ≠ x
theorem lookIn_ns {h : Heap} {dx : Addr} {mA : Str → Option Value} (n : h.Ns1 dx mA) : ∃ od, h.get? dx = some od ∧ ∀ name, PySem.W.lookIn name od = some (mA name) := by
  obtain ⟨o, es, ep, ho, hd, hk, _, hm⟩ := n
  refine ⟨o, ho, fun name => ?_⟩
  have e := hm name
  unfold nsFind findBy at e
  rw [← Array.find?_toList] at e
  unfold PySem.W.lookIn
  rw [hd]
  dsimp only
  split
  · rename_i y q
    rw [q] at e
    exact congrArg some e
  · rename_i q
    rw [q] at e
    have a : es.toList.any (·.refKey) = false := by
      rw [List.any_eq_false]
      intro y hy
      obtain ⟨z, t, hkey⟩ := hk y (Array.mem_toList_iff.mp hy)
      simp [DictEntry.refKey, hkey]
    have a' : ¬ es.toList.any (·.refKey) = true := by rw [a]; exact Bool.false_ne_true
    rw [if_neg a']
    exact congrArg some e
theorem ObjM.look {h : Heap} {x dx C : Addr} {mA : Str → Option Value} (I : ObjM h x dx C mA) : ∃ od, PySem.W.InstAt h x (PySem.W.instObj C dx) C (some od) ∧ ∀ name, PySem.W.lookIn name od = some (mA name) :=
  let ⟨od, ho, hl⟩ := lookIn_ns I.ns
  ⟨od, ⟨I.obj, rfl, rfl, ho⟩, hl⟩
section
variable {prog : Program} {w : World} {A : Around} {E : Value → Shared → Prop} {s : Shared} {K : PySem.W.Frag} {x dx C f : Addr} {mA : Str → Option Value} {name : Str} {v : Value}
theorem get_map {expr : Bool} {Q : Value → Shared → Prop} (X : K.In s.heap) (I : ObjM s.heap x dx C mA) (hg : PySem.W.plainGet K C name = true) (hh : PySem.W.hasDictIn K C = true)
    (ha : PySem.W.findIn K (.ref C) name = some none) (hv : mA name = some v) (hv' : PySem.W.handedIn v = true) (h : Q v { s with toks := s.toks + 1 }) :
    wpAny (model prog w) A (getAttr (.ref x) name expr) Q E s := by
  obtain ⟨od, J, hl⟩ := I.look
  exact PySem.W.get_value X J (PySem.W.plainGet_of hg).1 (PySem.W.findObj_own hh ha rfl (by rw [hl, hv])) hv' h
theorem get_meth {pl : Sem Bool} {Q : Value × List Value → Shared → Prop} (X : K.In s.heap) (I : ObjM s.heap x dx C mA) (hg : PySem.W.plainGet K C name = true)
    (hf : PySem.W.findIn K (.ref C) name = some (some (.ref f))) (ht : PySem.W.isFn K (.ref f) = true) (hv : mA name = none) (h : Q (.ref f, [.ref x]) s) :
    wpAny (model prog w) A (getMethod (.ref x) name pl) Q E s := by
  obtain ⟨od, J, hl⟩ := I.look
  exact PySem.W.method_fn X J (PySem.W.plainGet_of hg).1 (PySem.W.plainGet_of hg).2 hf (beq_iff_eq.mp ht) (by show (PySem.W.lookIn name od).map (·.isSome) = some false; rw [hl, hv]; rfl) h
theorem set_map {ns : List Str} {Q : Unit → Shared → Prop} (X : K.In s.heap) (I : ObjM s.heap x dx C mA)
    (hs : PySem.W.findIn K (.ref C) "__setattr__" = some (some (.builtin "object.__setattr__"))) (hp : PySem.W.plainOver K C = true) (ht : PySem.W.takerIn K C name = some none) (hh : PySem.W.hasDictIn K C = true)
    (hw : PySem.Within mA ns) (hsz : ns.length ≤ sizeLine)
    (h : ∀ h', ObjM h' x dx C (fun y => if y = name then some v else mA y) → Heap.SameBut dx s.heap h' → Q () { s with heap := h', toks := s.toks + 2 }) :
    wpAny (model prog w) A (setAttr (.ref x) name v) Q E s := by
  obtain ⟨od, J, hl⟩ := I.look
  refine PySem.W.set_plain X J hs (PySem.W.osa_open (s := { s with toks := s.toks + 1 }) (r := none) X J hp ht fun b => ?_)
  obtain ⟨cd, hc, hd'⟩ := PySem.W.any_some hh
  have hx : s.heap.get? x = some ⟨.ref C, some dx, .plain, #[]⟩ := I.obj
  refine wpAny_bind (wpAny_pure (wpAny_bind (wpAny_bind (wpAny_loadPart hx (wpAny_bind (PySem.W.Looks.here (s := { s with toks := s.toks + 1 }) (PySem.W.looks_clsIn X hc) ?_))))))
  rw [hd']
  refine wpAny_pure (a := some dx) (wpAny_bind (wpAny_pure (wpAny_bind ?_)))
  refine wpAny_nsSet1 (s := { s with toks := s.toks + 1 }) I.ns fun h' hn2 hs2 => ?_
  obtain ⟨oD, esD, epD, hoD, hdD, hcD⟩ := hn2.count (PySem.Within.cons name v hw)
  refine wpAny_bind (wpAny_lookBehind hoD (by rw [hdD]; exact pastItsLine_dict (Nat.le_trans hcD (by rw [List.length_cons]; omega))) ?_)
  exact wpAny_pure (h _ ⟨(hs2.2 _ (Ne.symm I.ne)).trans I.obj, hn2, I.ne⟩ hs2)
/-- C(..): the dict at the heap's end, the instance behind it; then its __init__ -/
theorem make_map {R : Result → Shared → Prop} {vs : List Value} {kw : List (Str × Value)} (X : K.In s.heap) (hm : PySem.W.makesIn K C = true)
    (hi : PySem.W.findIn K (.ref C) "__init__" = some (some (.ref f))) (hf : PySem.W.typeIn K (.ref f) = some (.type "function"))
    (h : codeAny (model prog w) (A.under (.builtin "type.__call__" ⟨.ref C :: vs, kw⟩)) (.call (.ref f) ⟨.ref (s.heap.objs.size + 1) :: vs, kw⟩) (PySem.W.InitBack (s.heap.objs.size + 1) R)
      { s with heap := (s.heap.push PySem.W.emptyDict).push (PySem.W.instObj C s.heap.objs.size) }) :
    codeAny (model prog w) A (.call (.ref C) ⟨vs, kw⟩) R s := by
  obtain ⟨hh, g, d, t, os⟩ := s
  exact PySem.W.make_core (PySem.W.makes_of X hm) (PySem.W.looks_findIn X hi) (fun self => PySem.W.bind_fn X self hf) (.inl rfl) h
/-- C() where there is no __init__ but object's -/
theorem make_map0 {R : Result → Shared → Prop} (X : K.In s.heap) (hm : PySem.W.makesIn K C = true)
    (hi : PySem.W.findIn K (.ref C) "__init__" = some (some (.builtin "object.__init__")))
    (hb : ∀ self, PySem.W.Looks (model prog w) s.heap (bindSpecial (.builtin "object.__init__") self) (.builtin "object.__init__", [self]))
    (h : codeAny (model prog w) (A.under (.builtin "type.__call__" ⟨[.ref C], []⟩)) (.call (.builtin "object.__init__") ⟨[.ref (s.heap.objs.size + 1)], []⟩) (PySem.W.InitBack (s.heap.objs.size + 1) R)
      { s with heap := (s.heap.push PySem.W.emptyDict).push (PySem.W.instObj C s.heap.objs.size) }) :
    codeAny (model prog w) A (.call (.ref C) ⟨[], []⟩) R s := by
  obtain ⟨hh, g, d, t, os⟩ := s
  exact PySem.W.make_core (PySem.W.makes_of X hm) (PySem.W.looks_findIn X hi) hb (.inr ⟨rfl, rfl⟩) h
end
/-! ### the attributes as a list of pairs -/
def putF (f : Str) (v : V) : List (Str × V) → List (Str × V)
  | [] => [(f, v)]
  | (g, x) :: r => if g = f then (g, v) :: r else (g, x) :: putF f v r
theorem lookup_putF (f g : Str) (v : V) : ∀ fs : List (Str × V), (putF f v fs).lookup g = if g = f then some v else fs.lookup g
  | [] => by
    show List.lookup g [(f, v)] = _
    by_cases h : g = f
    · have hb : (g == f) = true := beq_iff_eq.mpr h
      simp only [List.lookup, hb, if_pos h]
    · have hb : (g == f) = false := beq_eq_false_iff_ne.mpr h
      simp only [List.lookup, hb, if_neg h]
  | (k, x) :: r => by
    have ih := lookup_putF f g v r
    rw [show putF f v ((k, x) :: r) = (if k = f then (k, v) :: r else (k, x) :: putF f v r) from rfl]
    by_cases hk : k = f
    · rw [if_pos hk]
      by_cases h : g = k
      · have hb : (g == k) = true := beq_iff_eq.mpr h
        simp only [List.lookup, hb, if_pos (h.trans hk)]
      · have hb : (g == k) = false := beq_eq_false_iff_ne.mpr h
        simp only [List.lookup, hb, if_neg (fun e : g = f => h (e.trans hk.symm))]
    · rw [if_neg hk]
      by_cases h : g = k
      · have hb : (g == k) = true := beq_iff_eq.mpr h
        simp only [List.lookup, hb, if_neg (fun e : g = f => hk (h.symm.trans e))]
      · have hb : (g == k) = false := beq_eq_false_iff_ne.mpr h
        simp only [List.lookup, hb]
        exact ih
theorem keys_putF (f : Str) (v : V) : ∀ fs : List (Str × V), f ∈ (putF f v fs).map (·.1) ∧ ∀ g, g ∈ fs.map (·.1) → g ∈ (putF f v fs).map (·.1)
  | [] => ⟨by simp [putF], fun g h => by simp at h⟩
  | (k, x) :: r => by
    obtain ⟨i1, i2⟩ := keys_putF f v r
    rw [show putF f v ((k, x) :: r) = (if k = f then (k, v) :: r else (k, x) :: putF f v r) from rfl]
    by_cases hk : k = f
    · rw [if_pos hk]
      subst hk
      exact ⟨by simp, fun g h => by simpa using h⟩
    · rw [if_neg hk]
      refine ⟨?_, fun g h => ?_⟩
      · rw [List.map_cons]
        exact List.mem_cons_of_mem _ i1
      · rw [List.map_cons] at h ⊢
        rcases List.mem_cons.mp h with e | e
        · exact List.mem_cons.mpr (.inl e)
        · exact List.mem_cons_of_mem _ (i2 g e)
theorem length_putF (f : Str) (v : V) : ∀ fs : List (Str × V), (putF f v fs).length ≤ fs.length + 1
  | [] => by simp [putF]
  | (k, x) :: r => by
    have ih := length_putF f v r
    rw [show putF f v ((k, x) :: r) = (if k = f then (k, v) :: r else (k, x) :: putF f v r) from rfl]
    by_cases hk : k = f
    · rw [if_pos hk, List.length_cons, List.length_cons]; omega
    · rw [if_neg hk, List.length_cons, List.length_cons]; omega
theorem RelO.some_of {v : V} {o : Option Value} (r : RelO (some v) o) : ∃ u, o = some u ∧ RelV v u := by
  cases o with
  | none => exact (show False from r).elim
  | some u => exact ⟨u, rfl, r⟩
theorem RelO.none_of {o : Option Value} (r : RelO none o) : o = none := by
  cases o with
  | none => rfl
  | some u => exact (show False from r).elim
theorem handed_of {v : V} {u : Value} (r : RelV v u) : PySem.W.handedIn u = true := by
  cases v with
  | non => cases (show u = Value.none from r); rfl
  | bl b => cases (show u = Value.bool b from r); rfl
  | int i => obtain ⟨t, e⟩ := (show ∃ t, u = Value.int i t from r); cases e; rfl
  | str x => obtain ⟨t, e⟩ := (show ∃ t, u = Value.str x t from r); cases e; rfl
  | byt b => obtain ⟨t, e⟩ := (show ∃ t, u = Value.bytes b t from r); cases e; rfl
  | flt b => obtain ⟨t, e⟩ := (show ∃ t, u = Value.float b t from r); cases e; rfl
  | ref a => cases (show u = Value.ref a from r); rfl
  | ty n => cases (show u = Value.type n from r); rfl
section
variable {P : Program} {w : World} {H H' : Hp} {h h' : Heap} {a C dx : Addr} {fs fs' : List (Str × V)}
theorem ins_get (hok : HOk P w H h) (e : H a = some (.ins C dx fs)) : ∃ mA, ObjM h a dx C mA ∧ (∀ f, RelO (fs.lookup f) (mA f)) ∧ PySem.Within mA (fs.map (·.1)) ∧ fs.length ≤ 1000 ∧ H dx = some (.own a) := by
  obtain ⟨d, z, ne, ob, mA, n, r, q⟩ := (show ObjOk P w H h a (.ins C dx fs) from hok a _ e)
  exact ⟨mA, ⟨ob, n, ne⟩, r, q, z, d⟩
end
/-! ### what of the text a class must have -/
structure Cls (K : PySem.W.Frag) (C : Addr) : Prop where
  pg : PySem.W.plainGet K C Str.empty = true
  hd : PySem.W.hasDictIn K C = true
  po : PySem.W.plainOver K C = true
  sa : PySem.W.findIn K (.ref C) "__setattr__" = some (some (.builtin "object.__setattr__"))
theorem Cls.get {K : PySem.W.Frag} {C : Addr} (c : Cls K C) (f : Str) : PySem.W.plainGet K C f = true := c.pg
/-- no class of it has the name -/
def NoAttr (K : PySem.W.Frag) (C : Addr) (f : Str) : Prop := PySem.W.findIn K (.ref C) f = some none
theorem NoAttr.taker {K : PySem.W.Frag} {C : Addr} {f : Str} (n : NoAttr K C f) : PySem.W.takerIn K C f = some none := by
  unfold PySem.W.takerIn
  rw [show PySem.W.findIn K (.ref C) f = some none from n]
  rfl
/-- a constant of the class -/
structure Con (K : PySem.W.Frag) (C : Addr) (f : Str) (v : V) (u : Value) : Prop where
  at_ : PySem.W.findIn K (.ref C) f = some (some u)
  rel : RelV v u
  get : PySem.W.specialIn K u "__get__" = some none
  cp : PySem.W.copiedNames.contains f = false
/-- a method: a plain def of the class or of one above it -/
structure Meth (K : PySem.W.Frag) (C : Addr) (m : Str) (f : Addr) : Prop where
  at_ : PySem.W.findIn K (.ref C) m = some (some (.ref f))
  fn : PySem.W.isFn K (.ref f) = true
  kp : PySem.W.keepIn K (.ref f) = true
section
variable {X : Cx} {pins : List (Addr × Obj)} {σ : St} {H : Hp} {s : Shared} {a C dx : Addr} {fs : List (Str × V)} {f : Str} {v : V} {A : Around} {E : Value → Shared → Prop}
theorem getattr_ok {b : Bool} {Q : Value → Shared → Prop} (I : Inv X pins σ H s) (e : H a = some (.ins C dx fs)) (c : Cls X.K C) (n : NoAttr X.K C f) (l : fs.lookup f = some v)
    (h : ∀ u s', Inv X pins σ H s' → RelV v u → Q u s') : wpAny (model X.prog X.w) A (getAttr (.ref a) f b) Q E s := by
  obtain ⟨mA, O, r, _, _, _⟩ := ins_get I.hok e
  obtain ⟨u, hu, ru⟩ := RelO.some_of (v := v) (o := mA f) (by rw [← l]; exact r f)
  exact get_map I.kIn O (c.get f) c.hd n hu (handed_of ru) (h u _ (I.tok _) ru)
theorem getmeth_ok {m : Str} {g : Addr} {pl : Sem Bool} {Q : Value × List Value → Shared → Prop} (I : Inv X pins σ H s) (e : H a = some (.ins C dx fs)) (c : Cls X.K C) (k : Meth X.K C m g) (l : fs.lookup m = none)
    (h : Q (.ref g, [.ref a]) s) : wpAny (model X.prog X.w) A (getMethod (.ref a) m pl) Q E s := by
  obtain ⟨mA, O, r, _, _, _⟩ := ins_get I.hok e
  have hn : mA m = none := RelO.none_of (by rw [← l]; exact r m)
  exact get_meth I.kIn O (c.get m) k.at_ k.fn hn h
theorem setattr_ok {y : V} {u : Value} {Q : Unit → Shared → Prop} (I : Inv X pins σ H s) (e : H a = some (.ins C dx fs)) (c : Cls X.K C) (n : NoAttr X.K C f) (hl : fs.length < 1000) (ry : RelV y u)
    (h : ∀ s', Inv X pins σ (upd H a (.ins C dx (putF f y fs))) s' → Q () s') : wpAny (model X.prog X.w) A (setAttr (.ref a) f u) Q E s := by
  obtain ⟨mA, O, r, wi, _, ho⟩ := ins_get I.hok e
  have hz : (fs.map (·.1)).length ≤ sizeLine := by rw [List.length_map, sizeLine_eq]; omega
  refine set_map I.kIn O c.sa c.po n.taker c.hd wi hz fun h' O' sb => h _ ?_
  have hd : ∃ o, h'.get? dx = some o := let ⟨o, _, _, e', _⟩ := O'.ns; ⟨o, e'⟩
  refine I.write (x := a) (e := dx) (by rw [e]; exact True.intro) (.inr ho) (fun b q hb z => (sb.2 b hb).trans z) hd ?_
  refine ⟨by rw [upd_ne O.ne]; exact ho, ?_, O.ne, O'.obj, _, O'.ns, fun g => ?_, fun g hg => ?_⟩
  · have := length_putF f y fs; omega
  · show RelO ((putF f y fs).lookup g) (if g = f then some u else mA g)
    rw [lookup_putF]
    by_cases q : g = f
    · rw [if_pos q, if_pos q]; exact ry
    · rw [if_neg q, if_neg q]; exact r g
  · by_cases q : g = f
    · rw [q]; exact (keys_putF f y fs).1
    · refine (keys_putF f y fs).2 g (wi g fun z => hg ?_)
      show (if g = f then some u else mA g) = none
      rw [if_neg q]; exact z
/-- a new instance, tracked, without attributes -/
theorem Inv.made (I : Inv X pins σ H s) : Inv X pins σ (upd (upd H s.heap.objs.size (.own (s.heap.objs.size + 1))) (s.heap.objs.size + 1) (.ins C s.heap.objs.size []))
    { s with heap := (s.heap.push PySem.W.emptyDict).push (PySem.W.instObj C s.heap.objs.size) } := by
  have e1 : (s.heap.push PySem.W.emptyDict).get? s.heap.objs.size = some PySem.W.emptyDict := Heap.get?_push_size s.heap rfl
  have e2 : ((s.heap.push PySem.W.emptyDict).push (PySem.W.instObj C s.heap.objs.size)).get? (s.heap.objs.size + 1) = some (PySem.W.instObj C s.heap.objs.size) := by
    have := Heap.get?_push_size (s.heap.push PySem.W.emptyDict) (o := PySem.W.instObj C s.heap.objs.size) rfl
    rwa [Heap.size_push] at this
  have e3 : (s.heap.push PySem.W.emptyDict).Ns s.heap.objs.size (fun _ => none) := ⟨PySem.W.emptyDict, #[], _, e1, rfl, (fun e he => absurd he (by simp)), fun _ => rfl⟩
  have I1 := I.laid (a := s.heap.objs.size) (o := .own (s.heap.objs.size + 1)) (h' := s.heap.push PySem.W.emptyDict) (t' := s.toks) (fun b u q => Heap.get?_push_of_some _ q) (Nat.le_refl _) ⟨_, e1⟩
  refine I1.laid (a := s.heap.objs.size + 1) (o := .ins C s.heap.objs.size []) (t' := s.toks) (fun b u q => Heap.get?_push_of_some _ q) (Nat.le_of_eq (Heap.size_push _ _)) ?_
  have ne : s.heap.objs.size ≠ s.heap.objs.size + 1 := Nat.ne_of_lt (Nat.lt_succ_self _)
  refine ⟨by rw [upd_ne ne, upd_same], Nat.zero_le _, ne, e2, fun _ => none, (Heap.Ns1.of_empty e3).at fun o q => Heap.get?_push_of_some _ q, fun _ => True.intro, fun y hy => absurd rfl hy⟩
/-- e.f where nothing but the object is asked: through attributeBase (super) and the last hold -/
theorem attr_of {prog : Program} {w : World} {env : Env} {e : Expr} {f : Str} {pos : Pos} {s : Shared} {Q : Value → Shared → Prop} (hb : attributeBase e f env (eval e env) = eval e env)
    (h : wpAny (model prog w) A (eval e env) (fun o s₁ => wpAny (model prog w) A (getAttr o f true) Q E s₁) E s) : wpAny (model prog w) A (eval (.Attribute e f pos) env) Q E s :=
  Attribute_any_ h (by rw [arm_eval_Attribute, hb])
end
/-! ### readings and rules -/
/-- e.f, an attribute of the instance -/
def tFld (K : PySem.W.Frag) (ta : TE) (f : Str) : TE := fun σ H Q => ta σ H fun x H1 => ∃ a C dx fs v, x = .ref a ∧ H1 a = some (.ins C dx fs) ∧ Cls K C ∧ NoAttr K C f ∧ fs.lookup f = some v ∧ Q v H1
/-- e.f = value -/
def sFld (K : PySem.W.Frag) (ta tv : TE) (f : Str) : TS := fun D σ H => tv σ H fun y H1 => ta σ H1 fun x H2 => ∃ a C dx fs, x = .ref a ∧ H2 a = some (.ins C dx fs) ∧ Cls K C ∧ NoAttr K C f ∧ fs.length < 1000 ∧
  D.nx σ (upd H2 a (.ins C dx (putF f y fs)))
/-- an augmented operator on two values -/
def InOp (X : Cx) (op : Operator) (rd : V → V → Hp → VK → Prop) : Prop :=
  ∀ (pins : List (Addr × Obj)) (s : Shared) (σ : St) (H : Hp) (x y : V) (u v : Value) (Q : VK), Inv X pins σ H s → RelV x u → RelV y v → rd x y H Q → wpAny (model X.prog X.w) X.A (inplaceOp op u v) (EP X pins σ Q) X.xe s
/-- e.f op= value -/
def sFldAug (K : PySem.W.Frag) (ta tv : TE) (rd : V → V → Hp → VK → Prop) (f : Str) : TS := fun D σ H => ta σ H fun x H1 => ∃ a C dx fs v, x = .ref a ∧ H1 a = some (.ins C dx fs) ∧ Cls K C ∧ NoAttr K C f ∧ fs.lookup f = some v ∧
  tv σ H1 fun y H2 => rd v y H2 fun z H3 => ∃ dx' fs', H3 a = some (.ins C dx' fs') ∧ fs'.length < 1000 ∧ D.nx σ (upd H3 a (.ins C dx' (putF f z fs')))
section
variable {X : Cx} {o e value : Expr} {f : Str} {pos pos' tpos : Pos} {ta tv : TE}
theorem pe_fld (he : PE X e ta) (hb : attributeBase e f X.env (eval e X.env) = eval e X.env) : PE X (.Attribute e f pos) (tFld X.K ta f) := by
  intro pins s σ H Q I h
  refine attr_of hb (thn (he pins s σ H _ I h) fun u s1 ⟨x, H1, I1, rx, a, C, dx, fs, v, ex, ea, c, n, l, q⟩ => ?_)
  subst ex
  obtain rfl : u = Value.ref a := rx
  exact getattr_ok I1 ea c n l fun u' s2 I2 ru => ⟨v, H1, I2, ru, q⟩
theorem ps_fld (ha : PE X o ta) (hv : PE X value tv) (hs : swapsWith value (some (.Attribute o f pos')) pos.line X.env = pure false) : PS X (.Assign [.Attribute o f pos'] value pos) (sFld X.K ta tv f) := by
  intro pins s σ H D I h
  refine plainObj_wpAny_Assign_Attribute (thn (hv pins s σ H _ I h) fun u s1 ⟨y, H1, I1, ry, q⟩ => thn (ha pins s1 σ H1 _ I1 q) fun ov s2 ⟨x, H2, I2, rx, a, C, dx, fs, ex, ea, c, n, l, q2⟩ => ?_) hs
  subst ex
  obtain rfl : ov = Value.ref a := rx
  exact setattr_ok I2 ea c n l ry fun s3 I3 => ⟨σ, _, I3, q2⟩
theorem ps_fldaug {op : Operator} {rd : V → V → Hp → VK → Prop} (ha : PE X o ta) (hv : PE X value tv) (hop : InOp X op rd) : PS X (.AugAssign (.Attribute o f tpos) op value pos) (sFldAug X.K ta tv rd f) := by
  intro pins s σ H D I h
  refine wpAny_AugAssign_AttributeAny (thn (ha pins s σ H _ I h) fun ov s1 ⟨x, H1, I1, rx, a, C, dx, fs, v, ex, ea, c, n, l, q⟩ => ?_)
  subst ex
  obtain rfl : ov = Value.ref a := rx
  refine getattr_ok I1 ea c n l fun u s2 I2 ru => thn (hv pins s2 σ H1 _ I2 q) fun w3 s3 ⟨y, H2, I3, ry, q3⟩ => thn (hop pins s3 σ H2 v y u w3 _ I3 ru ry q3) fun w4 s4 ⟨z, H3, I4, rz, dx', fs', ea', l', q4⟩ => ?_
  exact setattr_ok I4 ea' c n l' rz fun s5 I5 => ⟨σ, _, I5, q4⟩
def rAdd : V → V → Hp → VK → Prop := fun x y H Q => ∃ i j, x = .int i ∧ y = .int j ∧ Q (.int (i + j)) H
theorem in_add : InOp X .Add rAdd := by
  rintro pins s σ H x y u v Q I rx ry ⟨i, j, rfl, rfl, q⟩
  obtain ⟨t, rfl⟩ := (show ∃ t, u = Value.int i t from rx)
  obtain ⟨t', rfl⟩ := (show ∃ t', v = Value.int j t' from ry)
  exact PyProof.Rows.iadd_int ⟨.int (i + j), H, I.tok _, ⟨_, rfl⟩, q⟩
end
/-! ### isinstance -/
section
variable {X : Cx} {pins : List (Addr × Obj)} {σ : St} {H : Hp} {s : Shared} {A : Around} {E : Value → Shared → Prop} {Q : Value → Shared → Prop} {c : Value} {b : Bool}
/-- the type of a value, as the fragment's deciders take it; for an instance its class -/
inductive TyOf (K : PySem.W.Frag) (H : Hp) : V → Value → Prop where
  | non : TyOf K H .non (.type "NoneType")
  | bl (x : Bool) : TyOf K H (.bl x) (.type "bool")
  | int (i : Int) : TyOf K H (.int i) (.type "int")
  | str (x : Str) : TyOf K H (.str x) (.type "str")
  | flt (x : UInt64) : TyOf K H (.flt x) (.type "float")
  | lst {a : Addr} {xs : List V} (e : H a = some (.lst xs)) : TyOf K H (.ref a) (.type "list")
  | frz {a : Addr} {o : Obj} {xs : List V} (e : H a = some (.frz o (.lst xs))) : TyOf K H (.ref a) (.type "list")
  | tup {a : Addr} {xs : List V} (e : H a = some (.tup xs)) : TyOf K H (.ref a) (.type "tuple")
  | dK {a : Addr} {kvs : List (Key × V)} (e : H a = some (.dK kvs)) : TyOf K H (.ref a) (.type "dict")
  | dT {a : Addr} {kvs : List (List Key × V)} (e : H a = some (.dT kvs)) : TyOf K H (.ref a) (.type "dict")
  | ins {a C dx : Addr} {fs : List (Str × V)} (e : H a = some (.ins C dx fs)) (cl : Cls K C) (ha : PySem.W.findIn K (.ref C) "__class__" = some (some (.builtin "object.__class__")))
      (hn : PySem.W.specialIn K (.builtin "object.__class__") "__get__" = some (some (.builtin "getset_descriptor.__get__"))) (htk : PySem.W.takesIn K (.builtin "object.__class__") = some true)
      (hm : PySem.W.mroIn K C (.type "object") = some true) : TyOf K H (.ref a) (.ref C)
/-- isinstance(x, c) for one class c, a built-in or an own one: kitOne's answer -/
theorem isinst_ok {x : V} {u t : Value} (I : Inv X pins σ H s) (rx : RelV x u) (ty : TyOf X.K H x t) (e : PySem.W.kitOne X.K t c = some b) (h : ∀ tk, Q (.bool b) { s with toks := tk }) :
    wpAny (model X.prog X.w) A (call (.builtin "isinstance") [u, c]) Q E s := by
  cases ty with
  | non => cases (show u = Value.none from rx); exact PySem.W.kia_one PySem.W.kitx_none I.kIn True.intro e (fun z => nomatch z) h
  | bl y => cases (show u = Value.bool y from rx); exact PySem.W.kia_one PySem.W.kitx_bool I.kIn True.intro e (fun z => nomatch z) h
  | int i => obtain ⟨t, q⟩ := (show ∃ t, u = Value.int i t from rx); cases q; exact PySem.W.kia_one PySem.W.kitx_int I.kIn True.intro e (fun z => nomatch z) h
  | str y => obtain ⟨t, q⟩ := (show ∃ t, u = Value.str y t from rx); cases q; exact PySem.W.kia_one PySem.W.kitx_str I.kIn True.intro e (fun z => nomatch z) h
  | flt y => obtain ⟨t, q⟩ := (show ∃ t, u = Value.float y t from rx); cases q; exact PySem.W.kia_one PySem.W.kitx_float I.kIn True.intro e (fun z => nomatch z) h
  | @lst a xs ea =>
    cases (show u = Value.ref a from rx)
    obtain ⟨_, _, n, _, h1⟩ := (show ObjOk X.prog X.w H s.heap a (.lst xs) from I.hok a _ ea)
    exact PySem.W.kia_one PySem.W.kitx_list I.kIn ⟨_, h1, rfl⟩ e (fun z => nomatch z) h
  | @frz a ob xs ea =>
    cases (show u = Value.ref a from rx)
    obtain ⟨_, _, _, n, _, h1⟩ := (show ObjOk X.prog X.w H s.heap a (.frz ob (.lst xs)) from I.hok a _ ea)
    exact PySem.W.kia_one PySem.W.kitx_list I.kIn ⟨_, h1, rfl⟩ e (fun z => nomatch z) h
  | @tup a xs ea =>
    cases (show u = Value.ref a from rx)
    obtain ⟨_, _, _, p⟩ := (show ObjOk X.prog X.w H s.heap a (.tup xs) from I.hok a _ ea)
    obtain ⟨o, h1, h2, _⟩ := p
    exact PySem.W.kia_one PySem.W.kitx_tuple I.kIn ⟨o, h1, h2⟩ e (fun z => nomatch z) h
  | @dK a kvs ea =>
    cases (show u = Value.ref a from rx)
    obtain ⟨_, _, vs, _, p⟩ := (show ObjOk X.prog X.w H s.heap a (.dK kvs) from I.hok a _ ea)
    obtain ⟨o, es, ep, h1, h2, _⟩ := p
    exact PySem.W.kia_one PySem.W.kitx_dict I.kIn ⟨o, h1, h2.1⟩ e (fun z => nomatch z) h
  | @dT a kvs ea =>
    cases (show u = Value.ref a from rx)
    obtain ⟨_, _, xs, _, o, es, ep, h1, h2, _⟩ := (show ObjOk X.prog X.w H s.heap a (.dT kvs) from I.hok a _ ea)
    exact PySem.W.kia_one PySem.W.kitx_dict I.kIn ⟨o, h1, h2.1⟩ e (fun z => nomatch z) h
  | @ins a C dx fs ea cl ha hn htk hm =>
    cases (show u = Value.ref a from rx)
    obtain ⟨mA, O, _⟩ := ins_get I.hok ea
    obtain ⟨od, J, _⟩ := O.look
    exact PySem.W.kia_one (PySem.W.kitx_own (cl.get _) cl.hd ha hn htk hm) I.kIn J e (fun z => nomatch z) h
end
end L2
namespace L2
open PySem PySem.Spec PyProof.Rows
/-! ### room -/
structure Room (k : Nat) (A : Around) : Prop where
  hd : A.handled = none
  dp : A.depth + 3 * k + 5 < recursionLimit
  un : A.units + 16 * k + 200 < cLine
theorem Room.mono {j k : Nat} {A : Around} (r : Room k A) (h : j ≤ k) : Room j A := ⟨r.hd, by have := r.dp; omega, by have := r.un; omega⟩
theorem Room.deeper {k : Nat} {A : Around} (r : Room (k + 1) A) (env : Env) : Room k (A.deeper env) :=
  ⟨r.hd, by have := r.dp; show A.depth + 1 + 3 * k + 5 < _; omega, by have := r.un; show A.units + 3 + 16 * k + 200 < _; omega⟩
theorem Room.in1 {k : Nat} {A : Around} (r : Room (k + 1) A) : Room k A.in1 :=
  ⟨r.hd, by have := r.dp; show A.depth + 3 * k + 5 < _; omega, by have := r.un; show A.units + 1 + 16 * k + 200 < _; omega⟩
theorem make_depth {A : Around} {C : Addr} {us : List Value} {kw : List (Str × Value)} : (A.under (.builtin "type.__call__" ⟨.ref C :: us, kw⟩)).depth = A.depth + 1 := by
  first | rfl | simp [Around.under, Code.weight, Code.isCreation, Code.isGuard, Code.isCaller, Code.frames, Code.isFrame, guardIds]
theorem make_units {A : Around} {C : Addr} {us : List Value} {kw : List (Str × Value)} : (A.under (.builtin "type.__call__" ⟨.ref C :: us, kw⟩)).units = A.units + 1 := by
  first | rfl | simp [Around.under, Code.cUnits, Code.frames, Code.isFrame]
theorem Room.make {k : Nat} {A : Around} (r : Room (k + 1) A) (C : Addr) (us : List Value) (kw : List (Str × Value)) : Room k (A.under (.builtin "type.__call__" ⟨.ref C :: us, kw⟩)) :=
  ⟨r.hd, by have := r.dp; rw [make_depth]; omega, by have := r.un; rw [make_units]; omega⟩
theorem Room.depth {k : Nat} {A : Around} (r : Room k A) : A.depth < recursionLimit := by have := r.dp; omega
theorem Room.units {k : Nat} {A : Around} (r : Room k A) : A.units + 64 < cLine := by have := r.un; omega
/-! ### argument lists and displays -/
def tNil : TA := fun _ H Q => Q [] H
def tCons (ta : TE) (tr : TA) : TA := fun σ H Q => ta σ H fun x H1 => tr σ H1 fun xs H2 => Q (x :: xs) H2
section
variable {X : Cx} {e : Expr} {es : List Expr} {te : TE} {t : TA} {pos : Pos}
theorem pa_nil : PA X [] tNil := fun _ _ _ _ H Q I h => Calls.spliced_nil ⟨[], H, I, .nil, h⟩
theorem pa_cons (ha : PE X e te) (hr : PA X es t) (hs : starEach (e :: es) X.env = (false, eval e X.env) :: starEach es X.env := by rfl) : PA X (e :: es) (tCons te t) := by
  intro pos pins s σ H Q I h
  rw [hs]
  show wpAny _ _ (spliced ((false, eval e X.env) :: backTo pos (starEach es X.env))) _ _ s
  refine Calls.spliced_cons (thn (ha pins s σ H _ I h) fun u s1 ⟨x, H1, I1, r1, q1⟩ => ?_)
  exact thn (hr pos pins s1 σ H1 _ I1 q1) fun us s2 ⟨xs, H2, I2, r2, q2⟩ => ⟨x :: xs, H2, I2, .cons r1 r2, q2⟩
/-- a tuple, a list of written items -/
def tTup (t : TA) : TE := fun σ H Q => t σ H fun xs H1 => xs.length ≤ sizeLine ∧ ∀ p, H1 p = none → Q (.ref p) (upd H1 p (.tup xs))
def tLst (t : TA) : TE := fun σ H Q => t σ H fun xs H1 => xs.length ≤ sizeLine ∧ ∀ p, H1 p = none → Q (.ref p) (upd H1 p (.lst xs))
theorem pe_tup {x1} (h : PA X es t) : PE X (.Tuple es x1 pos) (tTup t) := by
  intro pins s σ H Q I hq
  refine wpAny_Tuple_spliced (thn (h pos pins s σ H _ I hq) fun us s1 ⟨xs, H1, I1, r, z, q⟩ => ⟨by rw [← r.length]; exact z, ?_⟩)
  have hf : H1 s1.heap.objs.size = none := I1.hok.fresh (Nat.le_refl _)
  refine ⟨.ref s1.heap.objs.size, upd H1 s1.heap.objs.size (.tup xs), I1.laid (t' := s1.toks) (fun b u e => Heap.get?_push_of_some _ e) (Nat.le_refl _) ?_, rfl, q _ hf⟩
  exact ⟨z, us, r, ⟨_, Heap.get?_push_size _ rfl, rfl, _, rfl⟩⟩
theorem pe_lst (h : PA X es t) : PE X (.List es pos) (tLst t) := by
  intro pins s σ H Q I hq
  refine wpAny_List_spliced (thn (h pos pins s σ H _ I hq) fun us s1 ⟨xs, H1, I1, r, z, q⟩ => ⟨by rw [← r.length]; exact z, ?_⟩)
  have hf : H1 s1.heap.objs.size = none := I1.hok.fresh (Nat.le_refl _)
  refine ⟨.ref s1.heap.objs.size, upd H1 s1.heap.objs.size (.lst xs), I1.laid (t' := s1.toks) (fun b u e => Heap.get?_push_of_some _ e) (Nat.le_refl _) ?_, rfl, q _ hf⟩
  exact ⟨z, us, 0, r, Heap.get?_push_size _ rfl⟩
end
/-! ### what a def promises -/
/-- a def's promise: the bound arguments in the parameters' order, the heap, the wanted end, the wanted exception -/
abbrev Sp := List V → Hp → VK → XK → Prop
/-- how an exception lies behind a call (file 08 gives it): the callers' frames, abstract heap and state ahead of the call, the wish, the exception, the state -/
abbrev CXT := List Env → Hp → Shared → XK → Value → Shared → Prop
/-- the state at a call -/
structure Env0 (P : Program) (w : World) (K : PySem.W.Frag) (mg : Str → Option Value) (base : Bs) (A : Around) (outer : List Env) (s : Shared) (H : Hp) : Prop where
  frames : A.frames = some outer
  mod : Mod K mg base
  bs : ∀ b o, base.get? b = some o → s.heap.get? b = some o ∧ H b = none
  bsz : base.objs.size ≤ s.heap.objs.size
  funs : s.heap.FunFrames base outer
  frf : ∀ b ∈ frs outer, H b = none
  hok : HOk P w H s.heap
  bare : AllBare s.gens
  tab : ∀ P ∈ base.tabs, H P = some (.tbl 0)
/-- a call's end -/
def CE (outer : List Env) (P : Program) (w : World) (H : Hp) (s : Shared) (Q : VK) (u : Value) (s' : Shared) : Prop :=
  ∃ v H', s'.os = s.os ∧ AllBare s'.gens ∧ Un (frs outer) [] H H' s.heap s'.heap ∧ HOk P w H' s'.heap ∧ RelV v u ∧ Q v H'
def CR (CX : CXT) (outer : List Env) (P : Program) (w : World) (H : Hp) (s : Shared) (Q : VK) (E : XK) (r : Result) (s' : Shared) : Prop :=
  match r with
  | .ok (.ret u) => CE outer P w H s Q u s'
  | .ok _ => False
  | .error e => CX outer H s E e s'
structure FnOk (P : Program) (w : World) (K : PySem.W.Frag) (mg : Str → Option Value) (base : Bs) (CX : CXT) (k : Nat) (f : Addr) (fd : FuncData) (ps : List Str) (sp : Sp) : Prop where
  len : ∀ vs H Q E, sp vs H Q E → vs.length = ps.length
  run : ∀ (A : Around) (outer : List Env) (s : Shared) (H : Hp) (args : Args) (us : List Value) (vs : List V) (Q : VK) (E : XK), Room k A → Env0 P w K mg base A outer s H → BindsTo s fd args (ps.zip us) → Vals vs us → sp vs H Q E →
    codeAny (model P w) A (.call (.ref f) args) (CR CX outer P w H s Q E) s
theorem FnOk.mono {P : Program} {w : World} {K : PySem.W.Frag} {mg : Str → Option Value} {base : Bs} {CX : CXT} {j k : Nat} {f : Addr} {fd : FuncData} {ps : List Str} {sp : Sp} (F : FnOk P w K mg base CX j f fd ps sp) (h : j ≤ k) :
    FnOk P w K mg base CX k f fd ps sp := ⟨F.len, fun A outer s H args us vs Q E hr => F.run A outer s H args us vs Q E (hr.mono h)⟩
/-- a weaker promise -/
theorem FnOk.imp {P : Program} {w : World} {K : PySem.W.Frag} {mg : Str → Option Value} {base : Bs} {CX : CXT} {k : Nat} {f : Addr} {fd : FuncData} {ps : List Str} {sp sp' : Sp} (F : FnOk P w K mg base CX k f fd ps sp)
    (h : ∀ vs H Q E, sp' vs H Q E → sp vs H Q E) : FnOk P w K mg base CX k f fd ps sp' :=
  ⟨fun vs H Q E q => F.len vs H Q E (h _ _ _ _ q), fun A outer s H args us vs Q E hr he hb hv hs => F.run A outer s H args us vs Q E hr he hb hv (h _ _ _ _ hs)⟩
theorem Env0.make {P : Program} {w : World} {K : PySem.W.Frag} {mg : Str → Option Value} {base : Bs} {A : Around} {outer : List Env} {s : Shared} {H : Hp} (e : Env0 P w K mg base A outer s H) (C : Addr) (us : List Value) (kw : List (Str × Value)) :
    Env0 P w K mg base (A.under (.builtin "type.__call__" ⟨.ref C :: us, kw⟩)) outer s H := ⟨by first | exact e.frames | (simpa [Around.under, Code.envs, Code.isFrame, pushEnvs] using e.frames), e.mod, e.bs, e.bsz, e.funs, e.frf, e.hok, e.bare, e.tab⟩
theorem Env0.in1 {P : Program} {w : World} {K : PySem.W.Frag} {mg : Str → Option Value} {base : Bs} {A : Around} {outer : List Env} {s : Shared} {H : Hp} (e : Env0 P w K mg base A outer s H) :
    Env0 P w K mg base A.in1 outer s H := ⟨e.frames, e.mod, e.bs, e.bsz, e.funs, e.frf, e.hok, e.bare, e.tab⟩
section
variable {X : Cx} {pins : List (Addr × Obj)} {σ : St} {H : Hp} {s s' : Shared}
/-- from a body: what a callee wants -/
theorem Inv.env0 (I : Inv X pins σ H s) : Env0 X.prog X.w X.K X.mg X.base X.A X.stack s H :=
  ⟨I.ok.frames, I.ok.mod, I.bs, Nat.le_trans I.ok.bsz I.sz, I.stack, I.stkFree, I.hok, I.bare, fun P z => I.base.tbls P 0 (I.ok.tab P z)⟩
/-- behind a call -/
theorem Inv.after {Q : VK} {u : Value} (I : Inv X pins σ H s) (h : CE X.stack X.prog X.w H s Q u s') : EP X pins σ Q u s' := by
  obtain ⟨v, H', os, bare, un, hok, r, q⟩ := h
  obtain ⟨hh, g, d, t, os'⟩ := s'
  obtain rfl : os' = s.os := os
  exact ⟨v, H', I.call (h' := hh) (g' := g) (d' := d) (t' := t) (ch := []) un hok bare (fun b z => absurd z (by simp)), r, q⟩
end
/-! ### calls -/
/-- f(..): the written arguments, then the defaults dvs; E: what is wanted of an exception -/
def tCall (sp : Sp) (dvs : List V) (E : XK) (t : TA) : TE := fun σ H Q => t σ H fun vs H1 => sp (vs ++ dvs) H1 Q E
/-- C(..): a new instance and its dict, then __init__ -/
def tMake (C : Addr) (sp : Sp) (dvs : List V) (E : XK) (t : TA) : TE := fun σ H Q => t σ H fun vs H1 => ∀ x dx, H1 x = none → H1 dx = none → dx ≠ x →
  sp (.ref x :: (vs ++ dvs)) (upd (upd H1 dx (.own x)) x (.ins C dx [])) (fun v H2 => v = .non ∧ Q (.ref x) H2) E
/-- how the parameters are bound: us the positional arguments, kw the keywords' values by name, ds the defaults that fill up -/
def Binds (K : PySem.W.Frag) (fd : FuncData) (ps : List Str) (ds : List Value) : Prop :=
  ∀ (s : Shared) (us : List Value), K.In s.heap → (us ++ ds).length = ps.length → BindsTo s fd ⟨us, []⟩ (ps.zip (us ++ ds))
/-- every parameter is given -/
theorem Binds.all {K : PySem.W.Frag} {fd : FuncData} {ps : List Str} (h : ∀ us : List Value, us.length = ps.length → bindArgs fd ⟨us, []⟩ = pure (ps.zip us)) : Binds K fd ps [] := fun s us _ hl => by
  rw [List.append_nil] at hl ⊢
  exact .of_eq (h us hl)
/-- an exception of a callee reaches what this body wants of exceptions -/
def Passes (CX : CXT) (X : Cx) (E : XK) : Prop := ∀ (pins : List (Addr × Obj)) (σ : St) (H : Hp) (s : Shared) (e : Value) (s' : Shared), Inv X pins σ H s → CX X.stack H s E e s' → X.xe e s'
section
variable {X : Cx} {CX : CXT} {k : Nat} {f C : Addr} {fd : FuncData} {ps : List Str} {sp : Sp} {dvs : List V} {ds : List Value} {E : XK} {x m : Str} {p pos apos : Pos} {e o : Expr} {es : List Expr} {ta : TE} {t : TA}
/-- the callee runs -/
theorem run_fn {pins : List (Addr × Obj)} {σ : St} {H : Hp} {s : Shared} {Q : VK} {us : List Value} {vs : List V} (F : FnOk X.prog X.w X.K X.mg X.base CX k f fd ps sp) (hr : Room k X.A) (hb : Binds X.K fd ps ds) (hd : Vals dvs ds) (hx : Passes CX X E)
    (I : Inv X pins σ H s) (r : Vals vs us) (h : sp (vs ++ dvs) H Q E) : wpAny (model X.prog X.w) X.A (call (.ref f) us) (EP X pins σ Q) X.xe s := by
  have r2 : Vals (vs ++ dvs) (us ++ ds) := r.append hd
  have hl : (us ++ ds).length = ps.length := by rw [← r2.length]; exact F.len _ _ _ _ h
  refine wpAny_call (codeAny_mono (F.run X.A X.stack s H ⟨us, []⟩ (us ++ ds) (vs ++ dvs) Q E hr I.env0 (hb s us I.kIn hl) r2 h) fun r s' hq => ?_)
  cases r with
  | error e => exact hx pins σ H s e s' I hq
  | ok fl =>
    cases fl with
    | ret u => exact I.after hq
    | next => exact False.elim hq
    | brk => exact False.elim hq
    | cont => exact False.elim hq
theorem pe_call (F : FnOk X.prog X.w X.K X.mg X.base CX k f fd ps sp) (hr : Room k X.A) (hg : Gl X x) (hm : X.mg x = some (.ref f)) (hk : PySem.W.keepIn X.K (.ref f) = true) (hb : Binds X.K fd ps ds) (hd : Vals dvs ds) (hx : Passes CX X E)
    (ha : PA X (e :: es) t) (hdb : (x == ("__debug__" : Str)) = false := by decide) (he : starEach (e :: es) X.env = (false, eval e X.env) :: starEach es X.env := by rfl) (hpl : (backTo pos (starEach es X.env)).any (·.1) = false := by rfl) :
    PE X (.Call (.Name x p) (e :: es) [] pos) (tCall sp dvs E t) := by
  intro pins s σ H Q I h
  refine wpAny_Call_Name_kw (ld_glob I hg hm ?_ hdb)
  refine PySem.W.callWith_K (h₀ := X.base) I.ok.mod.kin hk (thn (ha pos pins s σ H _ I h) fun us s1 ⟨vs, H1, I1, r, q⟩ => ⟨I1.kIn, ?_⟩) he hpl
  exact run_fn F hr hb hd hx I1 r q
/-- what a class must have to be made -/
structure Mk (K : PySem.W.Frag) (C f : Addr) : Prop where
  makes : PySem.W.makesIn K C = true
  init : PySem.W.findIn K (.ref C) "__init__" = some (some (.ref f))
  fn : PySem.W.isFn K (.ref f) = true
  kp : PySem.W.keepIn K (.ref C) = true
theorem run_make {pins : List (Addr × Obj)} {σ : St} {H : Hp} {s : Shared} {Q : VK} {us : List Value} {vs : List V} (M : Mk X.K C f) (F : FnOk X.prog X.w X.K X.mg X.base CX k f fd ps sp) (hr : Room (k + 1) X.A) (hb : Binds X.K fd ps ds) (hd : Vals dvs ds)
    (hx : Passes CX X E) (I : Inv X pins σ H s) (r : Vals vs us)
    (h : ∀ x dx, H x = none → H dx = none → dx ≠ x → sp (.ref x :: (vs ++ dvs)) (upd (upd H dx (.own x)) x (.ins C dx [])) (fun v H2 => v = .non ∧ Q (.ref x) H2) E) :
    wpAny (model X.prog X.w) X.A (call (.ref C) us) (EP X pins σ Q) X.xe s := by
  have hq := h (s.heap.objs.size + 1) s.heap.objs.size (I.hok.fresh (Nat.le_succ _)) (I.hok.fresh (Nat.le_refl _)) (Nat.ne_of_lt (Nat.lt_succ_self _))
  have I2 := Inv.made (C := C) I
  have r2 : Vals (V.ref (s.heap.objs.size + 1) :: (vs ++ dvs)) (Value.ref (s.heap.objs.size + 1) :: (us ++ ds)) := .cons rfl (r.append hd)
  have hl : (Value.ref (s.heap.objs.size + 1) :: us ++ ds).length = ps.length := by
    have e := r2.length
    rw [F.len _ _ _ _ hq] at e
    exact e.symm
  refine wpAny_call (make_map (f := f) I.kIn M.makes M.init (beq_iff_eq.mp M.fn) (codeAny_mono (F.run _ X.stack _ _ ⟨Value.ref (s.heap.objs.size + 1) :: us, []⟩ (Value.ref (s.heap.objs.size + 1) :: (us ++ ds)) _ _ E (hr.make C us [])
    (I2.env0.make C us []) (hb _ (Value.ref (s.heap.objs.size + 1) :: us) I2.kIn hl) r2 hq) fun r s' hq' => ?_))
  cases r with
  | error e => exact hx pins σ _ _ e s' I2 hq'
  | ok fl =>
    cases fl with
    | ret u =>
      obtain ⟨v, H', I3, rv, ev, q3⟩ := I2.after hq'
      subst ev
      exact ⟨rv, ⟨V.ref (s.heap.objs.size + 1), H', I3, rfl, q3⟩⟩
    | next => exact False.elim hq'
    | brk => exact False.elim hq'
    | cont => exact False.elim hq'
theorem pe_make (M : Mk X.K C f) (F : FnOk X.prog X.w X.K X.mg X.base CX k f fd ps sp) (hr : Room (k + 1) X.A) (hg : Gl X x) (hm : X.mg x = some (.ref C)) (hb : Binds X.K fd ps ds) (hd : Vals dvs ds) (hx : Passes CX X E)
    (ha : PA X (e :: es) t) (hdb : (x == ("__debug__" : Str)) = false := by decide) (he : starEach (e :: es) X.env = (false, eval e X.env) :: starEach es X.env := by rfl) (hpl : (backTo pos (starEach es X.env)).any (·.1) = false := by rfl) :
    PE X (.Call (.Name x p) (e :: es) [] pos) (tMake C sp dvs E t) := by
  intro pins s σ H Q I h
  refine wpAny_Call_Name_kw (ld_glob I hg hm ?_ hdb)
  refine PySem.W.callWith_K (h₀ := X.base) I.ok.mod.kin M.kp (thn (ha pos pins s σ H _ I h) fun us s1 ⟨vs, H1, I1, r, q⟩ => ⟨I1.kIn, ?_⟩) he hpl
  exact run_make M F hr hb hd hx I1 r q
end
section
variable {X : Cx} {CX : CXT} {k : Nat} {f C : Addr} {fd : FuncData} {ps ks : List Str} {sp : Sp} {E : XK} {x m : Str} {p pos apos kpos : Pos} {e o : Expr} {es : List Expr} {kws : List Keyword} {te ta : TE} {t tk : TA} {nm : Option Str}
/-- how a call with keywords binds: g puts the positional values us and the keywords' values ws (names ks) in the parameters' order, defaults among them -/
structure KBinds (K : PySem.W.Frag) (fd : FuncData) (ps ks : List Str) (g : List Value → List Value → List Value) (gV : List V → List V → List V) : Prop where
  to : ∀ (s : Shared) (us ws : List Value), K.In s.heap → (g us ws).length = ps.length → BindsTo s fd ⟨us, ks.zip ws⟩ (ps.zip (g us ws))
  rel : ∀ {vs : List V} {us : List Value} {zs : List V} {ws : List Value}, Vals vs us → Vals zs ws → Vals (gV vs zs) (g us ws)
variable {g : List Value → List Value → List Value} {gV : List V → List V → List V}
end
/-! ### a def's body keeps its promise -/
/-- names: the parameters first -/
structure FnScope (N P : List Str) (sc : Scope) : Prop where
  kind : sc.kind = .function
  co : sc.isCoroutine = false
  gen : sc.isGenerator = false
  nd : N.Nodup
  pre : N.take P.length = P
  par : ∀ x ∈ P, sc.names.lookup x = some .local ∨ sc.names.lookup x = some .cell
  nofree : ∀ y ∈ sc.names, y.2 ≠ .free
theorem bindL_out {kindOf : Str → Option NameKind} {x : Str} : ∀ {binds : List (Str × Value)} {m : Str → Option Value}, (∀ v, (x, v) ∉ binds) → bindL kindOf binds m x = m x
  | [], _, _ => rfl
  | (n, v) :: r, m, h => by
    unfold bindL
    rw [bindL_out fun w hw => h w (List.mem_cons_of_mem _ hw)]
    split
    · have : x ≠ n := by rintro rfl; exact h v List.mem_cons_self
      simp [this]
    · rfl
theorem bindC_out {kindOf : Str → Option NameKind} {x : Str} : ∀ {binds : List (Str × Value)} {m : Str → Option Value}, (∀ v, (x, v) ∉ binds) → bindC kindOf binds m x = m x
  | [], _, _ => rfl
  | (n, v) :: r, m, h => by
    unfold bindC
    rw [bindC_out fun w hw => h w (List.mem_cons_of_mem _ hw)]
    split
    · rfl
    · have : x ≠ n := by rintro rfl; exact h v List.mem_cons_self
      simp [this]
theorem bindL_get {kindOf : Str → Option NameKind} {x : Str} {v : Value} : ∀ {P : List Str} {vs : List Value} {i : Nat} {m : Str → Option Value}, P.Nodup → P[i]? = some x → vs[i]? = some v → kindOf x = some .local →
    bindL kindOf (P.zip vs) m x = some v
  | [], _, _, _, _, h, _, _ => by simp at h
  | _ :: _, [], _, _, _, _, h, _ => by simp at h
  | p :: P, w :: vs, 0, m, nd, h1, h2, hk => by
    simp at h1 h2; subst h1; subst h2
    show bindL kindOf ((p, w) :: P.zip vs) m p = _
    unfold bindL
    rw [bindL_out fun v hv => (List.nodup_cons.mp nd).1 (List.of_mem_zip hv).1, if_pos hk]
    simp
  | p :: P, w :: vs, i + 1, m, nd, h1, h2, hk => by
    show bindL kindOf ((p, w) :: P.zip vs) m x = _
    unfold bindL
    exact bindL_get (i := i) (List.nodup_cons.mp nd).2 (by simpa using h1) (by simpa using h2) hk
theorem bindC_get {kindOf : Str → Option NameKind} {x : Str} {v : Value} : ∀ {P : List Str} {vs : List Value} {i : Nat} {m : Str → Option Value}, P.Nodup → P[i]? = some x → vs[i]? = some v → kindOf x ≠ some .local →
    bindC kindOf (P.zip vs) m x = some v
  | [], _, _, _, _, h, _, _ => by simp at h
  | _ :: _, [], _, _, _, _, h, _ => by simp at h
  | p :: P, w :: vs, 0, m, nd, h1, h2, hk => by
    simp at h1 h2; subst h1; subst h2
    show bindC kindOf ((p, w) :: P.zip vs) m p = _
    unfold bindC
    rw [bindC_out fun v hv => (List.nodup_cons.mp nd).1 (List.of_mem_zip hv).1, if_neg hk]
    simp
  | p :: P, w :: vs, i + 1, m, nd, h1, h2, hk => by
    show bindC kindOf ((p, w) :: P.zip vs) m x = _
    unfold bindC
    exact bindC_get (i := i) (List.nodup_cons.mp nd).2 (by simpa using h1) (by simpa using h2) hk
/-- the names' values at the entry -/
def start (N : List Str) (vs : List V) : St := vs.map some ++ List.replicate (N.length - vs.length) none
/-- the context of a def's body, at its entry; an exception leaves the frame, then lies as CX says -/
def cxOf (CX : CXT) (P : Program) (w : World) (K : PySem.W.Frag) (mg : Str → Option Value) (base : Bs) (N : List Str) (qual : Str) (scope : Scope) (f : Addr) (cd : Value) (A : Around) (outer : List Env) (s : Shared) (H : Hp) (E : XK) : Cx where
  prog := P
  w := w
  K := K
  mg := mg
  base := base
  A := A.deeper (envOfC qual scope s.heap.objs.size f cd)
  N := N
  s₀ := s
  H₀ := H
  env := envOfC qual scope s.heap.objs.size f cd
  outer := outer
  stack := envOfC qual scope s.heap.objs.size f cd :: outer
  ex := []
  calm := true
  fn := fun _ => true
  cw := fun _ => true
  pn := []
  xe := fun e s' => wpAny (model P w) (A.deeper (envOfC qual scope s.heap.objs.size f cd)) (leaving (envOfC qual scope s.heap.objs.size f cd) e) (fun _ s'' => CX outer H s E e s'') (fun e' s'' => CX outer H s E e' s'') s'
theorem cell_has {sc : Scope} {n : Nat} {x : Str} (h : sc.names.lookup x = some .cell) : ∃ c, (cellsFrom n sc.names []).lookup x = some c := by
  have q := PySem.W.cellsFrom_some sc.names n [] (.inl h)
  exact Option.isSome_iff_exists.mp q
theorem inv_start {CX : CXT} {P : Program} {w : World} {K : PySem.W.Frag} {mg : Str → Option Value} {base : Bs} {N ps : List Str} {qual : Str} {scope : Scope} {f : Addr} {cd : Value} {A : Around} {outer : List Env} {s s1 : Shared} {H : Hp} {E : XK} {us : List Value} {vs : List V}
    (S : FnScope N ps scope) (hd : A.handled = none) (e0 : Env0 P w K mg base A outer s H) (hl : vs.length = ps.length) (r : Vals vs us)
    (x : InCallC s s.heap.objs.size (bindL (envOfC qual scope s.heap.objs.size f cd).kindOf (ps.zip us) fun _ => none) (cellsFrom (s.heap.objs.size + 1) scope.names []) (bindC (envOfC qual scope s.heap.objs.size f cd).kindOf (ps.zip us) fun _ => none) s1) :
    Inv (cxOf CX P w K mg base N qual scope f cd A outer s H E) [] (start N vs) H s1 := by
  have hpl : ps.length ≤ N.length := by have := congrArg List.length S.pre; rw [List.length_take] at this; omega
  obtain ⟨h1, tk, rfl, hk⟩ := x.done
  have noA : ∀ b : Addr, b ∉ (cxOf CX P w K mg base N qual scope f cd A outer s H E).ex := fun b z => absurd (show b ∈ ([] : List Addr) from z) (by simp)
  refine ⟨⟨e0.mod, S.kind, rfl, rfl, Nat.le_refl _, fun y z c h1 h2 => ?_, fun y hy => ?_, fun y c _ h => ?_, fun _ => hd, Around.frames_deeper e0.frames, .inr ⟨rfl, rfl⟩, fun b z => absurd z (noA b), e0.bs, e0.bsz, fun b _ _ => noA b, fun b z => absurd z (noA b), e0.funs, e0.frf, e0.tab, fun _ z => z⟩,
    rfl, e0.bare, Un.kept hk, ⟨_, x.toInCall.ns, fun i y v h1 h2 h3 => ?_⟩, fun y c h => ⟨_, x.cell y c h⟩, e0.hok.fresh (Nat.le_refl _), fun y c h => ?_, fun p hp => absurd (show p ∈ ([] : List (Addr × Obj)) from hp) (by simp), e0.hok.kept hk, ?_⟩
  · exact name_of_addr x.apart (PySem.mem_of_lookup h1) (PySem.mem_of_lookup h2)
  · have hy : scope.names.lookup y = some .cell ∨ scope.names.lookup y = some .free := hy
    rcases hy with hy | hy
    · exact cell_has hy
    · exact absurd rfl (S.nofree _ (PySem.mem_of_lookup hy))
  · exact Nat.le_of_lt (x.above y c (PySem.mem_of_lookup h))
  · have hi : i < vs.length := by
      unfold start at h2
      by_cases hi : i < vs.length
      · exact hi
      · rw [List.getElem?_append_right (by simpa using hi)] at h2
        rw [List.getElem?_replicate] at h2
        split at h2 <;> cases h2
    have ha : vs[i]? = some v := by
      unfold start at h2
      rw [List.getElem?_append_left (by simpa using hi), List.getElem?_map] at h2
      cases e : vs[i]? with
      | none => rw [e] at h2; cases h2
      | some a => rw [e] at h2; cases h2; rfl
    obtain ⟨u, hu, rv⟩ := r.get ha
    have hp : ps[i]? = some y := by
      rw [← S.pre, List.getElem?_take_of_lt (by omega)]; exact h1
    have ndP : ps.Nodup := by rw [← S.pre]; exact S.nd.sublist (List.take_sublist _ _)
    refine ⟨u, rv, ?_⟩
    rcases S.par y (List.mem_of_getElem? hp) with k | k
    · exact .inl ⟨k, bindL_get ndP hp hu k⟩
    · obtain ⟨c, e⟩ := cell_has (n := s.heap.objs.size + 1) k
      refine .inr ⟨.inl k, c, e, ?_⟩
      have q := x.cell y c e
      rw [bindC_get ndP hp hu (by show scope.names.lookup y ≠ _; rw [k]; decide)] at q
      exact q
  · exact .inl (e0.hok.fresh (Nat.le_of_lt (x.above y c (PySem.mem_of_lookup h))))
  · unfold start
    show _ = N.length
    rw [List.length_append, List.length_map, List.length_replicate]
    omega
/-- THE RULE: a def (or a method) of the text, by its body. The body's reading t is chosen for each entry; it is run at the parameters' values -/
theorem fn_of {CX : CXT} {P : Program} {w : World} {K : PySem.W.Frag} {mg : Str → Option Value} {base : Bs} {k : Nat} {f : Addr} {name qual : Str} {params : Arguments} {body : List Stmt} {scope : Scope} {dV kV doc pm cdv ct oc : Value} {an od : Option Addr}
    {osl : Array (Option Value)} {N ps : List Str} {sp : Sp} (lk : K.lookup f = some ⟨oc, od, .func (PySem.W.fnOf name qual params body scope dV kV doc pm an cdv ct), osl⟩) (hcd : PySem.W.codeIn K cdv qual = true) (S : FnScope N ps scope)
    (len : ∀ vs H Q E, sp vs H Q E → vs.length = ps.length)
    (hbody : ∀ (A : Around) (outer : List Env) (s : Shared) (H : Hp) (vs : List V) (Q : VK) (E : XK), Room k (A.deeper (envOfC qual scope s.heap.objs.size f cdv)) → sp vs H Q E →
      ∃ t, PSs (cxOf CX P w K mg base N qual scope f cdv A outer s H E) body t ∧ t { nx := fun _ H' => Q .non H', rt := Q } (start N vs) H) :
    FnOk P w K mg base CX (k + 1) f (PySem.W.fnOf name qual params body scope dV kV doc pm an cdv ct) ps sp := by
  refine ⟨len, fun A outer s H args us vs Q E hr e0 hb r hsp => ?_⟩
  have hl := len _ _ _ _ hsp
  have KX : K.In s.heap := e0.mod.kin.keeps fun b o e => (e0.bs b o e).1
  have lim : s.heap.NoLimit := e0.mod.nolimit.keeps fun b o e => (e0.bs b o e).1
  have hkind : ∀ y ∈ ps.zip us, scope.names.lookup y.1 = some .local ∨ (scope.names.lookup y.1 = some .cell ∧ ((cellsFrom (s.heap.objs.size + 1) scope.names []).lookup y.1).isSome = true) := fun ⟨n, v⟩ hy => by
    rcases S.par n (List.of_mem_zip hy).1 with q | q
    · exact .inl q
    · exact .inr ⟨q, PySem.W.cellsFrom_some _ _ _ (.inl q)⟩
  refine codeAny_call_function hr.depth (KX _ _ lk) rfl S.co S.gen rfl (PySem.W.codeRec_of KX hcd) (hb _ _ _ _ ?_)
  refine wpAny_newFunctionEnv_cells S.kind hkind fun env he s1 x => ?_
  subst he
  refine ⟨lim.keeps x.toInCall.keep, codeAny_func ?_⟩
  obtain ⟨t, ht, hq⟩ := hbody A outer s H vs Q E (hr.deeper _) hsp
  have I : Inv (cxOf CX P w K mg base N qual scope f cdv A outer s H E) [] (start N vs) H s1 := inv_start S hr.hd e0 hl r x
  refine wpAny_mono (ht [] s1 (start N vs) H _ I hq) (fun fl s' hs => ?_) fun e s' hs => hs
  have fin : ∀ {σ' : St} {H' : Hp} {v : V} {u : Value}, Inv (cxOf CX P w K mg base N qual scope f cdv A outer s H E) [] σ' H' s' → RelV v u → Q v H' → CE outer P w H s Q u s' :=
    fun {σ' H' v u} J rv q => ⟨v, H', J.os, J.bare, J.base, J.hok, rv, q⟩
  cases fl with
  | ret u =>
    obtain ⟨v, H', J, rv, q⟩ := hs
    exact ⟨v, H', J.os, J.bare, J.base, J.hok, rv, q⟩
  | next =>
    obtain ⟨σ', H', J, q⟩ := hs
    exact fin (v := V.non) (u := Value.none) J rfl q
  | brk =>
    obtain ⟨_, _, _, q⟩ := hs
    exact False.elim q
  | cont =>
    obtain ⟨_, _, _, q⟩ := hs
    exact False.elim q
end L2
namespace L2
open PySem PySem.Spec PyProof.Rows
section
variable {X : Cx} {x : Str} {p pos : Pos} {e : Expr} {es : List Expr} {t : TA} {id T : String} {r : List V → Hp → VK → Prop}
def tCB (r : List V → Hp → VK → Prop) (t : TA) : TE := fun σ H Q => t σ H fun vs H1 => r vs H1 Q
/-- f(e, ..), f a built-in function -/
theorem pe_callB (hc : CallR X (.builtin id) r) (hg : Gl X x) (hm : X.mg x = none) (hv : bootBuiltins x = some (.builtin id)) (ha : PA X (e :: es) t) (hn : x ≠ "__name__" := by decide) (hdb : (x == ("__debug__" : Str)) = false := by decide)
    (he : starEach (e :: es) X.env = (false, eval e X.env) :: starEach es X.env := by rfl) (hpl : (backTo pos (starEach es X.env)).any (·.1) = false := by rfl) : PE X (.Call (.Name x p) (e :: es) [] pos) (tCB r t) := by
  intro pins s σ H Q I h
  refine wpAny_Call_Name_kw (ld_blt I hg hm hv ?_ hn hdb)
  exact PyProof.Rows.callWith_builtin1 (thn (ha pos pins s σ H _ I h) fun us s1 ⟨vs, H1, I1, r1, q1⟩ => hc pins s1 σ H1 vs us Q I1 r1 q1) he hpl
/-- T(e, ..), T a built-in type -/
theorem pe_callTy (hc : CallR X (.type T) r) (hg : Gl X x) (hm : X.mg x = none) (hv : bootBuiltins x = some (.type T)) (ha : PA X (e :: es) t) (hn : x ≠ "__name__" := by decide) (hdb : (x == ("__debug__" : Str)) = false := by decide)
    (he : starEach (e :: es) X.env = (false, eval e X.env) :: starEach es X.env := by rfl) (hpl : (backTo pos (starEach es X.env)).any (·.1) = false := by rfl) : PE X (.Call (.Name x p) (e :: es) [] pos) (tCB r t) := by
  intro pins s σ H Q I h
  refine wpAny_Call_Name_kw (ld_blt I hg hm hv ?_ hn hdb)
  exact PyProof.Rows.callWith_type1 (thn (ha pos pins s σ H _ I h) fun us s1 ⟨vs, H1, I1, r1, q1⟩ => hc pins s1 σ H1 vs us Q I1 r1 q1) he hpl
end
end L2
namespace HT
open PySem PyProof.Rows
section
open PySem.SeqAt
open PySem.AutoSeq1 (wpAny_loadPart')
open PySem.MeetsSeq PySem.MeetsSeq2 PySem.MeetsSeq3
end
section
variable {prog : Program} {w : World} {A : Around} {E : Value → Shared → Prop} {s : Shared}
/-! ### t[a:b], not the whole -/
/-- a slice's bound as a place among n (d where it is left out) -/
def sIx (n d : Nat) : Option Int → Nat
  | none => d
  | some v => if v < 0 then (v + (n : Int)).toNat else min v.toNat n
end
end HT
namespace L2
open PySem PySem.Spec PyProof.Rows
/-! ### the parts of a slice -/
abbrev TO := St → Hp → (Option Int → Hp → Prop) → Prop
/-- a slice's part (left out, or an int) -/
def PO (X : Cx) (e : Option Expr) (t : TO) : Prop :=
  ∀ (pins : List (Addr × Obj)) (s : Shared) (σ : St) (H : Hp) (Q : Option Int → Hp → Prop), Inv X pins σ H s → t σ H Q →
    wpAny (model X.prog X.w) X.A (evalPart e X.env) (fun u s' => ∃ o H', Inv X pins σ H' s' ∧ IsPart u o ∧ Q o H') X.xe s
def tPart (t : TE) : TO := fun σ H Q => t σ H fun x H1 => ∃ i, x = .int i ∧ Q (some i) H1
section
variable {X : Cx} {e : Expr} {te : TE} {lo hi : Option Expr} {tl th : TO} {pos p2 : Pos}
theorem po_some (h : PE X e te) : PO X (some e) (tPart te) := by
  intro pins s σ H Q I hw
  rw [evalPart_some]
  refine thn (h pins s σ H _ I hw) fun u s1 ⟨x, H1, I1, r1, q1⟩ => ?_
  obtain ⟨i, rfl, q⟩ := q1
  obtain ⟨t, rfl⟩ := r1
  exact ⟨some i, H1, I1, .int i t, q⟩
/-- what a slice of a value is, by values: the slice object stands at sl -/
def SlR (X : Cx) (r : V → Option Int → Option Int → Hp → VK → Prop) : Prop :=
  ∀ (pins : List (Addr × Obj)) (s : Shared) (σ : St) (H : Hp) (x : V) (v vl vu : Value) (lo hi : Option Int) (sl : Addr) (Q : VK), Inv X pins σ H s → RelV x v → s.heap.IsSliceOf sl vl vu .none → IsPart vl lo → IsPart vu hi → r x lo hi H Q →
    ∃ T id, typeLookup (.type T) "__getitem__" = pure (some (.builtin id)) ∧ s.TypeIs v T ∧ wpAny (model X.prog X.w) X.A (getItem v (.ref sl)) (EP X pins σ Q) X.xe s
theorem SlR.or {r r' : V → Option Int → Option Int → Hp → VK → Prop} (h : SlR X r) (h' : SlR X r') : SlR X (fun x lo hi H Q => r x lo hi H Q ∨ r' x lo hi H Q) := by
  intro pins s σ H x v vl vu lo hi sl Q I rx hs pl pu q
  rcases q with q | q
  · exact h pins s σ H x v vl vu lo hi sl Q I rx hs pl pu q
  · exact h' pins s σ H x v vl vu lo hi sl Q I rx hs pl pu q
def tSl (r : V → Option Int → Option Int → Hp → VK → Prop) (te : TE) (tl th : TO) : TE := fun σ H Q => te σ H fun x H1 => tl σ H1 fun l H2 => th σ H2 fun u H3 => r x l u H3 Q
/-- a[lo:hi], any a -/
theorem pe_slice {r : V → Option Int → Option Int → Hp → VK → Prop} (hr : SlR X r) (he : PE X e te) (hl : PO X lo tl) (hu : PO X hi th) : PE X (.Subscript e (.Slice lo hi none p2) pos) (tSl r te tl th) := by
  intro pins s σ H Q I h
  refine Subscript_ (thn (he pins s σ H _ I h) fun v s1 ⟨x, H1, I1, r1, q1⟩ => ?_)
  refine wpAny_Slice (thn (hl pins s1 σ H1 _ I1 q1) fun vl s2 ⟨l, H2, I2, pl, q2⟩ => thn (hu pins s2 σ H2 _ I2 q2) fun vu s3 ⟨u, H3, I3, pu, q3⟩ => ?_)
  rw [evalPart_none]
  refine wpAny_pure ?_
  have I4 : Inv X pins σ H3 { s3 with heap := s3.heap.push { cls := .type "slice", data := .fields #[vl, vu, .none] } } := I3.kept (t' := s3.toks) fun b ob q => Heap.get?_push_of_some _ q
  obtain ⟨T, id, hT, ht, hg⟩ := hr pins { s3 with heap := s3.heap.push { cls := .type "slice", data := .fields #[vl, vu, .none] } } σ H3 x v vl vu l u s3.heap.objs.size Q I4 r1 (Heap.IsSliceOf.new ..) pl pu q3
  show wpAny (model X.prog X.w) X.A (subscriptTail e (.Slice lo hi none p2) v (.ref s3.heap.objs.size)) (EP X pins σ Q) X.xe { s3 with heap := s3.heap.push { cls := .type "slice", data := .fields #[vl, vu, .none] } }
  exact tail_any (ops := [.ref s3.heap.objs.size, v]) ht hT hg (by with_unfolding_all rfl)
/-- the items of xs[lo:hi] -/
def cutV (xs : List V) (lo hi : Option Int) : List V := (xs.drop (HT.sIx xs.length 0 lo)).take (HT.sIx xs.length xs.length hi - HT.sIx xs.length 0 lo)
theorem cutV_length (xs : List V) (lo hi : Option Int) : (cutV xs lo hi).length ≤ xs.length := by
  unfold cutV
  rw [List.length_take, List.length_drop]
  omega
end
end L2
namespace L2
open PySem PySem.Spec PyProof.Rows
/-! ### places -/
/-- the place that an index of any sign means -/
def ixN (n : Nat) (i : Int) : Option Nat := if 0 ≤ i then (if i < n then some i.toNat else none) else if -(n : Int) ≤ i then some (i + n).toNat else none
def atI {α : Type} (xs : List α) (i : Int) : Option α := (ixN xs.length i).bind fun j => xs[j]?
theorem ixN_seq {n : Nat} {i : Int} {j : Nat} (h : ixN n i = some j) : seqIndex? i n = some j ∧ j < n ∧ -(n : Int) ≤ i ∧ i < n := by
  unfold ixN at h
  by_cases h0 : 0 ≤ i
  · rw [if_pos h0] at h
    by_cases h1 : i < n
    · rw [if_pos h1] at h
      have e : i.toNat = j := Option.some.inj h
      exact ⟨by rw [seqIndex_of h0 h1, e], by omega, by omega, h1⟩
    · rw [if_neg h1] at h; cases h
  · rw [if_neg h0] at h
    by_cases h1 : -(n : Int) ≤ i
    · rw [if_pos h1] at h
      have e : (i + n).toNat = j := Option.some.inj h
      exact ⟨by rw [seqIndex_neg (by omega) h1, e], by omega, h1, by omega⟩
    · rw [if_neg h1] at h; cases h
theorem atI_get {α : Type} {xs : List α} {i : Int} {v : α} (h : atI xs i = some v) : ∃ j, seqIndex? i xs.length = some j ∧ xs[j]? = some v ∧ j < xs.length ∧ -(xs.length : Int) ≤ i ∧ i < xs.length := by
  unfold atI at h
  cases e : ixN xs.length i with
  | none => rw [e] at h; cases h
  | some j =>
    rw [e] at h
    obtain ⟨h1, h2, h3, h4⟩ := ixN_seq e
    exact ⟨j, h1, h, h2, h3, h4⟩
theorem atI_nat {α : Type} {xs : List α} {j : Nat} {v : α} (h : xs[j]? = some v) : atI xs (j : Int) = some v := by
  have hj : j < xs.length := (List.getElem?_eq_some_iff.mp h).1
  have e : ixN xs.length (j : Int) = some j := by
    unfold ixN
    rw [if_pos (by omega), if_pos (by omega)]; simp
  unfold atI; rw [e]; exact h
/-! ### what may be subscripted -/
/-- what stands as an index of a plain subscript -/
def PlainIx (b : Expr) : Prop := ∀ o i, subscripted b false o i = operate [o, i] (getItem o i)
/-- a subscript by values -/
def IxR (X : Cx) (r : R2) : Prop :=
  ∀ (value slice : Expr) (pins : List (Addr × Obj)) (s : Shared) (σ : St) (H : Hp) (x y : V) (v u : Value) (Q : VK), Inv X pins σ H s → RelV x v → RelV y u → r x y H Q →
    subscripted slice false v u = operate [v, u] (getItem v u) → wpAny (model X.prog X.w) X.A (subscriptTail value slice v u) (EP X pins σ Q) X.xe s
/-- a call of a builtin's method by values: the receiver, the arguments -/
def MtR (X : Cx) (id : String) (r : V → List V → Hp → VK → Prop) : Prop :=
  ∀ (pins : List (Addr × Obj)) (s : Shared) (σ : St) (H : Hp) (x : V) (xs : List V) (v : Value) (us : List Value) (Q : VK), Inv X pins σ H s → RelV x v → Vals xs us → r x xs H Q →
    wpAny (model X.prog X.w) X.A (call (.builtin id) (v :: us)) (EP X pins σ Q) X.xe s
section
variable {X : Cx} {a b : Expr} {ta tb : TE} {pos : Pos}
theorem IxR.or {r r' : R2} (h : IxR X r) (h' : IxR X r') : IxR X (fun x y H Q => r x y H Q ∨ r' x y H Q) := by
  intro value slice pins s σ H x y v u Q I rx ry q hs
  rcases q with q | q
  · exact h value slice pins s σ H x y v u Q I rx ry q hs
  · exact h' value slice pins s σ H x y v u Q I rx ry q hs
theorem MtR.or {id : String} {r r' : V → List V → Hp → VK → Prop} (h : MtR X id r) (h' : MtR X id r') : MtR X id (fun x xs H Q => r x xs H Q ∨ r' x xs H Q) := by
  intro pins s σ H x xs v us Q I rx rs q
  rcases q with q | q
  · exact h pins s σ H x xs v us Q I rx rs q
  · exact h' pins s σ H x xs v us Q I rx rs q
/-- a[b] -/
theorem pe_ix {r : R2} (hr : IxR X r) (ha : PE X a ta) (hb : PE X b tb) (hs : PlainIx b) : PE X (.Subscript a b pos) (tOp r ta tb) := by
  intro pins s σ H Q I h
  exact Subscript_ (binT ha hb I h fun v u s2 x y H2 I2 rx ry q => hr a b pins s2 σ H2 x y v u Q I2 rx ry q (hs _ _))
def rIxL (K : PySem.W.Frag) : R2 := fun x y H Q => ∃ p xs i v, x = .ref p ∧ y = .int i ∧ SqL K H p xs ∧ atI xs i = some v ∧ Q v H
def rIxT (K : PySem.W.Frag) : R2 := fun x y H Q => ∃ p xs i v, x = .ref p ∧ y = .int i ∧ SqT K H p xs ∧ atI xs i = some v ∧ Q v H
def rIxS : R2 := fun x y H Q => ∃ z i c, x = .str z ∧ y = .int i ∧ z.length ≤ sizeLine ∧ atI z.cps.toList i = some c ∧ Q (.str ⟨#[c]⟩) H
theorem ix_list : IxR X (rIxL X.K) := by
  intro value slice pins s σ H x y v u Q I rx ry h hs
  obtain ⟨p, xs, i, z, rfl, rfl, hq, he, q⟩ := h
  cases rx
  obtain ⟨t, rfl⟩ := ry
  obtain ⟨its, r, pl, hz⟩ := I.list hq
  obtain ⟨j, h1, h2, h3, h4, h5⟩ := atI_get he
  obtain ⟨w, ew, rw'⟩ := r.get h2
  have hl := r.length
  have hn := line63
  have fin : EP X pins σ Q w s := ⟨z, H, I, rw', q⟩
  by_cases h0 : 0 ≤ i
  · have hj : i.toNat = j := by
      rw [seqIndex_of h0 h5] at h1
      exact Option.some.inj h1
    exact item_listR pl.isList h0 (by omega) (by rw [hj]; simpa using ew) fin hs
  · have hj : (i + (its.toArray.size : Int)).toNat = j := by
      rw [seqIndex_neg (by omega) h4] at h1
      rw [List.size_toArray, ← hl]
      exact Option.some.inj h1
    exact subscriptTail_builtinR (x := w) pl.isList.typeIs slot_list_getitem.lookup
      (wpAny_getItem_list_neg (Q := fun r s' => r = w ∧ EP X pins σ Q r s') pl.isList (by omega) (by rw [List.size_toArray] <;> omega) (by omega) (by rw [hj]; simpa using ew) ⟨rfl, fin⟩) hs
theorem ix_tup : IxR X (rIxT X.K) := by
  intro value slice pins s σ H x y v u Q I rx ry h hs
  obtain ⟨p, xs, i, z, rfl, rfl, hq, he, q⟩ := h
  cases rx
  obtain ⟨t, rfl⟩ := ry
  obtain ⟨its, r, pl, hz⟩ := I.tuple hq
  obtain ⟨j, h1, h2, h3, h4, h5⟩ := atI_get he
  obtain ⟨w, ew, rw'⟩ := r.get h2
  have hl := r.length
  have hn := line63
  have fin : EP X pins σ Q w s := ⟨z, H, I, rw', q⟩
  exact subscriptTail_builtinR (x := w) pl.typeIs slot_tuple_getitem.lookup
    (getItem_tuple (j := j) (Q := fun r s' => r = w ∧ EP X pins σ Q r s') pl (by omega) (by omega) (by rw [List.size_toArray, ← hl]; exact h1) (by simpa using ew) ⟨rfl, fin⟩) hs
theorem ix_str : IxR X rIxS := by
  intro value slice pins s σ H x y v u Q I rx ry h hs
  obtain ⟨z, i, c, rfl, rfl, hz, he, q⟩ := h
  obtain ⟨t, rfl⟩ := rx
  obtain ⟨t', rfl⟩ := ry
  obtain ⟨j, h1, h2, h3, h4, h5⟩ := atI_get he
  have hl : z.cps.toList.length = z.length := by simp [Str.length]
  rw [hl] at h1 h4 h5
  have hn := line63
  exact tail_any (typeIs_str s z t) slot_str_getitem.lookup (getItem_str (c := c) (by
    have e1 : decide (i < -(2 ^ 63 : Int)) = false := decide_eq_false (by omega)
    have e2 : decide (i ≥ 2 ^ 63) = false := decide_eq_false (by omega)
    rw [e1, e2, Bool.or_false]) (by rw [h1]; simpa using h2) ⟨.str ⟨#[c]⟩, H, I.tok _, ⟨_, rfl⟩, q⟩) hs
/-- list, tuple or str -/
def rIx (K : PySem.W.Frag) : R2 := fun x y H Q => rIxL K x y H Q ∨ rIxT K x y H Q ∨ rIxS x y H Q
theorem ix_seq : IxR X (rIx X.K) := ix_list.or (ix_tup.or ix_str)
theorem Inv.lst {pins : List (Addr × Obj)} {σ : St} {H : Hp} {s : Shared} {p : Addr} {xs : List V} (I : Inv X pins σ H s) (h : H p = some (.lst xs)) :
    ∃ (its : List Value) (n : Nat), Vals xs its ∧ s.heap.get? p = some { cls := .type "list", data := .seq its.toArray n } ∧ xs.length ≤ sizeLine := by
  obtain ⟨z, its, n, r, e⟩ := I.hok p _ h
  exact ⟨its, n, r, e, z⟩
/-! ### slices -/
theorem slice_bounds (lo hi : Option Int) (n : Nat) : (sliceBounds lo hi none n).1 = ((HT.sIx n 0 lo : Nat) : Int) ∧ (sliceBounds lo hi none n).2.1 = ((HT.sIx n n hi : Nat) : Int) ∧ (sliceBounds lo hi none n).2.2 = 1 := by
  refine ⟨?_, ?_, rfl⟩
  · cases lo with
    | none => simp [sliceBounds, HT.sIx]
    | some i =>
      simp only [sliceBounds, HT.sIx, Option.getD_none, show (1 : Int) > 0 by decide, if_true]
      by_cases h : i < 0
      · simp only [h, if_true] <;> omega
      · simp only [h, if_false] <;> omega
  · cases hi with
    | none => simp [sliceBounds, HT.sIx]
    | some i =>
      simp only [sliceBounds, HT.sIx, Option.getD_none, show (1 : Int) > 0 by decide, if_true]
      by_cases h : i < 0
      · simp only [h, if_true] <;> omega
      · simp only [h, if_false] <;> omega
theorem slicePick_cut (its : List Value) (lo hi : Option Int) : slicePick its.toArray lo hi none = ((its.drop (HT.sIx its.length 0 lo)).take (HT.sIx its.length its.length hi - HT.sIx its.length 0 lo)).toArray := by
  obtain ⟨h1, h2, h3⟩ := slice_bounds lo hi its.toArray.size
  unfold slicePick
  rw [h1, h2, h3]
  simp only [sliceRange_one, pick_run, List.size_toArray] <;> rfl
/-- xs[lo:hi] of a list: a new list -/
def rSlL (K : PySem.W.Frag) : V → Option Int → Option Int → Hp → VK → Prop := fun x lo hi H Q => ∃ a xs, x = .ref a ∧ SqL K H a xs ∧ ∀ p, H p = none → Q (.ref p) (upd H p (.lst (cutV xs lo hi)))
theorem sl_list : SlR X (rSlL X.K) := by
  intro pins s σ H x v vl vu lo hi sl Q I rx hs pl pu h
  obtain ⟨a, xs, rfl, hx, q⟩ := h
  cases rx
  obtain ⟨its, r, ht, hz⟩ := I.list hx
  have hlen := r.length
  refine ⟨"list", _, slot_list_getitem.lookup, ht.isList.typeIs, ?_⟩
  refine wpAny_getItem_list_slice ht.isList hs pl pu .none (by simp) ?_ (by rw [List.size_toArray] <;> omega)
  rw [slicePick_cut, ← hlen]
  refine ⟨.ref s.heap.objs.size, _, I.laid (t' := s.toks) (o := .lst (cutV xs lo hi)) (fun b ob q => Heap.get?_push_of_some _ q) (Nat.le_refl _) ?_, rfl, q _ (I.hok.fresh (Nat.le_refl _))⟩
  exact ⟨Nat.le_trans (cutV_length xs lo hi) hz, _, 0, (r.drop (HT.sIx xs.length 0 lo)).take (HT.sIx xs.length xs.length hi - HT.sIx xs.length 0 lo), Heap.get?_push_size _ rfl⟩
/-! ### in, not in: flat items -/
def flatV : V → Bool
  | .non => true
  | .bl _ => true
  | .int _ => true
  | .str _ => true
  | _ => false
/-- == of flat values -/
def eqV : V → V → Bool
  | .non, .non => true
  | .bl a, .bl b => a == b
  | .bl a, .int b => (if a then 1 else 0) == b
  | .int a, .bl b => a == (if b then 1 else 0)
  | .int a, .int b => a == b
  | .str a, .str b => a == b
  | _, _ => false
theorem eqAt_V {A : Around} {s : Shared} {y x : V} {u v : Value} (ry : RelV y u) (rx : RelV x v) (fy : flatV y = true) (fx : flatV x = true) : SeqAt.EqAt A s u v (eqV y x) := by
  cases y with
  | non =>
    cases ry
    cases x with
    | non => cases rx; exact SeqAt.EqAt.same _
    | bl b => cases rx; exact SeqAt.EqAt.none_bool b
    | int b => obtain ⟨t, rfl⟩ := rx; exact SeqAt.EqAt.none_int b t
    | str b => obtain ⟨t, rfl⟩ := rx; exact SeqAt.EqAt.none_str b t
    | _ => exact absurd (show false = true from fx) Bool.false_ne_true
  | bl a =>
    cases ry
    cases x with
    | non => cases rx; exact SeqAt.EqAt.bool_none a
    | bl b => cases rx; exact SeqAt.EqAt.bool_bool a b
    | int b => obtain ⟨t, rfl⟩ := rx; exact SeqAt.EqAt.bool_int a b t
    | str b => obtain ⟨t, rfl⟩ := rx; exact SeqAt.EqAt.bool_str a b t
    | _ => exact absurd (show false = true from fx) Bool.false_ne_true
  | int a =>
    obtain ⟨t', rfl⟩ := ry
    cases x with
    | non => cases rx; exact SeqAt.EqAt.int_none a t'
    | bl b => cases rx; exact SeqAt.EqAt.int_bool a t' b
    | int b => obtain ⟨t, rfl⟩ := rx; exact SeqAt.EqAt.int_int a t' b t
    | str b => obtain ⟨t, rfl⟩ := rx; exact SeqAt.EqAt.int_str a t' b t
    | _ => exact absurd (show false = true from fx) Bool.false_ne_true
  | str a =>
    obtain ⟨t', rfl⟩ := ry
    cases x with
    | non => cases rx; exact SeqAt.EqAt.str_none a t'
    | bl b => cases rx; exact SeqAt.EqAt.str_bool a t' b
    | int b => obtain ⟨t, rfl⟩ := rx; exact SeqAt.EqAt.str_int a t' b t
    | str b => obtain ⟨t, rfl⟩ := rx; exact SeqAt.EqAt.str_str a t' b t
    | _ => exact absurd (show false = true from fx) Bool.false_ne_true
  | _ => exact absurd (show false = true from fy) Bool.false_ne_true
/-- the items' answers, read off the values (a value's own answer does not lean on its token) -/
def eqU (x : V) (u : Value) : Bool := match u with
  | .none => eqV .non x
  | .bool b => eqV (.bl b) x
  | .int i _ => eqV (.int i) x
  | .str z _ => eqV (.str z) x
  | _ => false
theorem eqU_of {x y : V} {u : Value} (r : RelV y u) (f : flatV y = true) : eqU x u = eqV y x := by
  cases y with
  | non => cases r; rfl
  | bl b => cases r; rfl
  | int i => obtain ⟨t, rfl⟩ := r; rfl
  | str z => obtain ⟨t, rfl⟩ := r; rfl
  | _ => exact absurd (show false = true from f) Bool.false_ne_true
theorem mem_eqAt {A : Around} {s : Shared} {x : V} {v : Value} (rx : RelV x v) (fx : flatV x = true) : ∀ {xs : List V} {us : List Value}, Vals xs us → xs.all flatV = true → ∀ u ∈ us, SeqAt.EqAt A s u v (eqU x u)
  | _, _, .nil, _ => fun u hu => by cases hu
  | y :: xs, u :: us, .cons r t, f => fun u' hu => by
    rw [List.all_cons, Bool.and_eq_true] at f
    rcases List.mem_cons.mp hu with rfl | hu
    · rw [eqU_of r f.1]; exact eqAt_V r rx f.1 fx
    · exact mem_eqAt rx fx t f.2 u' hu
theorem CallR.or {f : Value} {r r' : List V → Hp → VK → Prop} (h : CallR X f r) (h' : CallR X f r') : CallR X f (fun xs H Q => r xs H Q ∨ r' xs H Q) := by
  intro pins s σ H xs us Q I rs q
  rcases q with q | q
  · exact h pins s σ H xs us Q I rs q
  · exact h' pins s σ H xs us Q I rs q
theorem call_list_of : CallR X (.type "list") (fun xs H Q => ∃ p ys, xs = [.ref p] ∧ (SqL X.K H p ys ∨ SqT X.K H p ys) ∧ ∀ l, H l = none → Q (.ref l) (upd H l (.lst ys))) := by
  intro pins s σ H xs us Q I r h
  obtain ⟨p, ys, rfl, hq, q⟩ := h
  obtain ⟨u, rfl, rx⟩ := vals1 r
  cases rx
  have fin : ∀ (its : List Value), Vals ys its → ys.length ≤ sizeLine → ∀ (h' : Heap) (c' : Nat), (∀ b o', s.heap.get? b = some o' → h'.get? b = some o') →
      h'.get? s.heap.objs.size = some { cls := .type "list", dict := none, data := .seq its.toArray c', slots := #[] } → EP X pins σ Q (.ref s.heap.objs.size) { s with heap := h' } := fun its r' hz h' c' kp e =>
    ⟨.ref s.heap.objs.size, _, I.laid (t' := s.toks) kp (Nat.le_refl _) (show ObjOk X.prog X.w _ h' _ (.lst ys) from ⟨hz, its, c', r', e⟩), rfl, q _ (I.hok.fresh (Nat.le_refl _))⟩
  rcases hq with hq | hq
  · obtain ⟨its, r', pl, hz⟩ := I.list hq
    have hlen := r'.length
    obtain ⟨o, ho, hc, n, hd⟩ := pl.isList
    exact call_list_seq p (.inl rfl) ho hc hd (fun h' c' kp e => fin its r' hz h' c' kp e) (by simp only [List.size_toArray] <;> omega)
  · obtain ⟨its, r', pl, hz⟩ := I.tuple hq
    have hlen := r'.length
    obtain ⟨o, ho, hc, n, hd⟩ := pl
    exact call_list_seq p (.inr rfl) ho hc hd (fun h' c' kp e => fin its r' hz h' c' kp e) (by simp only [List.size_toArray] <;> omega)
/-! ### the call of a builtin's method: o.m(..) -/
/-- the value is of that builtin type -/
def tyV (K : PySem.W.Frag) (T : String) (x : V) (H : Hp) : Prop := match x with
  | .str _ => T = "str"
  | .int _ => T = "int"
  | .ref p => (T = "list" ∧ ∃ xs, SqL K H p xs) ∨ (T = "tuple" ∧ ∃ o, K.lookup p = some o ∧ o.cls = .type "tuple" ∧ o.dict = none) ∨
      (T = "dict" ∧ ((∃ kvs, H p = some (.dK kvs)) ∨ ∃ kvs, H p = some (.dT kvs))) ∨ (T = "set" ∧ ∃ S n, H p = some (.set S n))
  | _ => False
theorem tyV_is {pins : List (Addr × Obj)} {σ : St} {H : Hp} {s : Shared} {T : String} {x : V} {v : Value} (I : Inv X pins σ H s) (r : RelV x v) (ty : tyV X.K T x H) :
    s.TypeIs v T ∧ ∀ a, v = .ref a → ∃ ob, s.heap.get? a = some ob ∧ ob.dict = none := by
  cases x with
  | str z =>
    obtain ⟨t, rfl⟩ := r
    cases (show T = "str" from ty)
    exact ⟨typeIs_str s z t, fun _ e => nomatch e⟩
  | int i =>
    obtain ⟨t, rfl⟩ := r
    cases (show T = "int" from ty)
    exact ⟨typeIs_int s i t, fun _ e => nomatch e⟩
  | ref p =>
    cases r
    rcases ty with ⟨rfl, xs, hq⟩ | ⟨rfl, o, hk, hc, hd⟩ | ⟨rfl, hk⟩ | ⟨rfl, S, n, hk⟩
    · obtain ⟨its, _, pl, _⟩ := I.list hq
      refine ⟨pl.isList.typeIs, fun a e => ?_⟩
      cases e
      obtain ⟨o, n, e, c, hd, _⟩ := pl
      exact ⟨o, e, hd⟩
    · refine ⟨⟨o, I.kIn p o hk, hc⟩, fun a e => ?_⟩
      cases e
      exact ⟨o, I.kIn _ o hk, hd⟩
    · have z : ∃ o, s.heap.get? p = some o ∧ o.ExactDict := by
        rcases hk with ⟨kvs, hk⟩ | ⟨kvs, hk⟩
        · obtain ⟨_, _, _, _, o, _, _, e, ex, _⟩ := I.hok p _ hk
          exact ⟨o, e, ex⟩
        · obtain ⟨_, _, _, _, o, _, _, e, ex, _⟩ := I.hok p _ hk
          exact ⟨o, e, ex⟩
      obtain ⟨o, e, ex⟩ := z
      refine ⟨⟨o, e, ex.1⟩, fun a e2 => ?_⟩
      cases e2
      exact ⟨o, e, ex.2.1⟩
    · obtain ⟨o, _, _, _, e, ex, _⟩ := I.hok p _ hk
      refine ⟨⟨o, e, ex.1⟩, fun a e2 => ?_⟩
      cases e2
      exact ⟨o, e, ex.2.1⟩
  | _ => exact False.elim ty
def tBM0 (K : PySem.W.Frag) (T : String) (r : V → List V → Hp → VK → Prop) (to : TE) : TE := fun σ H Q => to σ H fun x H1 => tyV K T x H1 ∧ r x [] H1 Q
def tBM (K : PySem.W.Frag) (T : String) (r : V → List V → Hp → VK → Prop) (to : TE) (t : TA) : TE := fun σ H Q => to σ H fun x H1 => tyV K T x H1 ∧ t σ H1 fun xs H2 => r x xs H2 Q
variable {o e : Expr} {es : List Expr} {to : TE} {t : TA} {name : Str} {apos cpos : Pos} {T id : String} {r : V → List V → Hp → VK → Prop}
theorem pe_bm0 (pa : PlainAttrs T) (slot : Slot T name id) (hty : typeOf (.builtin id) = pure (.type "method_descriptor")) (hm : MtR X id r) (ho : PE X o to)
    (hbase : attributeBase o name X.env (eval o X.env) = eval o X.env := by rfl) (hline : (apos.endLine == cpos.line) = true := by rfl) : PE X (.Call (.Attribute o name apos) [] [] cpos) (tBM0 X.K T r to) := by
  intro pins s σ H Q I h
  refine wpAny_Call_method0_late hbase hline (thn (ho pins s σ H _ I h) fun v s1 ⟨x, H1, I1, r1, ty, q1⟩ => ?_)
  obtain ⟨h1, h2⟩ := tyV_is I1 r1 ty
  exact ⟨T, id, pa, slot, hty, h1, h2, Calls.callWith_builtin rfl (PySem.evalArgs_none (hm pins s1 σ H1 x [] v [] Q I1 r1 .nil q1))⟩
theorem pe_bm (pa : PlainAttrs T) (slot : Slot T name id) (hty : typeOf (.builtin id) = pure (.type "method_descriptor")) (hm : MtR X id r) (ho : PE X o to) (ha : PA X (e :: es) t)
    (hbase : attributeBase o name X.env (eval o X.env) = eval o X.env := by rfl)
    (hfew : ((backTo cpos (starEach (e :: es) X.env)).all (fun x => !x.1) && (backToKw cpos (keywordEach [] X.env)).all (fun x => x.1.isSome)
      && decide ((e :: es).length + ([] : List Keyword).length + (if ([] : List Keyword).isEmpty then 0 else 1) < 30)) = true := by rfl)
    (hline : (apos.endLine == cpos.line) = true := by rfl) (hs : starEach (e :: es) X.env = (false, eval e X.env) :: starEach es X.env := by rfl) (hplain : (backTo cpos (starEach es X.env)).any (·.1) = false := by rfl) :
    PE X (.Call (.Attribute o name apos) (e :: es) [] cpos) (tBM X.K T r to t) := by
  intro pins s σ H Q I h
  refine wpAny_Call_method_late hbase hfew hline rfl (thn (ho pins s σ H _ I h) fun v s1 ⟨x, H1, I1, r1, ty, q1⟩ => ?_)
  obtain ⟨h1, h2⟩ := tyV_is I1 r1 ty
  refine ⟨T, id, pa, slot, hty, h1, h2, ?_⟩
  have hA := ha cpos pins s1 σ H1 _ I1 q1
  rw [hs] at hA ⊢
  refine Calls.callWith_builtin (by show (false || (backTo cpos (starEach es X.env)).any (·.1)) = false; rw [hplain] <;> rfl) (Calls.evalArgs_plain ?_)
  exact thn hA fun us s2 ⟨vs, H2, I2, r2, q2⟩ => hm pins s2 σ H2 x vs v us Q I2 r1 r2 q2
/- xs.append(e), list.index on a module's tuple .. are MtR facts of 06m -/
end
end L2
namespace L2
open PySem PySem.Spec PyProof.Rows
def MtM (X : Cx) (id : String) (r : V → List V → Hp → VK → Prop) : Prop :=
  ∀ (pins : List (Addr × Obj)) (s : Shared) (σ : St) (H : Hp) (x : V) (xs : List V) (v : Value) (us : List Value) (Q : VK), Inv X pins σ H s → RelV x v → Vals xs us → r x xs H Q →
    wpAny (model X.prog X.w) X.A (call (.builtin id) (v :: us)) (EP X pins σ Q) X.xe s
/-! ### lists of values -/
theorem Vals.one : ∀ {x : V} {us : List Value}, Vals [x] us → ∃ u, us = [u] ∧ RelV x u
  | _, _, .cons r .nil => ⟨_, rfl, r⟩
theorem Vals.two : ∀ {x y : V} {us : List Value}, Vals [x, y] us → ∃ u v, us = [u, v] ∧ RelV x u ∧ RelV y v
  | _, _, _, .cons r (.cons q .nil) => ⟨_, _, rfl, r, q⟩
theorem Vals.zero : ∀ {us : List Value}, Vals [] us → us = []
  | _, .nil => rfl
theorem Vals.dropLast {xs : List V} {us : List Value} (h : Vals xs us) : Vals xs.dropLast us.dropLast := by
  induction h with
  | nil => exact .nil
  | cons r t ih =>
    cases t with
    | nil => exact .nil
    | cons q t' => exact .cons r ih
theorem Vals.eraseIdx : ∀ {xs : List V} {us : List Value} (i : Nat), Vals xs us → Vals (xs.eraseIdx i) (us.eraseIdx i)
  | _, _, _, .nil => .nil
  | _, _, 0, .cons _ t => t
  | _, _, i + 1, .cons r t => .cons r (Vals.eraseIdx i t)
theorem Vals.reverse {xs : List V} {us : List Value} (h : Vals xs us) : Vals xs.reverse us.reverse := by
  induction h with
  | nil => exact .nil
  | cons r t ih => rw [List.reverse_cons, List.reverse_cons]; exact Vals.append ih (.cons r .nil)
theorem Vals.rep {xs : List V} {us : List Value} (h : Vals xs us) : ∀ k : Nat, Vals (List.replicate k xs).flatten (List.replicate k us).flatten
  | 0 => .nil
  | k + 1 => by
    rw [List.replicate_succ, List.replicate_succ, List.flatten_cons, List.flatten_cons]
    exact Vals.append h (Vals.rep h k)
theorem erase_last {α : Type} (l : List α) : l.eraseIdx (l.length - 1) = l.dropLast := by
  induction l with
  | nil => rfl
  | cons a r ih =>
    cases r with
    | nil => rfl
    | cons b r =>
      have e : (a :: b :: r).length - 1 = ((b :: r).length - 1) + 1 := by
        have h1 : (a :: b :: r).length = r.length + 2 := rfl
        have h2 : (b :: r).length = r.length + 1 := rfl
        omega
      rw [e, List.eraseIdx_cons_succ, ih]
      all_goals rfl
section
variable {X : Cx} {pins : List (Addr × Obj)} {σ : St} {H : Hp} {s : Shared} {l b : Addr} {xs ys zs : List V}
/-! ### the two steps: a tracked list is rewritten, a new list is laid -/
theorem Inv.lset {its its' : List Value} {n : Nat} {f : Array Value → Array Value} {t' : Nat} (I : Inv X pins σ H s) (hH : H l = some (.lst xs))
    (e : s.heap.get? l = some { cls := .type "list", data := .seq its.toArray n }) (hf : f its.toArray = its'.toArray) (hv : Vals ys its') (hz : ys.length ≤ sizeLine) :
    Inv X pins σ (upd H l (.lst ys)) { s with heap := s.heap.update l (Obj.mapSeq f), toks := t' } := by
  have q := PySem.IsL.update e f
  rw [hf] at q
  refine I.write (x := l) (e := l) (by rw [hH]; exact trivial) (.inl rfl) (fun b' u hb hu => (Heap.get?_update_other s.heap (Obj.mapSeq f) (Ne.symm hb)).trans hu) ⟨_, q⟩ ?_
  exact ⟨hz, its', _, hv, q⟩
theorem Inv.lnew {its : List Value} {t' : Nat} (I : Inv X pins σ H s) (hv : Vals ys its) (hz : ys.length ≤ sizeLine) :
    Inv X pins σ (upd H s.heap.objs.size (.lst ys)) { s with heap := s.heap.push { cls := .type "list", data := .seq its.toArray }, toks := t' } :=
  I.laid (fun _ _ q => Heap.get?_push_of_some _ q) (Nat.le_refl _) ⟨hz, its, 0, hv, Heap.get?_push_size _ rfl⟩
theorem Inv.fresh (I : Inv X pins σ H s) : H s.heap.objs.size = none := I.hok.fresh (Nat.le_refl _)
theorem Inv.lstM (I : Inv X pins σ H s) (hH : H l = some (.lst xs)) : xs.length ≤ sizeLine ∧ ∃ (its : List Value) (n : Nat), Vals xs its ∧ xs.length = its.length ∧ s.heap.get? l = some { cls := .type "list", data := .seq its.toArray n } := by
  obtain ⟨z, its, n, r, e⟩ := I.hok l _ hH
  exact ⟨z, its, n, r, r.length, e⟩
end
section
variable {X : Cx}
/-! ### methods -/
def rAppend : V → List V → Hp → VK → Prop := fun x vs H Q => ∃ l xs y, x = .ref l ∧ vs = [y] ∧ H l = some (.lst xs) ∧ xs.length < sizeLine ∧ Q .non (upd H l (.lst (xs ++ [y])))
theorem mt_append : MtM X "list.append" rAppend := by
  intro pins s σ H x vs v us Q I rx rv h
  obtain ⟨l, xs, y, rfl, rfl, hH, hz, q⟩ := h
  cases rx
  obtain ⟨u, rfl, ru⟩ := rv.one
  obtain ⟨z, its, n, r, hl, e⟩ := I.lstM hH
  refine call_meets F.slot_list_append ⟨_, e, rfl⟩ F.entry_list_append (F.args_list_append_2 _ _) (PySem.list_append l its.toArray n u (by rw [List.size_toArray]; omega)) ⟨e, ?_⟩
  refine ⟨.non, _, I.lset (its' := its ++ [u]) hH e (by simp) (r.append (.cons ru .nil)) ?_, rfl, q⟩
  rw [List.length_append, List.length_singleton]
  omega
def rPop : V → List V → Hp → VK → Prop := fun x vs H Q => ∃ l xs y, x = .ref l ∧ vs = [] ∧ H l = some (.lst xs) ∧ xs[xs.length - 1]? = some y ∧ Q y (upd H l (.lst xs.dropLast))
theorem mt_pop : MtM X "list.pop" rPop := by
  intro pins s σ H x vs v us Q I rx rv h
  obtain ⟨l, xs, y, rfl, rfl, hH, hy, q⟩ := h
  cases rx
  have hus := rv.zero
  subst hus
  obtain ⟨z, its, n, r, hl, e⟩ := I.lstM hH
  obtain ⟨u, hu, ru⟩ := r.get hy
  have hy' : its.toArray[its.toArray.size - 1]? = some u := by
    show its.toArray[its.length - 1]? = some u
    rw [← Array.getElem?_toList, ← hl]
    exact hu
  refine call_meets F.slot_list_pop ⟨_, e, rfl⟩ F.entry_list_pop (F.args_list_pop_1 _) (MeetsSeq.list_pop_last l its.toArray n u hy' (by rw [List.size_toArray]; omega)) ⟨e, ?_⟩
  refine ⟨y, _, I.lset (its' := its.dropLast) hH e ?_ r.dropLast ?_, ru, q⟩
  · show its.toArray.eraseIdxIfInBounds (its.toArray.size - 1) = its.dropLast.toArray
    rw [List.size_toArray, List.eraseIdxIfInBounds_toArray, erase_last]
  · rw [List.length_dropLast]
    omega
end
/-! ### xs[a:b] = ys -/
section
variable {prog : Program} {w : World} {A : Around} {E : Value → Shared → Prop} {s : Shared}
end
section
variable {X : Cx}
end
end L2
namespace Att
open PySem PySem.W PySem.Calls PyProof.Rows
/-! ### the script -/
theorem ints_of_wellAll {P : Params} {h : Heap} : ∀ (ns : List Int) (vs : List Value), WellAll P h vs (ns.map WData.int) → IntsAre vs ns := by
  intro ns
  induction ns with
  | nil =>
    intro vs w
    rw [List.map_nil] at w
    cases w
    exact .nil
  | cons n ns ih =>
    intro vs w
    rw [List.map_cons] at w
    cases w with
    | cons a b =>
      cases a
      exact .cons _ _ (ih _ b)
theorem script_of {l : OpenLaw} {n : Nat} (hn : l.most = some n) {P : Params} {h : Heap} {args : List WData} {vals : List Value}
    (hpre : l.row.toRowW.claim.pre args = true) (hwl : WellAll P h vals args) :
    ∃ a vs ns, vals = [Value.ref a] ∧ args = [WData.list (ns.map WData.int)] ∧ h.get? a = some { cls := .type "list", data := .seq vs.toArray } ∧ IntsAre vs ns ∧ ns.length ≤ n := by
  have hsh : WShape.hasAll [] args [.list .int] = true := (pre_splitW hpre).1
  have hc : l.pre.holds [] { args := args } = true := (pre_splitW hpre).2
  obtain ⟨d, r, rfl, h1, h2⟩ := hasAllW_cons hsh
  obtain rfl := hasAllW_nil h2
  obtain ⟨xs, rfl, h3⟩ := hasW_list h1
  obtain ⟨ns, rfl⟩ := items_int h3
  have hlen : ns.length ≤ n := by
    unfold OpenLaw.pre at hc
    have h4 : (WTm.not (.lt (.lit (.int (n : Int))) (.len (.arg 0)))).holds [] { args := [.list (ns.map .int)] } = true := by
      have h4 := (holds_andW hc).1
      rw [hn] at h4
      exact h4
    have h5 := condW_of h4 (w_not (w_lt w_lit (w_len_list (w_arg rfl))))
    rw [List.length_map] at h5
    refine Nat.le_of_not_lt fun q => ?_
    have q' : (n : Int) < ((ns.length : Nat) : Int) := by omega
    first
      | (rw [decide_eq_true q'] at h5; exact absurd h5 (by decide))
      | (simp at h5; omega)
  cases hwl with
  | cons w1 w2 =>
    cases w2
    cases w1 with
    | list ho hall => exact ⟨_, _, ns, rfl, rfl, ho, ints_of_wellAll ns _ hall, hlen⟩
theorem post_true (l : OpenLaw) (args : List WData) : l.row.toRowW.claim.post args (.bool true) args = true :=
  postW_of (r := l.row.toRowW) (X := (true == true))
    (show WShape.has [] (.bool true) .bool = true by first | rfl | decide | simp [WShape.has, WShape.arms, WShape.armsAll])
    (show (WTm.eq .res (.lit (.bool true))).value [] { args := args, res := some (.bool true), after := args } = some (.bool (true == true)) from w_eq_bool (w_res rfl) w_lit) rfl
/-- the same from a codeAny of the CALL (for a layer whose function contracts speak of calls) -/
theorem attach_call {l : OpenLaw} {n : Nat} {q : Program} {loose : List Str} {XP : (Str → Option Value) → Heap → Prop} {YP : World → Heap → Prop} {d : DefRec}
    (hn : l.most = some n) (hdf : d.params.defaults = [])
    (call : ∀ (w : World) (s₀ s₁ : Shared) (mg mb : Str → Option Value) (fa : Addr) (o : Obj) (pm cd doc : Value) (a : Addr) (vs : List Value) (ns : List Int),
      Ground q loose [] XP w s₀ mg mb s₁.heap → YP w s₁.heap →
      s₁.heap.get? fa = some o → o.data = .func (docDef d.name d.params d.body d.scope pm cd doc) → s₁.heap.CodeRec cd d.name → mg d.name = some (.ref fa) →
      s₁.heap.get? a = some { cls := .type "list", data := .seq vs.toArray } → IntsAre vs ns → ns.length ≤ n → s₁.gens = #[] →
      codeAny (model l.prog w) callerA (.call (.ref fa) ⟨[.ref a], []⟩) (fun r s' => r = .ok (.ret (.bool true)) ∧ OldK s₁.heap s'.heap ∧ s'.os = s₁.os ∧ AllBare s'.gens) s₁) :
    WalkO q loose XP YP l.row.toRowW d [] (fun f vs => PySem.call f vs) := by
  intro w s₀ s₁ mg mb G Y fa o pm cd doc dV kV ho hd hcd hD hmg hg args vals as hpre hlay hrd hwl hlo
  obtain rfl : dV = .none := Dflts.none hD hdf
  obtain rfl : kV = .none := Dflts.noKw hD
  obtain ⟨a, vs, ns, rfl, rfl, hobj, hints, hlen⟩ := script_of hn hpre hwl
  refine enter_call (codeAny_mono (call w s₀ s₁ mg mb fa o pm cd doc a vs ns G Y ho (fd_plain hd) hcd hmg hobj hints hlen hg) fun r s' hq => ?_)
  obtain ⟨rfl, h2, h3, h4⟩ := hq
  exact ⟨.inl ⟨.bool true, .bool true, [], rfl, fun _ => rfl, .bool true, post_true l _, fun _ => ⟨List.Pairwise.nil, fun _ hm => (nomatch hm)⟩⟩, h2, h3, h4⟩
/-! ### rules over ANY heap (no ledger) from facts about the written part K: the library's own take a ledger (News) for what they write -/
section
variable {prog : Program} {w : World} {A : Around} {E : Value → Shared → Prop} {s : Shared} {K : Frag}
def ledger (h : Heap) (L d : Addr) : List (Addr × Obj) := (List.range h.objs.size).filterMap fun a => if a = L ∨ a = d then none else (h.get? a).map fun o => (a, o)
end
end Att
namespace L2
open PySem PySem.Spec PyProof.Rows
theorem vals_ints : ∀ {vs : List Value} {ns : List Int}, IntsAre vs ns → Vals (ns.map V.int) vs
  | _, _, .nil => .nil
  | _, _, .cons n t h => .cons ⟨t, rfl⟩ (vals_ints h)
/-- nothing is tracked but the script, known to the object (or it is an object of the module) -/
def Only (H : Hp) : Prop := ∀ b, H b = none ∨ (∃ o xs, H b = some (.frz o (.lst xs))) ∨ H b = some (.tbl 0)
theorem trip0 : TriplesOk [] := by first | trivial | constructor | simp [TriplesOk]
theorem among0 (pos : Pos) : codeAmong pos [] = none := by first | rfl | simp [codeAmong]
theorem old_of {h₀ h : Heap} (k : ∀ b o, h₀.get? b = some o → h.get? b = some o ∨ (isCodeTable h₀ b ∧ o = PySem.W.tabObj #[] ∧ ∃ ps, h.get? b = some (PySem.W.tabObj ps))) : OldK h₀ h :=
  ⟨fun b o e => by
    rcases k b o e with z | ⟨ht, rfl, ps, hP⟩
    · exact .inl z
    · exact .inr (.inl ⟨ht, rfl, #[], ps, rfl, by rw [Array.empty_append]; exact hP⟩), fun b o e => by
    rcases k b o e with z | ⟨_, _, ps, hP⟩
    · exact ⟨o, z⟩
    · exact ⟨_, hP⟩⟩
open Classical in
/-- the script as it is tracked, and the tables -/
noncomputable def withT (ts : List Addr) (H : Hp) : Hp := fun b => if b ∈ ts then some (.tbl 0) else H b
theorem withT_in {ts : List Addr} {H : Hp} {b : Addr} (h : b ∈ ts) : withT ts H b = some (.tbl 0) := if_pos h
theorem withT_out {ts : List Addr} {H : Hp} {b : Addr} (h : b ∉ ts) : withT ts H b = H b := if_neg h
/-- THE HEAD: the law's promise, at the heap behind the top. F, the promise of the law's def, may use that base is part of the heap (so K.In base, base.Ns mainGlobals mg stand in Mod) -/
theorem law_call {P : Program} {w : World} {K : PySem.W.Frag} {mg mb : Str → Option Value} {CX : CXT} {k : Nat} {fa a : Addr} {fd : FuncData} {x : Str} {sp : Sp} {s₁ : Shared} {vs : List Value} {ns : List Int}
    (KX : K.In s₁.heap) (hns : s₁.heap.Ns mainGlobals mg) (hb : s₁.heap.Ns builtinsNs mb) (hbb : ∀ x : Str, x ≠ "__name__" → mb x = bootBuiltins x) (hlim : s₁.heap.NoLimit) (hbm : ∃ bm ob, mg "__builtins__" = some (.ref bm) ∧ bm ≠ builtinsNs ∧ s₁.heap.get? bm = some ob ∧ ob.cls = .type "module" ∧ ob.dict = some builtinsNs ∧ ob.data = .plain) (hg : s₁.gens = #[])
    (ha : s₁.heap.get? a = some { cls := .type "list", data := .seq vs.toArray }) (hi : IntsAre vs ns) (hl : ns.length ≤ sizeLine) (hr : Room k callerA)
    {ts : List Addr} (hts : ∀ P ∈ ts, s₁.heap.get? P = some (PySem.W.tabObj #[]) ∧ isCodeTable s₁.heap P ∧ K.lookup P = none)
    (F : ∀ base : Bs, K.In base → base.Ns mainGlobals mg → base.tabs = ts → FnOk P w K mg base CX k fa fd [x] sp) (hbind : ∀ (s : Shared) (u : Value), BindsTo s fd ⟨[u], []⟩ [(x, u)])
    (hsp : ∀ H : Hp, Only H → SqL K H a (ns.map V.int) → sp [.ref a] H (fun v _ => v = .bl true) fun _ _ _ => False)
    (hCX : ∀ H e s', CX [] H s₁ (fun _ _ _ => False) e s' → False) :
    codeAny (model P w) callerA (.call (.ref fa) ⟨[.ref a], []⟩) (fun r s' => r = .ok (.ret (.bool true)) ∧ OldK s₁.heap s'.heap ∧ s'.os = s₁.os ∧ AllBare s'.gens) s₁ := by
  have rv := vals_ints hi
  have lenV := hi.length
  -- from an abstract heap in which nothing but the script may be tracked
  have core : ∀ H : Hp, Only H → SqL K H a (ns.map V.int) → HOk P w H s₁.heap → (∀ b, H b ≠ none → b = a ∨ b ∈ ts) → (H a ≠ none → K.lookup a = none) → (∀ P ∈ ts, H P = some (.tbl 0)) →
      codeAny (model P w) callerA (.call (.ref fa) ⟨[.ref a], []⟩) (fun r s' => r = .ok (.ret (.bool true)) ∧ OldK s₁.heap s'.heap ∧ s'.os = s₁.os ∧ AllBare s'.gens) s₁ := by
    intro H hO hS hok hA hK hTb
    have base_of : ∀ {b : Addr} {o : Obj}, s₁.heap.get? b = some o → H b = none → (hidT s₁.heap H).get? b = some o := fun e n => hidT_get e n
    have noA : ∀ {b : Addr} {o : Obj} {es : Array DictEntry} {ep : Nat}, s₁.heap.get? b = some o → o.data = .dict es ep → H b = none := fun {b o es ep} e d => by
      cases q : H b with
      | none => rfl
      | some u =>
        rcases hA b (by rw [q]; simp) with e' | e'
        case inr => rw [(hts b e').1] at e; cases e; cases d
        subst e'
        rw [ha] at e; cases e
        have d' : Data.seq vs.toArray _ = Data.dict es ep := d
        cases d'
    have nsK : ∀ {b : Addr} {m : Str → Option Value}, s₁.heap.Ns b m → (hidT s₁.heap H).Ns b m := fun {b m} ⟨o, es, ep, e, d, r⟩ => ⟨o, es, ep, base_of e (noA e d), d, r⟩
    have hKb : K.In (hidT s₁.heap H) := fun b o e => base_of (KX b o e) (by
      cases q : H b with
      | none => rfl
      | some u =>
        rcases hA b (by rw [q]; simp) with e' | e'
        case inr => rw [(hts b e').2.2] at e; cases e
        subst e'
        rw [hK (by rw [q]; simp)] at e; cases e)
    have hM : Mod K mg (⟨hidT s₁.heap H, ts⟩ : Bs) := ⟨hKb, nsK hns, ⟨mb, nsK hb, hbb⟩, let ⟨mc, h1, h2⟩ := hlim; ⟨mc, nsK h1, h2⟩, let ⟨bm, ob, a1, a2, a3, a4, a5, a6⟩ := hbm; ⟨bm, ob, a1, a2, base_of a3 (by
      cases q : H bm with
      | none => rfl
      | some u =>
        rcases hA bm (by rw [q]; simp) with e' | e'
        · rw [e', ha] at a3; cases a3; exact absurd a6 (by simp)
        · rw [(hts bm e').1] at a3; cases a3; exact absurd a6 (by simp)), a4, a5, a6⟩⟩
    have e0 : Env0 P w K mg (⟨hidT s₁.heap H, ts⟩ : Bs) callerA [] s₁ H := ⟨rfl, hM, fun b o e => of_hidT e, Nat.le_of_eq (hidT_size _ _), trivial, fun b hb => absurd (show b ∈ ([] : List Addr) from hb) (by simp), hok, .of_eq hg, hTb⟩
    refine codeAny_mono ((F ⟨hidT s₁.heap H, ts⟩ hKb (nsK hns) rfl).run callerA [] s₁ H ⟨[.ref a], []⟩ [.ref a] [.ref a] _ _ hr e0 (hbind s₁ (.ref a)) (.cons rfl .nil) (hsp H hO hS)) fun r s' h => ?_
    cases r with
    | error e => exact (hCX H e s' h).elim
    | ok fl =>
      cases fl with
      | next => exact False.elim h
      | brk => exact False.elim h
      | cont => exact False.elim h
      | ret u =>
        obtain ⟨v, H', os, bare, un, hok', r', q⟩ := h
        have q' : v = .bl true := q
        subst q'
        obtain rfl : u = Value.bool true := r'
        refine ⟨rfl, old_of fun b o e => ?_, os, bare⟩
        cases q : H b with
        | none => exact .inl (un.keep b o e q (by intro z; exact absurd (show b ∈ ([] : List Addr) from z) (by simp)) (by simp))
        | some u =>
          rcases hO b with z | ⟨ob, xs, z⟩ | z
          case inr.inr =>
            rcases hA b (by rw [q]; simp) with e' | e'
            case inl =>
              subst e'
              obtain ⟨ps, e1, _⟩ := hok _ _ z
              rw [ha] at e1; cases e1
            obtain ⟨ps, e2, _⟩ := hok' b _ (un.tbls b 0 z)
            rw [(hts b e').1] at e; cases e
            exact .inr ⟨(hts b e').2.1, rfl, ps, e2⟩
          · rw [q] at z; cases z
          · have z2 := un.frzs b ob _ z
            obtain ⟨e1, _⟩ := hok b _ z
            obtain ⟨e2, _⟩ := hok' b _ z2
            rw [e] at e1; cases e1
            exact .inl e2
  have haT : a ∉ ts := fun z => by have := (hts a z).1; rw [ha] at this; cases this
  have okT : ∀ b ∈ ts, ∀ H : Hp, ObjOk P w H s₁.heap b (.tbl 0) := fun b hb H => ⟨#[], (hts b hb).1, trip0, fun pos cv z => by rw [show (#[] : Array Value).toList = [] from rfl, among0] at z; cases z⟩
  cases hk : K.lookup a with
  | some o =>
    have e := KX a o hk
    rw [ha] at e
    cases e
    refine core (withT ts fun _ => none) (fun b => ?_) (.inr ⟨_, vs.toArray, _, hk, rfl, rfl, rfl, by rw [List.size_toArray, lenV]; exact hl, by simpa using rv⟩) (fun b u z => ?_) (fun b z => ?_) (fun z => ?_) fun P hP => withT_in hP
    · by_cases hb : b ∈ ts
      · exact .inr (.inr (withT_in hb))
      · exact .inl (withT_out hb)
    · by_cases hb : b ∈ ts
      · rw [withT_in hb] at z; cases z; exact okT b hb _
      · rw [withT_out hb] at z; cases z
    · by_cases hb : b ∈ ts
      · exact .inr hb
      · exact absurd (withT_out hb) z
    · exact absurd (withT_out haT) z
  | none =>
    refine core (withT ts fun b => if b = a then some (.frz { cls := .type "list", data := .seq vs.toArray } (.lst (ns.map V.int))) else none) (fun b => ?_) (.inl (.inr ⟨{ cls := .type "list", data := .seq vs.toArray }, by rw [withT_out haT]; exact if_pos rfl⟩)) (fun b u z => ?_) (fun b z => ?_) (fun _ => hk) fun P hP => withT_in hP
    · by_cases hb : b ∈ ts
      · exact .inr (.inr (withT_in hb))
      · rw [withT_out hb]
        by_cases hb : b = a
        · exact .inr (.inl ⟨_, _, if_pos hb⟩)
        · exact .inl (if_neg hb)
    · by_cases hT : b ∈ ts
      · rw [withT_in hT] at z; cases z; exact okT b hT _
      · rw [withT_out hT] at z
        by_cases hb : b = a
        · have z' := (if_pos hb).symm.trans z
          cases z'
          subst hb
          exact ⟨ha, by rw [List.length_map]; exact hl, vs, _, rv, ha⟩
        · have z' := (if_neg hb).symm.trans z
          cases z'
    · by_cases hT : b ∈ ts
      · exact .inr hT
      · rw [withT_out hT] at z
        by_cases hb : b = a
        · exact .inl hb
        · exact absurd (if_neg hb) z
end L2
namespace L2
open PySem PySem.Spec PyProof.Rows
/-- the goal that k_head leaves (case hc), from the law's promise. F gives the function object fd (K's own) once, then the promise over every base -/
theorem walk_of {l : PySem.W.OpenLaw} {n k : Nat} {q : Program} {loose : List Str} {XP : (Str → Option Value) → Heap → Prop} {YP : World → Heap → Prop} {d : DefRec} {K : Params → PySem.W.Frag} {CX : World → CXT} {sp : World → Sp} {x : Str}
    (hn : l.most = some n) (hn2 : n ≤ sizeLine) (hdf : d.params.defaults = []) (hr : Room k callerA)
    (hY : ∀ (w : World) (h : Heap), YP w h → (K w.params).In h) {ts : List Addr} (hts : ∀ (w : World) (h : Heap), YP w h → ∀ P ∈ ts, h.get? P = some (PySem.W.tabObj #[]) ∧ isCodeTable h P ∧ (K w.params).lookup P = none)
    (F : ∀ (w : World) (mg : Str → Option Value) (fa : Addr) (h : Heap), (K w.params).In h → h.Ns mainGlobals mg → mg d.name = some (.ref fa) →
      ∃ fd : FuncData, (∀ (s : Shared) (u : Value), BindsTo s fd ⟨[u], []⟩ [(x, u)]) ∧
        ∀ base : Bs, (K w.params).In base → base.Ns mainGlobals mg → base.tabs = ts → FnOk l.prog w (K w.params) mg base (CX w) k fa fd [x] (sp w))
    (hsp : ∀ (w : World) (H : Hp) (a : Addr) (ns : List Int), ns.length ≤ n → Only H → SqL (K w.params) H a (ns.map V.int) → sp w [.ref a] H (fun v _ => v = .bl true) fun _ _ _ => False)
    (hCX : ∀ (w : World) (H : Hp) (s : Shared) (e : Value) (s' : Shared), CX w [] H s (fun _ _ _ => False) e s' → False) :
    PySem.W.WalkO q loose XP YP l.row.toRowW d [] (fun f vs => PySem.call f vs) := by
  refine Att.attach_call hn hdf fun w s₀ s₁ mg mb fa o pm cd doc a vs ns G Y ho hd hcd hmg hobj hints hlen hg => ?_
  have KX := hY w _ Y
  obtain ⟨fd, hb, hF⟩ := F w mg fa _ KX G.T.g hmg
  exact law_call KX G.T.g G.T.b G.T.builtins G.T.nolimit G.T.bmain hg hobj hints (Nat.le_trans hlen hn2) hr (hts w _ Y) hF hb (fun H hO hS => hsp w H a ns hlen hO hS) fun H e s' => hCX w H s₁ e s'
/-- the same where the promise hangs on the written part alone: (sp := My.sp_law), no hole under a binder -/
theorem walk_ofK {l : PySem.W.OpenLaw} {n k : Nat} {q : Program} {loose : List Str} {XP : (Str → Option Value) → Heap → Prop} {YP : World → Heap → Prop} {d : DefRec} {K : Params → PySem.W.Frag} {CX : CXT} {sp : PySem.W.Frag → Sp} {x : Str}
    (hn : l.most = some n) (hn2 : n ≤ sizeLine) (hdf : d.params.defaults = []) (hr : Room k callerA)
    (hY : ∀ (w : World) (h : Heap), YP w h → (K w.params).In h) {ts : List Addr} (hts : ∀ (w : World) (h : Heap), YP w h → ∀ P ∈ ts, h.get? P = some (PySem.W.tabObj #[]) ∧ isCodeTable h P ∧ (K w.params).lookup P = none)
    (F : ∀ (w : World) (mg : Str → Option Value) (fa : Addr) (h : Heap), (K w.params).In h → h.Ns mainGlobals mg → mg d.name = some (.ref fa) →
      ∃ fd : FuncData, (∀ (s : Shared) (u : Value), BindsTo s fd ⟨[u], []⟩ [(x, u)]) ∧
        ∀ base : Bs, (K w.params).In base → base.Ns mainGlobals mg → base.tabs = ts → FnOk l.prog w (K w.params) mg base CX k fa fd [x] (sp (K w.params)))
    (hsp : ∀ (K : PySem.W.Frag) (H : Hp) (a : Addr) (ns : List Int), ns.length ≤ n → Only H → SqL K H a (ns.map V.int) → sp K [.ref a] H (fun v _ => v = .bl true) fun _ _ _ => False)
    (hCX : ∀ (H : Hp) (s : Shared) (e : Value) (s' : Shared), CX [] H s (fun _ _ _ => False) e s' → False) :
    PySem.W.WalkO q loose XP YP l.row.toRowW d [] (fun f vs => PySem.call f vs) :=
  walk_of (K := K) (CX := fun _ => CX) (sp := fun w => sp (K w.params)) hn hn2 hdf hr hY hts F (fun w H a ns h1 h2 h3 => hsp (K w.params) H a ns h1 h2 h3) fun _ H s e s' => hCX H s e s'
end L2
/-! SHORT WORDS over the layer: a def of the text, its body, what a loop and a test want. -/
namespace L2
open PySem PySem.Spec PyProof.Rows
/-! ### the text by places -/
/-- the j-th statement of a class's body -/
def inClass (s : Stmt) (j : Nat) : Stmt := match s with
  | .ClassDef _ _ _ body _ _ _ _ _ _ _ => body.getD j (.Pass ⟨0, 0, 0, 0⟩)
  | _ => .Pass ⟨0, 0, 0, 0⟩
def defArgs (s : Stmt) : Arguments := match s with
  | .FunctionDef _ a _ _ _ _ _ _ _ _ => a
  | _ => { posonlyargs := [], args := [], vararg := none, kwonlyargs := [], kw_defaults := [], kwarg := none, defaults := [] }
def defBody (s : Stmt) : List Stmt := match s with
  | .FunctionDef _ _ b _ _ _ _ _ _ _ => b
  | _ => []
def defScope (s : Stmt) : Scope := match s with
  | .FunctionDef _ _ _ _ _ _ sc _ _ _ => sc
  | _ => { kind := .function, names := [], isGenerator := false, isCoroutine := false }
/-! ### no exception leaves a def -/
abbrev CX0 : CXT := fun _ _ _ _ _ _ => False
abbrev E0 : XK := fun _ _ _ => False
theorem pass0 {X : Cx} : Passes CX0 X E0 := fun _ _ _ _ _ _ _ h => h.elim
/-! ### a def (or method) of the text as it stands behind the top -/
structure Fun (K : PySem.W.Frag) (x qual : Str) (st : Stmt) (f : Addr) (fd : FuncData) : Prop where
  ex : ∃ (oc : Value) (od : Option Addr) (kV doc pm : Value) (an : Option Addr) (cdv ct : Value) (osl : Array (Option Value)),
    fd = PySem.W.fnOf x qual (defArgs st) (defBody st) (defScope st) .none kV doc pm an cdv ct ∧ K.lookup f = some ⟨oc, od, .func fd, osl⟩ ∧ PySem.W.codeIn K cdv qual = true
  kp : PySem.W.keepIn K (.ref f) = true
section
variable {P : Program} {w : World} {K : PySem.W.Frag} {mg : Str → Option Value} {base : Bs}
/-- THE RULE for a def: its body as a term of rules, and the reading of that term -/
theorem Fun.ok {x qual : Str} {st : Stmt} {f : Addr} {fd : FuncData} {N ps : List Str} {k : Nat} {sp : Sp} (F : Fun K x qual st f fd) (S : FnScope N ps (defScope st)) (len : ∀ vs H Q E, sp vs H Q E → vs.length = ps.length)
    (hbody : ∀ (cdv : Value) (A : Around) (outer : List Env) (s : Shared) (H : Hp) (vs : List V) (Q : VK) (E : XK), Room k (A.deeper (envOfC qual (defScope st) s.heap.objs.size f cdv)) → sp vs H Q E →
      ∃ t, PSs (cxOf CX0 P w K mg base N qual (defScope st) f cdv A outer s H E).nox (defBody st) t ∧ t { nx := fun _ H' => Q .non H', rt := Q } (start N vs) H) : FnOk P w K mg base CX0 (k + 1) f fd ps sp := by
  obtain ⟨oc, od, kV, doc, pm, an, cdv, ct, osl, rfl, lk, hcd⟩ := F.ex
  refine fn_of lk hcd S len fun A outer s H vs Q E hr hsp => ?_
  obtain ⟨t, h, q⟩ := hbody cdv A outer s H vs Q E hr hsp
  exact ⟨t, h.nox, q⟩
/-- how its arguments bind (no defaults): h is «fun _ _ _ _ _ _ us hl => match us, hl with | [_, _], _ => rfl», one _ a parameter -/
theorem Fun.binds {x qual : Str} {st : Stmt} {f : Addr} {fd : FuncData} {ps : List Str} (F : Fun K x qual st f fd)
    (h : ∀ (kV doc pm : Value) (an : Option Addr) (cdv ct : Value) (us : List Value), us.length = ps.length → bindArgs (PySem.W.fnOf x qual (defArgs st) (defBody st) (defScope st) .none kV doc pm an cdv ct) ⟨us, []⟩ = pure (ps.zip us)) : Binds K fd ps [] := by
  obtain ⟨oc, od, kV, doc, pm, an, cdv, ct, osl, rfl, lk, hcd⟩ := F.ex
  exact .all (h kV doc pm an cdv ct)
theorem fun_mk {x qual : Str} {st : Stmt} {f : Addr} {oc : Value} {od an : Option Addr} {osl : Array (Option Value)} {kV doc pm cdv ct : Value} (l : K.lookup f = some ⟨oc, od, .func (PySem.W.fnOf x qual (defArgs st) (defBody st) (defScope st) .none kV doc pm an cdv ct), osl⟩)
    (c : PySem.W.codeIn K cdv qual = true) (k : PySem.W.keepIn K (.ref f) = true) : Fun K x qual st f (PySem.W.fnOf x qual (defArgs st) (defBody st) (defScope st) .none kV doc pm an cdv ct) := ⟨⟨oc, od, kV, doc, pm, an, cdv, ct, osl, rfl, l, c⟩, k⟩
end
theorem small1000 {n : Nat} (h : n ≤ 1000) : n < sizeLine := Nat.lt_of_le_of_lt h (by decide)
/-! ### expressions in short: the name that stands in the i-th slot -/
section
variable {X : Cx}
theorem pv (i : Nat) {x : Str} {pos : Pos} (hN : X.N[i]? = some x := by rfl) (hv : Vis X.env.scope x := by first | exact Or.inl rfl | exact Or.inr (Or.inl rfl) | exact Or.inr (Or.inr rfl)) (hd : (x == ("__debug__" : Str)) = false := by decide)
    (hcd : (x == ("__classdict__" : Str)) = false := by decide) : PE X (.Name x pos) (tVar i) := pe_var hN hv hd hcd
end
/-! ### tests -/
theorem iteF {A B : Prop} (h : B) : if false = true then A else B := by
  rw [if_neg Bool.false_ne_true]
  exact h
theorem iteT {A B : Prop} (h : A) : if true = true then A else B := by
  rw [if_pos rfl]
  exact h
/-! ### heaps -/
/-- all that was tracked is as it was -/
def Same (H H' : Hp) : Prop := ∀ b o, H b = some o → H' b = some o
theorem Same.refl (H : Hp) : Same H H := fun _ _ h => h
theorem Same.trans {H H1 H2 : Hp} (a : Same H H1) (b : Same H1 H2) : Same H H2 := fun c o h => b c o (a c o h)
theorem Same.free {H H' : Hp} (e : Same H H') {l : Addr} (h : H' l = Option.none) : H l = Option.none := by
  cases q : H l with
  | none => rfl
  | some o =>
    rw [e l o q] at h
    cases h
theorem Same.seq {K : PySem.W.Frag} {H H' : Hp} {a : Addr} {xs : List V} (e : Same H H') (h : SqL K H a xs) : SqL K H' a xs := by
  rcases h with (h | ⟨o, h⟩) | h
  · exact .inl (.inl (e _ _ h))
  · exact .inl (.inr ⟨o, e _ _ h⟩)
  · exact .inr h
end L2
end
section
set_option Elab.async false
set_option linter.all false
set_option maxRecDepth 100000
namespace L2
open PySem PySem.Spec PyProof.Rows
/-! ### lists of pairs as tables -/
section
variable {κ : Type} [DecidableEq κ]
def valV (kvs : List (κ × V)) (k : κ) : Option V := (kvs.find? fun kv => decide (kv.1 = k)).map (·.2)
/-- in its place, or at the end -/
def putK (kvs : List (κ × V)) (k : κ) (v : V) : List (κ × V) :=
  if (kvs.any fun kv => decide (kv.1 = k)) = true then kvs.map (fun kv => if kv.1 = k then (kv.1, v) else kv) else kvs ++ [(k, v)]
def dropK (kvs : List (κ × V)) (k : κ) : List (κ × V) := kvs.filter fun kv => decide (kv.1 ≠ k)
theorem valV_pos {p : κ × V} {r : List (κ × V)} {k : κ} (e : p.1 = k) : valV (p :: r) k = some p.2 := by simp [valV, List.find?_cons, e]
theorem valV_neg {p : κ × V} {r : List (κ × V)} {k : κ} (e : ¬ p.1 = k) : valV (p :: r) k = valV r k := by simp [valV, List.find?_cons, e]
theorem RelO.getD {o : Option V} {u : Option Value} {d : V} {d' : Value} (r : RelO o u) (rd : RelV d d') : RelV (o.getD d) (u.getD d') := by
  cases o with
  | none => cases u with
    | none => exact rd
    | some _ => exact (show False from r).elim
  | some _ => cases u with
    | none => exact (show False from r).elim
    | some _ => exact r
/-- raw tables of the same keys -/
theorem KV.val {kvs : List (κ × V)} {vs : List (κ × Value)} (r : KV kvs vs) (k : κ) : RelO (valV kvs k) (valueAt vs k) := by
  unfold KV at r
  induction r with
  | nil => exact True.intro
  | @cons p q ps qs h t ih =>
    obtain ⟨h1, h2⟩ := h
    by_cases e : p.1 = k
    · have e' : q.1 = k := h1.symm.trans e
      have b : valueAt (q :: qs) k = some q.2 := by simp [valueAt, List.find?_cons, e']
      rw [valV_pos e, b]; exact h2
    · have e' : ¬ q.1 = k := fun z => e (h1.trans z)
      have b : valueAt (q :: qs) k = valueAt qs k := by simp [valueAt, List.find?_cons, e']
      rw [valV_neg e, b]; exact ih
theorem KV.any {kvs : List (κ × V)} {vs : List (κ × Value)} (r : KV kvs vs) (k : κ) : (kvs.any fun kv => decide (kv.1 = k)) = vs.any fun kv => decide (kv.1 = k) := by
  unfold KV at r
  induction r with
  | nil => rfl
  | cons h t ih => rw [List.any_cons, List.any_cons, ih, h.1]
theorem KV.drop {kvs : List (κ × V)} {vs : List (κ × Value)} (r : KV kvs vs) (k : κ) : KV (dropK kvs k) (without vs k) := by
  unfold KV at r ⊢
  unfold dropK without
  induction r with
  | nil => exact .nil
  | @cons p q ps qs h t ih =>
    obtain ⟨h1, h2⟩ := h
    rw [List.filter_cons, List.filter_cons]
    by_cases e : p.1 = k
    · have a : ¬ decide (p.1 ≠ k) = true := by simp [e]
      have b : ¬ decide (q.1 ≠ k) = true := by simp [h1.symm.trans e]
      rw [if_neg a, if_neg b]; exact ih
    · have e' : ¬ q.1 = k := fun z => e (h1.trans z)
      have a : decide (p.1 ≠ k) = true := by simp [e]
      have b : decide (q.1 ≠ k) = true := by simp [e']
      rw [if_pos a, if_pos b]; exact .cons ⟨h1, h2⟩ ih
theorem KV.keys {kvs : List (κ × V)} {vs : List (κ × Value)} (r : KV kvs vs) : kvs.map (·.1) = vs.map (·.1) := by
  unfold KV at r
  induction r with
  | nil => rfl
  | cons h t ih => rw [List.map_cons, List.map_cons, ih, h.1]
theorem KV.length {kvs : List (κ × V)} {vs : List (κ × Value)} (r : KV kvs vs) : kvs.length = vs.length := Paired.length r
end
/-- raw entries of a dict with tuple keys -/
abbrev KT (H : Hp) : List (List Key × V) → List (List Key × Addr × Value) → Prop := Paired fun p q => p.1 = q.1 ∧ H q.2.1 = some (.tup (p.1.map kV)) ∧ RelV p.2 q.2.2
theorem KT.val {H : Hp} {kvs : List (List Key × V)} {xs : List (List Key × Addr × Value)} (r : KT H kvs xs) (k : List Key) : RelO (valV kvs k) ((atKey xs k).map (·.2)) := by
  induction r with
  | nil => exact True.intro
  | @cons p q ps qs h t ih =>
    obtain ⟨h1, _, h2⟩ := h
    by_cases e : p.1 = k
    · have e' : q.1 = k := h1.symm.trans e
      have b : atKey (q :: qs) k = some q.2 := by simp [atKey, List.find?_cons, e']
      rw [valV_pos e, b]; exact h2
    · have e' : ¬ q.1 = k := fun z => e (h1.trans z)
      have b : atKey (q :: qs) k = atKey qs k := by simp [atKey, List.find?_cons, e']
      rw [valV_neg e, b]; exact ih
theorem KT.keeps {H H' : Hp} {kvs : List (List Key × V)} {xs : List (List Key × Addr × Value)} (r : KT H kvs xs) (ht : ∀ b ys, H b = some (.tup ys) → H' b = some (.tup ys)) : KT H' kvs xs :=
  Paired.mapP r fun _ _ z => ⟨z.1, ht _ _ z.2.1, z.2.2⟩
section
variable {P : Program} {w : World} {H : Hp} {h : Heap} {a : Addr}
end
/-- what the dict at a holds at the key y -/
def DGet (H : Hp) (a : Addr) (y : V) (r : Option V) : Prop :=
  (∃ kvs k, Rd H a (.dK kvs) ∧ y = kV k ∧ r = valV kvs k) ∨ ∃ kvs k b, Rd H a (.dT kvs) ∧ y = .ref b ∧ H b = some (.tup (k.map kV)) ∧ r = valV kvs k
/-- the heap behind a[y] = v -/
def DPut (H : Hp) (a : Addr) (y v : V) (H' : Hp) : Prop :=
  (∃ kvs k, H a = some (.dK kvs) ∧ y = kV k ∧ kvs.length < sizeLine ∧ H' = upd H a (.dK (putK kvs k v))) ∨
  ∃ kvs k b, H a = some (.dT kvs) ∧ y = .ref b ∧ H b = some (.tup (k.map kV)) ∧ kvs.length < sizeLine ∧ H' = upd H a (.dT (putK kvs k v))
theorem DGet.k {H : Hp} {a : Addr} {kvs : List (Key × V)} {k : Key} (e : H a = some (.dK kvs)) : DGet H a (kV k) (valV kvs k) := .inl ⟨kvs, k, .inl e, rfl, rfl⟩
theorem DGet.t {H : Hp} {a b : Addr} {kvs : List (List Key × V)} {k : List Key} (e : H a = some (.dT kvs)) (eb : H b = some (.tup (k.map kV))) : DGet H a (.ref b) (valV kvs k) := .inr ⟨kvs, k, b, .inl e, rfl, eb, rfl⟩
theorem DPut.k {H : Hp} {a : Addr} {kvs : List (Key × V)} {k : Key} {v : V} (e : H a = some (.dK kvs)) (hl : kvs.length < sizeLine) : DPut H a (kV k) v (upd H a (.dK (putK kvs k v))) := .inl ⟨kvs, k, e, rfl, hl, rfl⟩
theorem DPut.t {H : Hp} {a b : Addr} {kvs : List (List Key × V)} {k : List Key} {v : V} (e : H a = some (.dT kvs)) (eb : H b = some (.tup (k.map kV))) (hl : kvs.length < sizeLine) :
    DPut H a (.ref b) v (upd H a (.dT (putK kvs k v))) := .inr ⟨kvs, k, b, e, rfl, eb, hl, rfl⟩
section
variable {X : Cx} {pins : List (Addr × Obj)} {σ : St} {H : Hp} {s : Shared} {a : Addr} {y v : V} {u r : Value} {o : Option V} {A : Around} {E : Value → Shared → Prop}
end
section
variable {X : Cx} {pins : List (Addr × Obj)} {σ : St} {H : Hp} {s : Shared} {a : Addr} {kvs : List (Key × V)} {k : Key} {u : Value} {A : Around} {E : Value → Shared → Prop}
end
section
variable {X : Cx} {o i e value : Expr} {pos pos' tpos : Pos} {td ty tv : TE}
end
section
variable {X : Cx} {pos : Pos}
end
/-! ### methods -/
/-- a method call o.m(e) of a built-in, with one argument: what must be seen of the text -/
structure M1 (X : Cx) (o : Expr) (m : Str) (apos : Pos) (e : Expr) (cpos : Pos) : Prop where
  base : attributeBase o m X.env (eval o X.env) = eval o X.env
  few : ((backTo cpos (starEach [e] X.env)).all (fun x => !x.1) && (backToKw cpos (keywordEach [] X.env)).all (fun x => x.1.isSome)
    && decide (([e] : List Expr).length + ([] : List Keyword).length + (if ([] : List Keyword).isEmpty then 0 else 1) < 30)) = true
  line : (apos.endLine == cpos.line) = true
  trees : backTo cpos (starEach [e] X.env) = [(false, eval e X.env)]
structure M2 (X : Cx) (o : Expr) (m : Str) (apos : Pos) (e f : Expr) (cpos : Pos) : Prop where
  base : attributeBase o m X.env (eval o X.env) = eval o X.env
  few : ((backTo cpos (starEach [e, f] X.env)).all (fun x => !x.1) && (backToKw cpos (keywordEach [] X.env)).all (fun x => x.1.isSome)
    && decide (([e, f] : List Expr).length + ([] : List Keyword).length + (if ([] : List Keyword).isEmpty then 0 else 1) < 30)) = true
  line : (apos.endLine == cpos.line) = true
  trees : backTo cpos (starEach [e, f] X.env) = [(false, eval e X.env), (false, eval f X.env)]
section
variable {X : Cx} {pins : List (Addr × Obj)} {σ : St} {H : Hp} {s : Shared} {a : Addr} {y d : V} {u r : Value} {o : Option V} {A : Around} {E : Value → Shared → Prop}
end
section
variable {X : Cx} {o e f : Expr} {apos cpos : Pos} {td ty tx : TE}
end
/-! ### dict(d): a copy -/
section
variable {X : Cx} {pins : List (Addr × Obj)} {σ : St} {H : Hp} {s : Shared} {a : Addr} {kvs : List (Key × V)} {A : Around} {E : Value → Shared → Prop}
end
section
variable {X : Cx} {pins : List (Addr × Obj)} {σ : St} {H : Hp} {s : Shared} {a : Addr} {y : V} {u : Value} {A : Around} {E : Value → Shared → Prop}
end
end L2
namespace L2
open PySem PySem.Spec PyProof.Rows
section
variable {X : Cx}
end
/-! ### a dict's pairs: keys that differ -/
section
variable {κ : Type} [DecidableEq κ]
end
end L2
end
section
set_option Elab.async false
set_option linter.all false
set_option maxRecDepth 100000
set_option maxHeartbeats 4000000
/-! MORE RULES over the hand layer: a method by the class that stands there, isinstance, a class without __init__, a comprehension. -/
namespace L2
open PySem PySem.Spec PyProof.Rows
/-! ### a method, whatever the class -/
/-- every instance of the class at C answers m by a def that keeps sp -/
structure MethAt (P : Program) (w : World) (K : PySem.W.Frag) (mg : Str → Option Value) (base : Bs) (CX : CXT) (k : Nat) (C : Addr) (m : Str) (sp : Sp) : Prop where
  cl : Cls K C
  ex : ∃ (f : Addr) (fd : FuncData) (ps : List Str), Meth K C m f ∧ FnOk P w K mg base CX k f fd ps sp ∧ Binds K fd ps []
theorem MethAt.mono {P : Program} {w : World} {K : PySem.W.Frag} {mg : Str → Option Value} {base : Bs} {CX : CXT} {j k : Nat} {C : Addr} {m : Str} {sp : Sp} (h : MethAt P w K mg base CX j C m sp) (hk : j ≤ k) : MethAt P w K mg base CX k C m sp :=
  ⟨h.cl, let ⟨f, fd, ps, a, b, c⟩ := h.ex; ⟨f, fd, ps, a, b.mono hk, c⟩⟩
section
variable {X : Cx} {CX : CXT} {k : Nat} {E : XK} {m : Str} {pos apos : Pos} {e o : Expr} {es : List Expr} {ta : TE} {t : TA}
def tMethD {ι : Type} (R : ι → Addr) (m : Str) (sp : ι → Sp) (E : XK) (ta : TE) (t : TA) : TE := fun σ H Q => ta σ H fun x H1 => ∃ i a dx fs, x = .ref a ∧ H1 a = some (.ins (R i) dx fs) ∧ fs.lookup m = none ∧
  t σ H1 fun vs H2 => sp i (x :: vs) H2 Q E
theorem pe_methD {ι : Type} {R : ι → Addr} {sp : ι → Sp} {pl : Sem Bool} (he : PE X o ta) (hR : ∀ i, MethAt X.prog X.w X.K X.mg X.base CX k (R i) m (sp i)) (hr : Room k X.A) (hx : Passes CX X E) (ha : PA X (e :: es) t)
    (hst : starEach (e :: es) X.env = (false, eval e X.env) :: starEach es X.env := by rfl) (hpl : (backTo pos (starEach es X.env)).any (·.1) = false := by rfl)
    (ht : eval (.Call (.Attribute o m apos) (e :: es) [] pos) X.env = (do
      let ov ← eval o X.env
      standAt apos.atName
      let (f, first) ← holding [ov] (getMethod ov m pl)
      callWith pos f first (backTo pos (starEach (e :: es) X.env)) (backToKw pos (keywordEach [] X.env))) := by rfl) :
    PE X (.Call (.Attribute o m apos) (e :: es) [] pos) (tMethD R m sp E ta t) := by
  intro pins s σ H Q I h
  refine PySem.W.methodCall_KW (pl := pl) (thn (he pins s σ H _ I h) fun u s1 ⟨x, H1, I1, rx, i, a, dx, fs, ex, ea, l, q⟩ => ?_) ht
  subst ex
  obtain rfl : u = Value.ref a := rx
  obtain ⟨c, f, fd, ps, hm, F, hb⟩ := hR i
  refine getmeth_ok I1 ea c hm l ?_
  refine PySem.W.callWith_K (first := [.ref a]) (h₀ := X.base) I.ok.mod.kin hm.kp (thn (ha pos pins s1 σ H1 _ I1 q) fun us s2 ⟨vs, H2, I2, r, q2⟩ => ⟨I2.kIn, ?_⟩) hst hpl
  exact run_fn (us := .ref a :: us) (vs := .ref a :: vs) (dvs := []) (ds := []) F hr hb .nil hx I2 (.cons rfl r) (by rw [List.append_nil]; exact q2)
theorem pe_methD0 {ι : Type} {R : ι → Addr} {sp : ι → Sp} {pl : Sem Bool} (he : PE X o ta) (hR : ∀ i, MethAt X.prog X.w X.K X.mg X.base CX k (R i) m (sp i)) (hr : Room k X.A) (hx : Passes CX X E)
    (ht : eval (.Call (.Attribute o m apos) [] [] pos) X.env = (do
      let ov ← eval o X.env
      standAt apos.atName
      let (f, first) ← holding [ov] (getMethod ov m pl)
      callWith pos f first (backTo pos (starEach [] X.env)) (backToKw pos (keywordEach [] X.env))) := by rfl) :
    PE X (.Call (.Attribute o m apos) [] [] pos) (tMethD R m sp E ta tNil) := by
  intro pins s σ H Q I h
  refine PySem.W.methodCall_KW (pl := pl) (thn (he pins s σ H _ I h) fun u s1 ⟨x, H1, I1, rx, i, a, dx, fs, ex, ea, l, q⟩ => ?_) ht
  subst ex
  obtain rfl : u = Value.ref a := rx
  obtain ⟨c, f, fd, ps, hm, F, hb⟩ := hR i
  refine getmeth_ok I1 ea c hm l ?_
  exact PySem.W.callWith_K0 (first := [.ref a]) I1.kIn hm.kp (run_fn (us := [.ref a]) (vs := [.ref a]) (dvs := []) (ds := []) F hr hb .nil hx I1 (.cons rfl .nil) (by rw [List.append_nil]; exact q))
end
/-! ### isinstance -/
section
variable {X : Cx}
end
/-! ### a class that has no __init__ of its own -/
structure Mk0 (K : PySem.W.Frag) (C : Addr) : Prop where
  makes : PySem.W.makesIn K C = true
  init : PySem.W.findIn K (.ref C) "__init__" = some (some (.builtin "object.__init__"))
  kp : PySem.W.keepIn K (.ref C) = true
section
variable {X : Cx} {C : Addr} {x : Str} {p pos : Pos}
def tMake0 (C : Addr) : TE := fun _ H Q => ∀ x dx, H x = none → H dx = none → dx ≠ x → Q (.ref x) (upd (upd H dx (.own x)) x (.ins C dx []))
theorem run_make0 {pins : List (Addr × Obj)} {σ : St} {H : Hp} {s : Shared} {Q : VK} (M : Mk0 X.K C) (I : Inv X pins σ H s)
    (h : ∀ x dx, H x = none → H dx = none → dx ≠ x → Q (.ref x) (upd (upd H dx (.own x)) x (.ins C dx []))) :
    wpAny (model X.prog X.w) X.A (call (.ref C) []) (EP X pins σ Q) X.xe s := by
  have hq := h (s.heap.objs.size + 1) s.heap.objs.size (I.hok.fresh (Nat.le_succ _)) (I.hok.fresh (Nat.le_refl _)) (Nat.ne_of_lt (Nat.lt_succ_self _))
  have I2 := Inv.made (C := C) I
  have Y := PySem.W.makes_of (M := model X.prog X.w) I.kIn M.makes
  refine wpAny_call (make_map0 I.kIn M.makes M.init (fun self => PySem.W.Looks.of_pure (PySem.W.oi_bind self)) ?_)
  have e2 : ((s.heap.push PySem.W.emptyDict).push (PySem.W.instObj C s.heap.objs.size)).get? (s.heap.objs.size + 1) = some (PySem.W.instObj C s.heap.objs.size) := by
    have := Heap.get?_push_size (s.heap.push PySem.W.emptyDict) (o := PySem.W.instObj C s.heap.objs.size) rfl
    rwa [Heap.size_push] at this
  have t1 : PySem.W.Looks (model X.prog X.w) ((s.heap.push PySem.W.emptyDict).push (PySem.W.instObj C s.heap.objs.size)) (typeOf (.ref (s.heap.objs.size + 1))) (.ref C) := (PySem.W.Looks.ld e2).andThen .now
  have t2 : PySem.W.Looks (model X.prog X.w) ((s.heap.push PySem.W.emptyDict).push (PySem.W.instObj C s.heap.objs.size)) (isInstance (.ref (s.heap.objs.size + 1)) (.type "object")) true := t1.andThen (Y.top.keeps fun b o e => Heap.get?_push_of_some _ (Heap.get?_push_of_some _ e))
  refine codeAny_call_builtin PySem.W.oi_plain PySem.W.entry_oi (@PySem.W.check_slot (model X.prog X.w) _ _ _ "object.__init__" "object" "__init__" (.ref (s.heap.objs.size + 1)) [] [] _ PySem.W.oi_kind PySem.W.oi_split t2 (PySem.W.oi_args (.ref (s.heap.objs.size + 1))) ?_)
  rw [PySem.W.oi_run]
  exact wpAny_pure (And.intro rfl ⟨V.ref (s.heap.objs.size + 1), _, I2, rfl, hq⟩)
theorem pe_make00 (M : Mk0 X.K C) (hg : Gl X x) (hm : X.mg x = some (.ref C)) (hdb : (x == ("__debug__" : Str)) = false := by decide) : PE X (.Call (.Name x p) [] [] pos) (tMake0 C) := by
  intro pins s σ H Q I h
  refine wpAny_Call_Name_kw (ld_glob I hg hm ?_ hdb)
  exact PySem.W.callWith_K0 I.kIn M.kp (run_make0 M I h)
end
/-! ### a comprehension -/
/-- the cells of the free names, as closureFor lays them -/
def clos (env : Env) : List (Str × NameKind) → List (Str × Addr) → List (Str × Addr)
  | [], cs => cs
  | (n, k) :: r, cs => clos env r (if k == .free then (match env.cells.lookup n with | some a => (n, a) :: cs | none => cs) else cs)
theorem clos_sub {env : Env} {x : Str} {c : Addr} : ∀ {ns : List (Str × NameKind)} {cs : List (Str × Addr)}, (clos env ns cs).lookup x = some c → cs.lookup x = some c ∨ env.cells.lookup x = some c
  | [], cs, h => .inl h
  | (n, k) :: r, cs, h => by
    have ih := clos_sub (ns := r) h
    rcases ih with ih | ih
    · by_cases hk : (k == NameKind.free) = true
      · rw [if_pos hk] at ih
        cases e : env.cells.lookup n with
        | none => rw [e] at ih; exact .inl ih
        | some a =>
          rw [e] at ih
          by_cases hx : x == n
          · have hx' : x = n := by simpa using hx
            subst hx'
            simp at ih
            subst ih
            exact .inr e
          · simp only [List.lookup_cons, hx] at ih
            exact .inl ih
      · rw [if_neg hk] at ih
        exact .inl ih
    · exact .inr ih
theorem clos_keeps {env : Env} {x : Str} {c : Addr} (hc : env.cells.lookup x = some c) : ∀ {ns : List (Str × NameKind)} {cs : List (Str × Addr)}, cs.lookup x = some c → (clos env ns cs).lookup x = some c
  | [], cs, h => h
  | (n, k) :: r, cs, h => by
    refine clos_keeps hc (ns := r) ?_
    by_cases hk : (k == NameKind.free) = true
    · rw [if_pos hk]
      cases e : env.cells.lookup n with
      | none => exact h
      | some a =>
        by_cases hx : x == n
        · have hx' : x = n := by simpa using hx
          subst hx'
          rw [hc] at e
          cases e
          simp
        · simp only [List.lookup_cons, hx]
          exact h
    · rw [if_neg hk]
      exact h
theorem clos_has {env : Env} {x : Str} {c : Addr} (hc : env.cells.lookup x = some c) : ∀ {ns : List (Str × NameKind)} {cs : List (Str × Addr)}, (x, NameKind.free) ∈ ns → (clos env ns cs).lookup x = some c
  | [], cs, h => by simp at h
  | (n, k) :: r, cs, h => by
    rcases List.mem_cons.mp h with h | h
    · cases h
      refine clos_keeps hc (ns := r) ?_
      simp [hc]
    · exact clos_has hc (ns := r) h
theorem relabel_cell {scope : Scope} {env : Env} {x : Str} : ∀ {ns : List (Str × NameKind)} {k : NameKind},
    (ns.map fun (n, k) => if (k == NameKind.free && env.scope.kind == .function && env.kindOf n == some .cell) then (n, NameKind.cell) else (n, k)).lookup x = some k → (k = .cell ∨ k = .free) → (∀ y ∈ ns, y.2 ≠ .cell) → (x, NameKind.free) ∈ ns
  | [], _, h, _, _ => by simp at h
  | (n, j) :: r, k, h, hk, nc => by
    by_cases hx : x == n
    · have hx' : x = n := by simpa using hx
      subst hx'
      have hj : j ≠ .cell := nc _ List.mem_cons_self
      by_cases hc : (j == NameKind.free && env.scope.kind == .function && env.kindOf x == some .cell) = true
      · have : j = .free := by
          have := (Bool.and_eq_true_iff.mp (Bool.and_eq_true_iff.mp hc).1).1
          simpa using this
        subst this
        exact List.mem_cons_self
      · simp only [List.map_cons, hc, if_neg, Bool.false_eq_true, not_false_eq_true, List.lookup_cons, beq_self_eq_true] at h
        have : j = k := by simpa using h
        subst this
        rcases hk with hk | hk
        · exact absurd hk hj
        · subst hk; exact List.mem_cons_self
    · refine List.mem_cons_of_mem _ (relabel_cell (scope := scope) (env := env) (ns := r) (k := k) ?_ hk fun y hy => nc y (List.mem_cons_of_mem _ hy))
      simp only [List.map_cons] at h
      by_cases hc : (j == NameKind.free && env.scope.kind == .function && env.kindOf n == some .cell) = true
      · rw [if_pos hc] at h
        simpa only [List.lookup_cons, hx] using h
      · rw [if_neg hc] at h
        simpa only [List.lookup_cons, hx] using h
theorem relabel_free {env : Env} {x : Str} : ∀ {ns : List (Str × NameKind)}, ns.lookup x = some .free →
    (ns.map fun (n, k) => if (k == NameKind.free && env.scope.kind == .function && env.kindOf n == some .cell) then (n, NameKind.cell) else (n, k)).lookup x = some .cell ∨
    (ns.map fun (n, k) => if (k == NameKind.free && env.scope.kind == .function && env.kindOf n == some .cell) then (n, NameKind.cell) else (n, k)).lookup x = some .free
  | [], h => by simp at h
  | (n, j) :: r, h => by
    by_cases hx : x == n
    · have hx' : x = n := by simpa using hx
      subst hx'
      have : j = .free := by simpa using h
      subst this
      by_cases hc : (NameKind.free == NameKind.free && env.scope.kind == .function && env.kindOf x == some .cell) = true
      · left; simp only [List.map_cons]; rw [if_pos hc]; simp
      · right; simp only [List.map_cons]; rw [if_neg hc]; simp
    · have h' : r.lookup x = some .free := by simpa only [List.lookup_cons, hx] using h
      have ih := relabel_free (env := env) (ns := r) h'
      simp only [List.map_cons]
      by_cases hc : (j == NameKind.free && env.scope.kind == .function && env.kindOf n == some .cell) = true
      · rw [if_pos hc]; simpa only [List.lookup_cons, hx] using ih
      · rw [if_neg hc]; simpa only [List.lookup_cons, hx] using ih
end L2
end
section
set_option Elab.async false
set_option linter.all false
set_option maxRecDepth 100000
set_option maxHeartbeats 4000000
namespace L2
open PySem PySem.Spec PyProof.Rows
/-- a comprehension's block: own names, then the captured ones -/
abbrev cxB (X : Cx) (scope : Scope) (C : Addr) (N' : List Str) (s₀ : Shared) (H₀ : Hp) (fp : List Addr) : Cx :=
  { X with N := N', s₀ := s₀, H₀ := H₀, env := compEnvC scope (clos X.env scope.names []) C X.env, outer := X.stack, stack := X.stack, ex := fp, fn := fun _ => false, cw := fun _ => false, pn := [], xe := fun _ _ => False }
/-- the captured names: where they stand in X -/
def CapsOk (X : Cx) (scope : Scope) : List (Str × Nat) → Prop
  | [] => True
  | p :: r => (scope.names.lookup p.1 = some .free ∧ X.N[p.2]? = some p.1 ∧ (X.env.scope.names.lookup p.1 = some .cell ∨ X.env.scope.names.lookup p.1 = some .free)) ∧ CapsOk X scope r
theorem CapsOk.mem {X : Cx} {scope : Scope} : ∀ {l : List (Str × Nat)}, CapsOk X scope l → ∀ p ∈ l, scope.names.lookup p.1 = some .free ∧ X.N[p.2]? = some p.1 ∧ (X.env.scope.names.lookup p.1 = some .cell ∨ X.env.scope.names.lookup p.1 = some .free)
  | [], _, p, h => by simp at h
  | q :: r, h, p, hp => by
    rcases List.mem_cons.mp hp with e | e
    · rw [e]; exact h.1
    · exact CapsOk.mem h.2 p e
/-- every free name of the block is a cell's here -/
def FreesOk (X : Cx) (names : List (Str × NameKind)) : Prop := (names.all fun y => y.2 != .free || X.env.scope.names.lookup y.1 == some .cell || X.env.scope.names.lookup y.1 == some .free) = true
theorem FreesOk.mem {X : Cx} {l : List (Str × NameKind)} (h : FreesOk X l) : ∀ y ∈ l, y.2 = .free → (X.env.scope.names.lookup y.1 = some .cell ∨ X.env.scope.names.lookup y.1 = some .free) := fun y hy e => by
  have q := List.all_eq_true.mp h y hy
  rw [e] at q
  have q' : ((X.env.scope.names.lookup y.1 == some .cell) || (X.env.scope.names.lookup y.1 == some .free)) = true := q
  rcases Bool.or_eq_true_iff.mp q' with z | z
  · exact .inl (eq_of_beq z)
  · exact .inr (eq_of_beq z)
structure CompScope (X : Cx) (scope : Scope) (own : List Str) (caps : List (Str × Nat)) : Prop where
  kind : scope.kind = .function
  nocell : ∀ y ∈ scope.names, y.2 ≠ .cell
  names : ∀ y ∈ scope.names, y.2 = .local → scope.names.lookup y.1 = some .local
  caps : CapsOk X scope caps
  frees : FreesOk X scope.names
abbrev capN (own : List Str) (caps : List (Str × Nat)) : List Str := own ++ caps.map (·.1)
abbrev capS (own : List Str) (caps : List (Str × Nat)) (σ : St) : St := List.replicate own.length none ++ caps.map fun p => (σ[p.2]?).getD none
section
variable {X : Cx} {pins : List (Addr × Obj)} {σ : St} {H : Hp} {s s1 : Shared} {scope : Scope} {own : List Str} {caps : List (Str × Nat)} {fp : List Addr}
theorem Inv.block {h1 : Heap} {tk : Nat} (I : Inv X pins σ H s) (S : CompScope X scope own caps) (hf : ∀ b ∈ fp, FpOk X pins H b)
    (hns : h1.Ns s.heap.objs.size fun _ => none) (hk : ∀ b o, s.heap.get? b = some o → h1.get? b = some o) (hfl : ∀ b ∈ fp, b < s.heap.objs.size) :
    Inv (cxB X scope s.heap.objs.size (capN own caps) s H fp) [] (capS own caps σ) H { s with heap := h1, toks := tk } := by
  have hfree : ∀ y ∈ scope.names, y.2 = .free → ∃ c, X.env.cells.lookup y.1 = some c := fun y hy e => I.ok.has _ (S.frees.mem y hy e)
  have sub : ∀ x c, (clos X.env scope.names []).lookup x = some c → X.env.cells.lookup x = some c := fun x c e => by
    rcases clos_sub e with z | z
    · simp at z
    · exact z
  have celT : ∀ {c : Addr} {v : Option Value}, s.heap.IsCell c v → h1.IsCell c v := fun {c v} ⟨o, ho, hd⟩ => ⟨o, hk _ _ ho, hd⟩
  refine ⟨⟨I.ok.mod, ?_, I.ok.glob, I.ok.blt, Nat.le_refl _, fun y z c e1 e2 => I.ok.inj y z c (sub _ _ e1) (sub _ _ e2), fun y hy => ?_, (fun y c e => (nomatch e)), I.ok.hd, I.ok.frames, .inl rfl, fun b hb => ⟨Nat.ne_of_lt (hfl b hb), fun x c e => (hf b hb).2.2.2.2.1 x c (sub x c e)⟩,
      I.bs, Nat.le_trans I.ok.bsz I.sz, fun b o e hb => ?_, fun b hb z => ?_, I.stack, I.stkFree, fun P z => I.base.tbls P 0 (I.ok.tab P z), fun _ z => z⟩,
    rfl, I.bare, Un.kept hk, ⟨_, hns, fun i y v e1 e2 e3 => ?_⟩, fun y c e => ?_, I.hok.fresh (Nat.le_refl _), fun y c e => (I.freeC y c (sub y c e)).imp id fun ⟨_, z⟩ => ⟨rfl, z⟩, fun p hp => absurd (show p ∈ ([] : List (Addr × Obj)) from hp) (by simp), I.hok.kept hk, ?_⟩
  · exact S.kind
  · have hy : (relabel scope X.env).names.lookup y = some .cell ∨ (relabel scope X.env).names.lookup y = some .free := hy
    have m : (y, NameKind.free) ∈ scope.names := by
      rcases hy with z | z
      · exact relabel_cell (scope := scope) (env := X.env) z (.inl rfl) S.nocell
      · exact relabel_cell (scope := scope) (env := X.env) z (.inr rfl) S.nocell
    obtain ⟨c, e⟩ := hfree _ m rfl
    exact ⟨c, clos_has e m⟩
  · rcases (hf b hb).2.2.2.1 with z | z
    · exact I.ok.noex b o e z
    · exact absurd (Nat.lt_of_lt_of_le (Heap.lt_size e) (Nat.le_trans I.ok.bsz z)) (Nat.lt_irrefl _)
  · rcases List.mem_cons.mp (I.stkSub b z) with q | q
    · exact (hf b hb).2.1 q
    · exact (hf b hb).2.2.1 q
  · -- a captured name
    have hi : own.length ≤ i := by
      rcases Nat.lt_or_ge i own.length with q | q
      · rw [List.getElem?_append_left (by simpa using q), List.getElem?_replicate, if_pos q] at e2
        cases e2
      · exact q
    rw [List.getElem?_append_right hi, List.getElem?_map] at e1
    rw [List.getElem?_append_right (by simpa using hi), List.length_replicate, List.getElem?_map] at e2
    cases ep : caps[i - own.length]? with
    | none => rw [ep] at e1; cases e1
    | some p =>
      rw [ep] at e1 e2
      have ey : p.1 = y := Option.some.inj e1
      subst ey
      obtain ⟨f1, f2, f3⟩ := S.caps.mem p (List.mem_of_getElem? ep)
      have eσ : σ[p.2]? = some (some v) := by
        have e2' : (σ[p.2]?).getD none = some v := Option.some.inj e2
        cases q : σ[p.2]? with
        | none => rw [q] at e2'; cases e2'
        | some o => rw [q] at e2'; exact congrArg some e2'
      obtain ⟨m, _, hl⟩ := I.loc
      obtain ⟨u, ru, L⟩ := hl p.2 p.1 v f2 eσ (f3.elim (fun z => .inr (.inl z)) fun z => .inr (.inr z))
      refine ⟨u, ru, .inr ⟨relabel_free f1, ?_⟩⟩
      rcases L with ⟨L, _⟩ | ⟨_, c, e, ic⟩
      · have L : X.env.scope.names.lookup p.1 = some .local := L
        rcases f3 with z | z <;> (rw [z] at L; cases L)
      · exact ⟨c, clos_has e (PySem.mem_of_lookup f1), celT ic⟩
  · obtain ⟨v, z⟩ := I.cell y c (sub y c e)
    exact ⟨v, celT z⟩
  · show (capS own caps σ).length = (capN own caps).length
    simp
end
end L2
end
section
set_option Elab.async false
set_option linter.all false
set_option maxRecDepth 100000
set_option maxHeartbeats 4000000
namespace L2
open PySem PySem.Spec PyProof.Rows
/-! ### plain data: flat values and tuples of plain data -/
inductive D where
  | at (v : V)
  | tup (ds : List D)
mutual
def DatAt (K : PySem.W.Frag) (H : Hp) : D → V → Prop
  | .at x, v => v = x ∧ flatV x = true
  | .tup ds, v => ∃ a xs, v = .ref a ∧ SqT K H a xs ∧ DatsAt K H ds xs
def DatsAt (K : PySem.W.Frag) (H : Hp) : List D → List V → Prop
  | [], xs => xs = []
  | d :: ds, xs => ∃ x r, xs = x :: r ∧ DatAt K H d x ∧ DatsAt K H ds r
end
mutual
def D.depth : D → Nat
  | .at _ => 0
  | .tup ds => depths ds + 1
def depths : List D → Nat
  | [] => 0
  | d :: ds => max d.depth (depths ds)
end
theorem Same.tup {K : PySem.W.Frag} {H H' : Hp} {a : Addr} {xs : List V} (e : Same H H') (h : SqT K H a xs) : SqT K H' a xs := by
  rcases h with (h | ⟨o, h⟩) | h
  · exact .inl (.inl (e _ _ h))
  · exact .inl (.inr ⟨o, e _ _ h⟩)
  · exact .inr h
mutual
theorem DatAt.same {K : PySem.W.Frag} {H H' : Hp} (e : Same H H') : ∀ {d : D} {v : V}, DatAt K H d v → DatAt K H' d v
  | .at x, v, h => h
  | .tup ds, v, h => by
    obtain ⟨a, xs, e1, e2, e3⟩ := h
    exact ⟨a, xs, e1, e.tup e2, DatsAt.same e e3⟩
theorem DatsAt.same {K : PySem.W.Frag} {H H' : Hp} (e : Same H H') : ∀ {ds : List D} {xs : List V}, DatsAt K H ds xs → DatsAt K H' ds xs
  | [], xs, h => h
  | d :: ds, xs, h => by
    obtain ⟨x, r, e1, e2, e3⟩ := h
    exact ⟨x, r, e1, DatAt.same e e2, DatsAt.same e e3⟩
end
section
variable {X : Cx} {pins : List (Addr × Obj)} {σ : St} {H : Hp} {s : Shared}
end
end L2
end
section
set_option Elab.async false
set_option linter.all false
set_option maxRecDepth 100000
set_option maxHeartbeats 4000000
namespace PySem.SeqAt
open AutoSeq1 (wpAny_loadPart')
open MeetsSeq MeetsSeq2 MeetsSeq3 SeqRoads2
theorem wpAny_forIn_upto {M : Model} {A : Around} {E : Value → Shared → Prop} {s : Shared} {β : Type} {n : Nat} (f : Nat → β → Sem (ForInStep β)) (I : Nat → β → Shared → Prop) (Q : β → Shared → Prop)
    (turn : ∀ i b s, i < n → I i b s → wpAny M A (f i b) (fun r s' => match r with | .yield b' => I (i + 1) b' s' | .done b' => Q b' s') E s)
    (fin : ∀ b s, I n b s → Q b s) (b : β) (h : I 0 b s) : wpAny M A (forIn ([:n] : Std.Legacy.Range) b f) Q E s := by
  rw [Std.Legacy.Range.forIn_eq_forIn_range']
  simp only [Std.Legacy.Range.size, Nat.sub_zero, Nat.add_sub_cancel, Nat.div_one]
  refine wpAny_forIn_list f (fun rest b s' => ∃ i, rest = List.range' i (n - i) ∧ i ≤ n ∧ I i b s') Q ?_ ?_ _ _ ⟨0, by simp, Nat.zero_le _, h⟩
  · rintro x rest b s' ⟨i, hr, hi, hI⟩
    have hlt : i < n := by
      rcases Nat.lt_or_ge i n with q | q
      · exact q
      · rw [Nat.sub_eq_zero_of_le q] at hr; simp at hr
    obtain ⟨rfl, hrest⟩ : x = i ∧ rest = List.range' (i + 1) (n - (i + 1)) := by
      rw [show n - i = (n - (i + 1)) + 1 by omega, List.range'_succ] at hr
      injection hr with h1 h2
      exact ⟨h1, h2⟩
    refine wpAny_mono (turn x b s' hlt hI) (fun r s2 hr2 => ?_) fun _ _ z => z
    cases r with
    | done b' => exact hr2
    | yield b' => exact ⟨x + 1, hrest, hlt, hr2⟩
  · rintro b s' ⟨i, hr, hi, hI⟩
    have : i = n := by
      rcases Nat.lt_or_ge i n with q | q
      · rw [show n - i = (n - (i + 1)) + 1 by omega, List.range'_succ] at hr; cases hr
      · omega
    subst this
    exact fin _ _ hI
theorem tuple_indexAt (l : Addr) (items : Array Value) (n : Nat) (dd : Option Addr) (sl : Array (Option Value)) (x : Value) (e : Value → Bool) (j : Nat) (hj : j < items.size)
    (hit : e items[j] = true) (hno : ∀ m (hm : m < items.size), m < j → e items[m] = false) :
    Meets (Builtin.«tuple.index» ⟨[.ref l, x], []⟩)
      (fun A R s => s.heap.get? l = some { cls := .type "tuple", dict := dd, data := .seq items n, slots := sl } ∧ (∀ y, y ∈ items → EqAt A.in1 s y x (e y)) ∧ R (.ok (.ret (.int j s.toks))) { s with toks := s.toks + 1 }) :=
  .of_wp fun prog w A R s h => by
    obtain ⟨hp, g, d, tk, os⟩ := s; obtain ⟨hl, he, h⟩ := h
    wp_walk using wpAny_loadPart' hl, wpAny_forIn_upto (n := min items.size items.size) _ (fun i b s' => b.1 = none ∧ i ≤ j ∧ s' = ⟨hp, g, d, tk, os⟩) _
    case turn =>
      rintro i b s' hi ⟨hb, hij, rfl⟩
      have hi' : i < items.size := by omega
      rw [Array.getElem?_eq_getElem hi']
      refine wpAny_bind (he _ (Array.getElem_mem hi') prog w _ _ ?_)
      by_cases ij : i = j
      · subst ij
        rw [hit]
        wp_walk
        exact ⟨_, rfl, h⟩
      · rw [hno i hi' (by omega)]
        wp_walk
        exact ⟨rfl, by omega, rfl⟩
    case fin =>
      rintro b s' ⟨hb, hij, rfl⟩
      omega
    case h =>
      exact ⟨rfl, Nat.zero_le _, rfl⟩
end PySem.SeqAt
namespace L2
open PySem PySem.Spec PyProof.Rows
section
variable {X : Cx}
def rIndexT (K : PySem.W.Frag) : V → List V → Hp → VK → Prop := fun x vs H Q => ∃ a xs y j z, x = .ref a ∧ vs = [y] ∧ SqT K H a xs ∧ flatV y = true ∧ xs.all flatV = true ∧ xs[j]? = some z ∧ eqV z y = true ∧ (∀ i z, i < j → xs[i]? = some z → eqV z y = false) ∧ Q (.int (j : Nat)) H
theorem mt_indexT : MtR X "tuple.index" (rIndexT X.K) := by
  intro pins s σ H x vs v us Q I rx rv h
  obtain ⟨a, xs, y, j, z, rfl, rfl, hS, fy, fs, ej, ez, hno, q⟩ := h
  obtain rfl : v = Value.ref a := rx
  obtain ⟨u, rfl, ru⟩ := rv.one
  obtain ⟨its, r, pl, _⟩ := I.tuple hS
  have eqs := mem_eqAt (A := X.A.in1) (s := s) ru fy r fs
  obtain ⟨w, ew, rw'⟩ := r.get ej
  have hj : j < its.length := (List.getElem?_eq_some_iff.mp ew).1
  obtain ⟨ob, eo, hc, nn, hd⟩ := pl
  obtain ⟨cls, dd, data, sl⟩ := ob
  simp only at hc hd
  subst hc hd
  have flat_at : ∀ {i : Nat} {z : V}, xs[i]? = some z → flatV z = true := fun {i z} e => by
    exact List.all_eq_true.mp fs z (List.mem_of_getElem? e)
  refine call_meets F.slot_tuple_index ⟨_, eo, rfl⟩ F.entry_tuple_index (F.args_tuple_index_2 _ _) (SeqAt.tuple_indexAt a its.toArray nn dd sl u (eqU y) j (by simpa using hj) ?_ ?_) ⟨eo, fun w hw => eqs w (by simpa using hw), ?_⟩
  · have : its[j] = w := (List.getElem?_eq_some_iff.mp ew).2
    show eqU y its[j] = true
    rw [this, eqU_of rw' (flat_at ej)]
    exact ez
  · intro m hm hmj
    have hm' : m < its.length := by simpa using hm
    have hx : m < xs.length := by rw [r.length]; exact hm'
    obtain ⟨w', ew', r'⟩ := r.get (List.getElem?_eq_getElem hx)
    have : its[m] = w' := (List.getElem?_eq_some_iff.mp ew').2
    show eqU y its[m] = false
    rw [this, eqU_of r' (flat_at (List.getElem?_eq_getElem hx))]
    exact hno m _ hmj (List.getElem?_eq_getElem hx)
  · exact ⟨.int (j : Nat), H, I.tok _, ⟨_, rfl⟩, q⟩
end
end L2
end
section
set_option Elab.async false
set_option linter.all false
set_option maxRecDepth 100000
set_option maxHeartbeats 4000000
namespace L2
open PySem PySem.Spec PyProof.Rows
/-! ### a def of the text by its name and its promise -/
structure FnAt (P : Program) (w : World) (K : PySem.W.Frag) (mg : Str → Option Value) (base : Bs) (CX : CXT) (k : Nat) (x : Str) (sp : Sp) : Prop where
  ex : ∃ (f : Addr) (fd : FuncData) (ps : List Str), mg x = some (.ref f) ∧ PySem.W.keepIn K (.ref f) = true ∧ FnOk P w K mg base CX k f fd ps sp ∧ Binds K fd ps []
theorem FnAt.mono {P : Program} {w : World} {K : PySem.W.Frag} {mg : Str → Option Value} {base : Bs} {CX : CXT} {j k : Nat} {x : Str} {sp : Sp} (h : FnAt P w K mg base CX j x sp) (hk : j ≤ k) : FnAt P w K mg base CX k x sp :=
  ⟨let ⟨f, fd, ps, a, b, c, d⟩ := h.ex; ⟨f, fd, ps, a, b, c.mono hk, d⟩⟩
theorem FnAt.imp {P : Program} {w : World} {K : PySem.W.Frag} {mg : Str → Option Value} {base : Bs} {CX : CXT} {k : Nat} {x : Str} {sp sp' : Sp} (h : FnAt P w K mg base CX k x sp) (hs : ∀ vs H Q E, sp' vs H Q E → sp vs H Q E) : FnAt P w K mg base CX k x sp' :=
  ⟨let ⟨f, fd, ps, a, b, c, d⟩ := h.ex; ⟨f, fd, ps, a, b, c.imp hs, d⟩⟩
def tFn (sp : Sp) (E : XK) (t : TA) : TE := fun σ H Q => t σ H fun vs H1 => sp vs H1 Q E
section
variable {X : Cx} {CX : CXT} {k : Nat} {sp : Sp} {E : XK} {x : Str} {p pos : Pos} {e : Expr} {es : List Expr} {t : TA}
theorem pe_fn (h : FnAt X.prog X.w X.K X.mg X.base CX k x sp) (hr : Room k X.A) (hg : Gl X x) (hx : Passes CX X E) (ha : PA X (e :: es) t) (hdb : (x == ("__debug__" : Str)) = false := by decide)
    (he : starEach (e :: es) X.env = (false, eval e X.env) :: starEach es X.env := by rfl) (hpl : (backTo pos (starEach es X.env)).any (·.1) = false := by rfl) : PE X (.Call (.Name x p) (e :: es) [] pos) (tFn sp E t) := by
  obtain ⟨f, fd, ps, hm, hk, F, hb⟩ := h.ex
  intro pins s σ H Q I hq
  refine pe_call (dvs := []) (ds := []) F hr hg hm hk hb .nil hx ha hdb he hpl pins s σ H Q I ?_
  have e0 : (fun (vs : List V) (H1 : Hp) => sp (vs ++ []) H1 Q E) = fun vs H1 => sp vs H1 Q E := by funext vs H1; rw [List.append_nil]
  show t σ H (fun vs H1 => sp (vs ++ []) H1 Q E)
  rw [e0]
  exact hq
end
/-- a class or an object of the top -/
theorem pe_globR {X : Cx} {x : Str} {a : Addr} {pos : Pos} (hg : Gl X x) (hm : X.mg x = some (.ref a)) (hd : (x == ("__debug__" : Str)) = false := by decide) : PE X (.Name x pos) (tC (.ref a)) := pe_glob (v := .ref a) hg hm rfl hd
/-- a tuple of the top -/
def TopT (K : PySem.W.Frag) (a : Addr) (xs : List V) : Prop := ∃ (o : Obj) (its : Array Value) (n : Nat), K.lookup a = some o ∧ o.cls = .type "tuple" ∧ o.dict = none ∧ o.data = .seq its n ∧ its.size ≤ sizeLine ∧ Vals xs its.toList
theorem TopT.sq {K : PySem.W.Frag} {a : Addr} {xs : List V} (h : TopT K a xs) (H : Hp) : SqT K H a xs := let ⟨o, its, n, h1, h2, _, h3, h4, h5⟩ := h; .inr ⟨o, its, n, h1, h2, h3, h4, h5⟩
theorem TopT.ty {K : PySem.W.Frag} {a : Addr} {xs : List V} (h : TopT K a xs) (H : Hp) : tyV K "tuple" (.ref a) H := let ⟨o, its, n, h1, h2, h0, h3, h4, h5⟩ := h; .inr (.inl ⟨rfl, o, h1, h2, h0⟩)
/-! ### a new instance whose __init__ stores its arguments -/
def newI (H : Hp) (x dx C : Addr) (fs : List (Str × V)) : Hp := upd (upd H dx (.own x)) x (.ins C dx fs)
theorem newI_at {H : Hp} {x dx C : Addr} {fs : List (Str × V)} : newI H x dx C fs x = some (.ins C dx fs) := upd_same
theorem newI_same {H : Hp} {x dx C : Addr} {fs : List (Str × V)} (hx : H x = none) (hd : H dx = none) : Same H (newI H x dx C fs) := fun b o e => by
  unfold newI
  rw [upd_ne (ne_of_none e hx), upd_ne (ne_of_none e hd)]
  exact e
theorem same_upd {H : Hp} {p : Addr} (h : H p = none) (o : HO) : Same H (upd H p o) := fun b u q => by rw [upd_ne (ne_of_none q h)]; exact q
def tNew (C : Addr) (fs : List Str) (t : TA) : TE := fun σ H Q => t σ H fun vs H1 => vs.length = fs.length ∧ ∀ x dx, H1 x = none → H1 dx = none → dx ≠ x → Q (.ref x) (newI H1 x dx C (fs.zip vs))
def spNew (C : Addr) (fs : List Str) : Sp := fun vs H Q _ => ∃ p dx r, vs = .ref p :: r ∧ r.length = fs.length ∧ H p = some (.ins C dx []) ∧ Q .non (upd H p (.ins C dx (fs.zip r)))
structure NewAt (P : Program) (w : World) (K : PySem.W.Frag) (mg : Str → Option Value) (base : Bs) (x : Str) (C : Addr) (fs : List Str) : Prop where
  glob : mg x = some (.ref C)
  cl : Cls K C
  ex : ∃ (f : Addr) (fd : FuncData) (ps : List Str), Mk K C f ∧ FnOk P w K mg base CX0 1 f fd ps (spNew C fs) ∧ Binds K fd ps []
section
variable {X : Cx} {C : Addr} {fs : List Str} {x : Str} {p pos : Pos} {e : Expr} {es : List Expr} {t : TA} {k : Nat}
theorem pe_new (h : NewAt X.prog X.w X.K X.mg X.base x C fs) (hr : Room (k + 2) X.A) (hg : Gl X x) (ha : PA X (e :: es) t) (hdb : (x == ("__debug__" : Str)) = false := by decide)
    (he : starEach (e :: es) X.env = (false, eval e X.env) :: starEach es X.env := by rfl) (hpl : (backTo pos (starEach es X.env)).any (·.1) = false := by rfl) : PE X (.Call (.Name x p) (e :: es) [] pos) (tNew C fs t) := by
  obtain ⟨f, fd, ps, M, F, hb⟩ := h.ex
  intro pins s σ H Q I hq
  refine wpAny_Call_Name_kw (ld_glob I hg h.glob ?_ hdb)
  refine PySem.W.callWith_K (h₀ := X.base) I.ok.mod.kin M.kp (thn (ha pos pins s σ H _ I hq) fun us s1 ⟨vs, H1, I1, r, hl, q⟩ => ⟨I1.kIn, ?_⟩) he hpl
  refine run_make (dvs := []) (ds := []) (E := E0) M F (hr.mono (Nat.le_add_left 2 k)) hb .nil pass0 I1 r fun x dx n1 n2 ne => ?_
  refine ⟨x, dx, vs ++ [], rfl, by rw [List.append_nil]; exact hl, upd_same, rfl, ?_⟩
  rw [List.append_nil, upd_upd]
  exact q x dx n1 n2 ne
end
/-! ### __init__ that stores its arguments: one, two, three fields -/
section
variable {P : Program} {w : World} {K : PySem.W.Frag} {mg : Str → Option Value} {base : Bs} {C f : Addr} {fd : FuncData} {qual : Str} {st : Stmt}
theorem init_ok1 {a : Str} {p1 p2 p3 p4 : Pos} (F : Fun K "__init__" qual st f fd) (hb : defBody st = [.Assign [.Attribute (.Name "self" p1) a p2] (.Name a p3) p4]) (S : FnScope ["self", a] ["self", a] (defScope st))
    (cl : Cls K C) (na : NoAttr K C a) (hd : (a == ("__debug__" : Str)) = false) (hcd : (a == ("__classdict__" : Str)) = false) : FnOk P w K mg base CX0 1 f fd ["self", a] (spNew C [a]) := by
  refine F.ok S (fun vs H Q E h => ?_) (fun cdv A outer s H vs Q E hr h => ?_)
  · obtain ⟨p, dx, r, rfl, hl, _⟩ := h
    match r, hl with | [_], _ => rfl
  · obtain ⟨p, dx, r, rfl, hl, hp, q⟩ := h
    match r, hl with
    | [v], _ =>
      have vis : ∀ x ∈ (["self", a] : List Str), Vis (defScope st) x := fun x hx => (S.par x hx).elim (fun z => .inl z) fun z => .inr (.inl z)
      rw [hb]
      refine ⟨_, pss_one (ps_fld (pe_var (i := 0) rfl (vis "self" (by simp))) (pe_var (i := 1) rfl (vis a (by simp)) hd hcd) rfl), ?_⟩
      exact ⟨v, rfl, _, rfl, p, C, dx, [], rfl, hp, cl, na, by show 0 < 1000; decide, q⟩
theorem init_ok2 {a b : Str} {p1 p2 p3 p4 q1 q2 q3 q4 : Pos} (F : Fun K "__init__" qual st f fd) (hb : defBody st = [.Assign [.Attribute (.Name "self" p1) a p2] (.Name a p3) p4, .Assign [.Attribute (.Name "self" q1) b q2] (.Name b q3) q4])
    (S : FnScope ["self", a, b] ["self", a, b] (defScope st)) (cl : Cls K C) (na : NoAttr K C a) (nb : NoAttr K C b) (hd : (a == ("__debug__" : Str)) = false) (hcd : (a == ("__classdict__" : Str)) = false)
    (hd' : (b == ("__debug__" : Str)) = false) (hcd' : (b == ("__classdict__" : Str)) = false) (ab : ¬ a = b) : FnOk P w K mg base CX0 1 f fd ["self", a, b] (spNew C [a, b]) := by
  refine F.ok S (fun vs H Q E h => ?_) (fun cdv A outer s H vs Q E hr h => ?_)
  · obtain ⟨p, dx, r, rfl, hl, _⟩ := h
    match r, hl with | [_, _], _ => rfl
  · obtain ⟨p, dx, r, rfl, hl, hp, q⟩ := h
    match r, hl with
    | [v, u], _ =>
      have vis : ∀ x ∈ (["self", a, b] : List Str), Vis (defScope st) x := fun x hx => (S.par x hx).elim (fun z => .inl z) fun z => .inr (.inl z)
      rw [hb]
      refine ⟨_, pss_cons (ps_fld (pe_var (i := 0) rfl (vis "self" (by simp))) (pe_var (i := 1) rfl (vis a (by simp)) hd hcd) rfl) (pss_one (ps_fld (pe_var (i := 0) rfl (vis "self" (by simp))) (pe_var (i := 2) rfl (vis b (by simp)) hd' hcd') rfl)), ?_⟩
      refine ⟨v, rfl, _, rfl, p, C, dx, [], rfl, hp, cl, na, (by show 0 < 1000; decide), u, rfl, _, rfl, p, C, dx, _, rfl, upd_same, cl, nb, (by show 1 < 1000; decide), ?_⟩
      have e : putF b u (putF a v []) = [(a, v), (b, u)] := by
        show (if a = b then _ else (a, v) :: putF b u []) = _
        rw [if_neg ab]
        rfl
      rw [upd_upd, e]
      exact q
end
end L2
end
section
set_option Elab.async false
set_option linter.all false
set_option maxRecDepth 100000
set_option maxHeartbeats 4000000
namespace L2
open PySem PySem.Spec PyProof.Rows
/-- an iterator over known values that new objects don't change -/
structure Walks1 (J : It) (H1 : Hp) (xs : List V) : Prop where
  go : ∀ i x H', xs[i]? = some x → Same H1 H' → J.go i H'
  yld : ∀ i x y H' H2, xs[i]? = some x → Same H1 H' → J.yld i H' y H2 → H2 = H' ∧ y = x
  stop : ∀ H', Same H1 H' → J.stop xs.length H'
end L2
end
section
set_option Elab.async false
set_option linter.all false
set_option maxRecDepth 100000
set_option maxHeartbeats 4000000
namespace L2
open PySem PySem.Spec PyProof.Rows
/-! ### what the top has written, in bundles -/
structure ClsF (K : PySem.W.Frag) (C : Addr) : Prop where
  pg : PySem.W.plainGet K C Str.empty = true
  hd : PySem.W.hasDictIn K C = true
  po : PySem.W.plainOver K C = true
  sa : PySem.W.findIn K (.ref C) "__setattr__" = some (some (.builtin "object.__setattr__"))
  ca : PySem.W.findIn K (.ref C) "__class__" = some (some (.builtin "object.__class__"))
  cs : PySem.W.specialIn K (.builtin "object.__class__") "__get__" = some (some (.builtin "getset_descriptor.__get__"))
  ct : PySem.W.takesIn K (.builtin "object.__class__") = some true
  cm : PySem.W.mroIn K C (.type "object") = some true
  mks : PySem.W.makesIn K C = true
  kp : PySem.W.keepIn K (.ref C) = true
theorem ClsF.cls {K : PySem.W.Frag} {C : Addr} (h : ClsF K C) : Cls K C := ⟨h.pg, h.hd, h.po, h.sa⟩
theorem ClsF.ty {K : PySem.W.Frag} {C : Addr} (h : ClsF K C) {H : Hp} {a dx : Addr} {fs : List (Str × V)} (e : H a = some (.ins C dx fs)) : TyOf K H (.ref a) (.ref C) := .ins e h.cls h.ca h.cs h.ct h.cm
def FnF (K : PySem.W.Frag) (f : Addr) (x qual : Str) (st : Stmt) : Prop := ∃ fd, Fun K x qual st f fd
theorem fnf_mk {K : PySem.W.Frag} {x qual : Str} {st : Stmt} {f : Addr} {oc : Value} {od an : Option Addr} {osl : Array (Option Value)} {kV doc pm cdv ct : Value} (l : K.lookup f = some ⟨oc, od, .func (PySem.W.fnOf x qual (defArgs st) (defBody st) (defScope st) .none kV doc pm an cdv ct), osl⟩)
    (c : PySem.W.codeIn K cdv qual = true) (k : PySem.W.keepIn K (.ref f) = true) : FnF K f x qual st := ⟨_, fun_mk l c k⟩
theorem topT_mk {K : PySem.W.Frag} {a : Addr} {its : Array Value} {n : Nat} {sl : Array (Option Value)} {xs : List V} (l : K.lookup a = some ⟨.type "tuple", none, .seq its n, sl⟩) (hs : its.size ≤ sizeLine) (hv : Vals xs its.toList) : TopT K a xs :=
  ⟨_, its, n, l, rfl, rfl, rfl, hs, hv⟩
/-- a def that can't be asked anything -/
theorem fn_none {P : Program} {w : World} {K : PySem.W.Frag} {mg : Str → Option Value} {base : Bs} {CX : CXT} {k : Nat} {f : Addr} {fd : FuncData} {ps : List Str} {sp : Sp} (no : ∀ vs H Q E, ¬ sp vs H Q E) : FnOk P w K mg base CX k f fd ps sp :=
  ⟨fun vs H Q E h => absurd h (no vs H Q E), fun A outer s H args us vs Q E _ _ _ _ h => absurd h (no vs H Q E)⟩
/-- a def of the top -/
structure DefF (K : PySem.W.Frag) (mg : Str → Option Value) (x : Str) (st : Stmt) (ps : List Str) (f : Addr) (fd : FuncData) : Prop where
  F : Fun K x x st f fd
  b : Binds K fd ps []
  m : mg x = some (.ref f)
theorem DefF.at {P : Program} {w : World} {K : PySem.W.Frag} {mg : Str → Option Value} {base : Bs} {k : Nat} {x : Str} {st : Stmt} {ps : List Str} {f : Addr} {fd : FuncData} {sp : Sp} (h : DefF K mg x st ps f fd) (G : FnOk P w K mg base CX0 k f fd ps sp) :
    FnAt P w K mg base CX0 k x sp := ⟨f, fd, ps, h.m, h.F.kp, G, h.b⟩
end L2
end
section
set_option Elab.async false
set_option linter.all false
set_option maxRecDepth 100000
set_option maxHeartbeats 4000000
namespace L2
open PySem PySem.Spec PyProof.Rows
section
variable {X : Cx}
/-- an int of the top -/
theorem pe_globI {x : Str} {i : Int} {tk : Tok} {pos : Pos} (hg : Gl X x) (hm : X.mg x = some (.int i tk)) (hd : (x == ("__debug__" : Str)) = false := by decide) : PE X (.Name x pos) (tC (.int i)) := pe_glob (v := .int i) hg hm ⟨_, rfl⟩ hd
end
end L2
end
section
set_option Elab.async false
set_option linter.all false
set_option maxRecDepth 100000
set_option maxHeartbeats 4000000
/-! Defs within defs, and lambdas: made, called -/
namespace L2
open PySem PySem.Spec PyProof.Rows
/-- a def within a def (or a lambda) as it is written; free: the names it takes from around -/
structure Nst where
  params : Arguments
  body : FuncBody
  scope : Scope
  free : List Str
abbrev fnY (n : Nst) (nm qual : Str) (cl : List (Str × Addr)) (doc pm cdv ct : Value) : FuncData :=
  { name := nm, qualname := qual, params := n.params, body := n.body, scope := n.scope, globals := mainGlobals, closure := cl, defaults := .none, kwdefaults := .none, doc := doc, pyModule := pm, annotations := none, code := cdv, closureTuple := ct, builtins := builtinsNs }
/-- the function object at q, its cells -/
def CloAt (n : Nst) (H : Hp) (q : Addr) (cl : List (Str × Addr)) : Prop :=
  ∃ (o : Obj) (u : HO) (nm qual : Str) (doc pm : Value) (cc : Addr) (ct : Value) (oc : Obj) (u2 : HO), H q = some (.frz o u) ∧ o.cls = .type "function" ∧ o.data = .func (fnY n nm qual cl doc pm (.ref cc) ct) ∧ H cc = some (.frz oc u2) ∧ CodeO oc
structure CellsAt (H : Hp) (free : List Str) (cl : List (Str × Addr)) (vs : List V) : Prop where
  len : free.length = vs.length
  val : ∀ (i : Nat) x v, free[i]? = some x → vs[i]? = some v → ∃ c ob u w, cl.lookup x = some c ∧ H c = some (.frz ob u) ∧ ob.data = .cell (some w) ∧ RelV v w
  sub : ∀ x c, cl.lookup x = some c → x ∈ free
  inj : ∀ x y c, cl.lookup x = some c → cl.lookup y = some c → x = y
/-- what is known stays known -/
theorem CloAt.keep {n : Nst} {H H' : Hp} {q : Addr} {cl : List (Str × Addr)} (h : CloAt n H q cl) (k : ∀ a o u, H a = some (.frz o u) → H' a = some (.frz o u)) : CloAt n H' q cl :=
  let ⟨o, u, nm, qual, doc, pm, cc, ct, oc, u2, e1, e2, e3, e4, e5⟩ := h
  ⟨o, u, nm, qual, doc, pm, cc, ct, oc, u2, k _ _ _ e1, e2, e3, k _ _ _ e4, e5⟩
theorem CellsAt.keep {H H' : Hp} {fr : List Str} {cl : List (Str × Addr)} {vs : List V} (h : CellsAt H fr cl vs) (k : ∀ a o u, H a = some (.frz o u) → H' a = some (.frz o u)) : CellsAt H' fr cl vs :=
  ⟨h.len, fun i x v e1 e2 => let ⟨c, ob, u, w, a1, a2, a3, a4⟩ := h.val i x v e1 e2; ⟨c, ob, u, w, a1, k _ _ _ a2, a3, a4⟩, h.sub, h.inj⟩
theorem CellsAt.some {H : Hp} {fr : List Str} {cl : List (Str × Addr)} {vs : List V} (h : CellsAt H fr cl vs) {x : Str} (hx : x ∈ fr) : ∃ c ob u w, cl.lookup x = some c ∧ H c = some (.frz ob u) ∧ ob.data = .cell (some w) := by
  obtain ⟨i, hi, e⟩ := List.getElem_of_mem hx
  have hi' : i < vs.length := by rw [← h.len]; exact hi
  obtain ⟨c, ob, u, w, a1, a2, a3, _⟩ := h.val i x vs[i] (by rw [List.getElem?_eq_getElem hi, e]) (List.getElem?_eq_getElem hi')
  exact ⟨c, ob, u, w, a1, a2, a3⟩
structure NScope (N P F : List Str) (sc : Scope) : Prop where
  kind : sc.kind = .function
  co : sc.isCoroutine = false
  gen : sc.isGenerator = false
  nd : N.Nodup
  pre : N.take (P ++ F).length = P ++ F
  par : ∀ x ∈ P, sc.names.lookup x = some .local
  fre : ∀ x ∈ F, sc.names.lookup x = some .free
  nocell : ∀ y ∈ sc.names, y.2 ≠ .cell
  allf : ∀ y ∈ sc.names, y.2 = .free → y.1 ∈ F
/-! ### a function is called: the frame's name is what its code says -/
section
variable {P : Program} {w : World} {A : Around} {s : Shared} {R : Result → Shared → Prop} {a : Addr} {args : Args} {o oc : Obj} {fd : FuncData} {cc : Addr} {fv : Array Value} {q : Str} {tq : Tok}
end
/-- a promise of the arguments and of what the cells hold -/
abbrev SpN := List V → List V → Hp → VK → XK → Prop
structure ClOk (P : Program) (w : World) (K : PySem.W.Frag) (mg : Str → Option Value) (base : Bs) (CX : CXT) (k : Nat) (n : Nst) (sp : SpN) : Prop where
  run : ∀ (A : Around) (outer : List Env) (s : Shared) (H : Hp) (q : Addr) (cl : List (Str × Addr)) (us : List Value) (vs cv : List V) (Q : VK) (E : XK), Room k A → Env0 P w K mg base A outer s H → CloAt n H q cl → CellsAt H n.free cl cv → Vals vs us → sp vs cv H Q E →
    codeAny (model P w) A (.call (.ref q) ⟨us, []⟩) (CR CX outer P w H s Q E) s
section
variable {CX : CXT} {P : Program} {w : World} {K : PySem.W.Frag} {mg : Str → Option Value} {base : Bs} {k : Nat} {n : Nst} {N ps : List Str} {sp : SpN}
end
/-! ### x(..), x.a(..): x, or its attribute, holds a function -/
section
variable {X : Cx} {CX : CXT} {k : Nat} {E : XK} {x m : Str} {p pos apos : Pos} {e o : Expr} {es : List Expr} {ta : TE} {t : TA} {ι : Type} {nn : ι → Nst} {sp : ι → SpN}
theorem CloAt.fn {pins : List (Addr × Obj)} {σ : St} {H : Hp} {s : Shared} {n : Nst} {q : Addr} {cl : List (Str × Addr)} (I : Inv X pins σ H s) (h : CloAt n H q cl) : PySem.W.FnAt q s.heap := by
  obtain ⟨o, u, nm, qual, doc, pm, cc, ct, oc, u2, e1, e2, e3, _⟩ := h
  obtain ⟨g, _⟩ := I.hok q _ e1
  obtain ⟨c, d, dt, sl⟩ := o
  exact ⟨c, d, _, sl, by rw [g]; exact congrArg (fun z => some (Obj.mk c d z sl)) e3⟩
end
end L2
end
section
set_option Elab.async false
set_option linter.all false
set_option maxRecDepth 100000
set_option maxHeartbeats 4000000
namespace L2
open PySem PySem.Spec PyProof.Rows
section
variable {X : Cx} {pins : List (Addr × Obj)} {σ : St} {H : Hp} {s : Shared}
/-! ### a function is made -/
/-- the code object of the frame, its table -/
structure MkX (X : Cx) (c P : Addr) : Prop where
  code : X.env.code = .ref c
  hd : PySem.W.codeHdIn X.K c P = true
  tab : P ∈ X.base.tabs
/-- the names that it takes from around: cells of this frame, stored to no more; where they stand -/
structure Takes (X : Cx) (n : Nst) (js : List Nat) : Prop where
  len : n.free.length = js.length
  at_ : ∀ (i : Nat) x j, n.free[i]? = some x → js[i]? = some j → X.N[j]? = some x ∧ X.env.kindOf x = some .cell ∧ X.fn x = false ∧ X.cw x = true ∧ (x, NameKind.free) ∈ n.scope.names
  all : ∀ y ∈ n.scope.names, y.2 = .free → y.1 ∈ n.free
theorem Takes.mem {n : Nst} {js : List Nat} (T : Takes X n js) {x : Str} (hx : x ∈ n.free) : ∃ (i j : Nat), n.free[i]? = some x ∧ js[i]? = some j := by
  obtain ⟨i, hi, e⟩ := List.getElem_of_mem hx
  have : i < js.length := by rw [← T.len]; exact hi
  exact ⟨i, js[i], by rw [List.getElem?_eq_getElem hi, e], List.getElem?_eq_getElem this⟩
end
end L2
end
section
set_option Elab.async false
set_option linter.all false
set_option maxRecDepth 100000
set_option maxHeartbeats 4000000
/-! THE MIRROR: a def's body as a total function over plain values, by the rules of the hand layer. -/
namespace DN
open PySem L2
inductive PV where
  | non | bl (b : Bool) | int (i : Int) | str (x : Str)
  | tup (xs : List PV) | lst (xs : List PV) | obj (k : Nat) (xs : List PV) | dic (ks : List Key) (xs : List PV) | clo (f : Nat) (xs : List PV) | dit (ks : List (List Key)) (xs : List PV)
inductive Rx (α : Type) where
  | ok (a : α) | bad | exc (c : Nat)
def Rx.bind {α β : Type} : Rx α → (α → Rx β) → Rx β
  | .ok a, f => f a
  | .bad, _ => .bad
  | .exc c, _ => .exc c
theorem bind_ok {α β : Type} {m : Rx α} {f : α → Rx β} {b : β} (h : m.bind f = .ok b) : ∃ a, m = .ok a ∧ f a = .ok b := by
  cases m with
  | ok a => exact ⟨a, rfl, h⟩
  | bad => cases h
  | exc c => cases h
@[simp] theorem ok_bind {α β : Type} (a : α) (f : α → Rx β) : (Rx.ok a).bind f = f a := rfl
@[simp] theorem bad_bind {α β : Type} (f : α → Rx β) : (Rx.bad : Rx α).bind f = .bad := rfl
@[simp] theorem exc_bind {α β : Type} (c : Nat) (f : α → Rx β) : (Rx.exc c : Rx α).bind f = .exc c := rfl
/-- the program's classes: address, attributes' names -/
structure Pg where
  cA : Nat → Addr
  fN : Nat → List Str
  nF : Nat → Nst
abbrev Av := Addr → Prop
def RdL (K : PySem.W.Frag) (H : Hp) (A : Av) (a : Addr) (vs : List V) : Prop :=
  (H a = some (.lst vs) ∧ ¬ A a) ∨ (∃ o, H a = some (.frz o (.lst vs))) ∨
    ∃ (o : Obj) (its : Array Value) (n : Nat), K.lookup a = some o ∧ o.cls = .type "list" ∧ o.dict = none ∧ o.data = .seq its n ∧ its.size ≤ sizeLine ∧ Vals vs its.toList
theorem RdL.sq {K : PySem.W.Frag} {H : Hp} {A : Av} {a : Addr} {vs : List V} (h : RdL K H A a vs) : SqL K H a vs := by
  rcases h with ⟨h, _⟩ | ⟨o, h⟩ | h
  · exact .inl (.inl h)
  · exact .inl (.inr ⟨o, h⟩)
  · exact .inr h
mutual
def Rep (K : PySem.W.Frag) (G : Pg) (H : Hp) (A : Av) : PV → V → Prop
  | .non, v => v = .non
  | .bl b, v => v = .bl b
  | .int i, v => v = .int i
  | .str x, v => v = .str x
  | .tup xs, v => ∃ a vs, v = .ref a ∧ SqT K H a vs ∧ Reps K G H A xs vs
  | .lst xs, v => ∃ a vs, v = .ref a ∧ RdL K H A a vs ∧ Reps K G H A xs vs
  | .obj k xs, v => ∃ a dx vs, v = .ref a ∧ H a = some (.ins (G.cA k) dx ((G.fN k).zip vs)) ∧ (G.fN k).length = vs.length ∧ ¬ A a ∧ Reps K G H A xs vs
  | .dic ks xs, v => ∃ a vs, v = .ref a ∧ H a = some (.dK (ks.zip vs)) ∧ ks.length = vs.length ∧ ¬ A a ∧ Reps K G H A xs vs
  | .dit ks xs, v => ∃ a vs, v = .ref a ∧ H a = some (.dT (ks.zip vs)) ∧ ks.length = vs.length ∧ ¬ A a ∧ Reps K G H A xs vs
  | .clo f xs, v => ∃ q cl vs, v = .ref q ∧ CloAt (G.nF f) H q cl ∧ CellsAt H (G.nF f).free cl vs ∧ Reps K G H A xs vs
def Reps (K : PySem.W.Frag) (G : Pg) (H : Hp) (A : Av) : List PV → List V → Prop
  | [], vs => vs = []
  | x :: xs, vs => ∃ v r, vs = v :: r ∧ Rep K G H A x v ∧ Reps K G H A xs r
end
/-- what may stand at an address that is one's own -/
abbrev Mt (o : HO) : Prop := (∀ xs, o ≠ .tup xs) ∧ ∀ o' u, o ≠ .frz o' u
/-- frozen things stay: H to H', the addresses to shun A to A' -/
structure Kp (K : PySem.W.Frag) (G : Pg) (H : Hp) (A : Av) (H' : Hp) (A' : Av) : Prop where
  rd : ∀ a o, H a = some o → ¬ A a → H' a = some o
  tp : ∀ a vs, H a = some (.tup vs) → H' a = some (.tup vs)
  fz : ∀ a o u, H a = some (.frz o u) → H' a = some (.frz o u)
  av : ∀ a, H a ≠ none → A' a → A a
section
variable {K : PySem.W.Frag} {G : Pg} {H H' H2 : Hp} {A A' A2 : Av}
theorem Kp.sqT (k : Kp K G H A H' A') {a : Addr} {vs : List V} (h : SqT K H a vs) : SqT K H' a vs := by
  rcases h with (h | ⟨o, h⟩) | h
  · exact .inl (.inl (k.tp _ _ h))
  · exact .inl (.inr ⟨o, k.fz _ _ _ h⟩)
  · exact .inr h
theorem Kp.rdL (k : Kp K G H A H' A') {a : Addr} {vs : List V} (h : RdL K H A a vs) : RdL K H' A' a vs := by
  rcases h with ⟨h, n⟩ | ⟨o, h⟩ | h
  · exact .inl ⟨k.rd _ _ h n, fun z => n (k.av _ (by rw [h]; simp) z)⟩
  · exact .inr (.inl ⟨o, k.fz _ _ _ h⟩)
  · exact .inr (.inr h)
mutual
theorem Kp.rep (k : Kp K G H A H' A') : ∀ {w : PV} {v : V}, Rep K G H A w v → Rep K G H' A' w v
  | .non, _, h => h
  | .bl _, _, h => h
  | .int _, _, h => h
  | .str _, _, h => h
  | .tup xs, v, h => by
    obtain ⟨a, vs, e, s, r⟩ := h
    exact ⟨a, vs, e, k.sqT s, Kp.reps k r⟩
  | .lst xs, v, h => by
    obtain ⟨a, vs, e, s, r⟩ := h
    exact ⟨a, vs, e, k.rdL s, Kp.reps k r⟩
  | .obj c xs, v, h => by
    obtain ⟨a, dx, vs, e, s, l, n, r⟩ := h
    exact ⟨a, dx, vs, e, k.rd _ _ s n, l, fun z => n (k.av _ (by rw [s]; simp) z), Kp.reps k r⟩
  | .dic ks xs, v, h => by
    obtain ⟨a, vs, e, s, l, n, r⟩ := h
    exact ⟨a, vs, e, k.rd _ _ s n, l, fun z => n (k.av _ (by rw [s]; simp) z), Kp.reps k r⟩
  | .dit ks xs, v, h => by
    obtain ⟨a, vs, e, s, l, n, r⟩ := h
    exact ⟨a, vs, e, k.rd _ _ s n, l, fun z => n (k.av _ (by rw [s]; simp) z), Kp.reps k r⟩
  | .clo f xs, v, h => by
    obtain ⟨q, cl, vs, e, hc, hce, r⟩ := h
    exact ⟨q, cl, vs, e, hc.keep k.fz, hce.keep k.fz, Kp.reps k r⟩
theorem Kp.reps (k : Kp K G H A H' A') : ∀ {ws : List PV} {vs : List V}, Reps K G H A ws vs → Reps K G H' A' ws vs
  | [], vs, h => h
  | w :: ws, vs, h => by
    obtain ⟨v, r, e, h1, h2⟩ := h
    exact ⟨v, r, e, Kp.rep k h1, Kp.reps k h2⟩
end
theorem Kp.of_same (s : Same H H') : Kp K G H A H' A := ⟨fun a o h _ => s _ _ h, fun a vs h => s _ _ h, fun a o u h => s _ _ h, fun a _ h => h⟩
theorem Kp.weak (h : ∀ a, A' a → A a) : Kp K G H A H A' := ⟨fun a o h _ => h, fun a vs h => h, fun a o u h => h, fun a _ z => h a z⟩
theorem Kp.trans (k : Kp K G H A H' A') (k2 : Kp K G H' A' H2 A2) : Kp K G H A H2 A2 :=
  ⟨fun a o h n => k2.rd _ _ (k.rd _ _ h n) fun z => n (k.av _ (by rw [h]; simp) z), fun a vs h => k2.tp _ _ (k.tp _ _ h), fun a o u h => k2.fz _ _ _ (k.fz _ _ _ h),
    fun a n z => by
      by_cases q : A a
      · exact q
      · cases e : H a with
        | none => exact absurd e n
        | some o => exact k.av a n (k2.av a (by rw [k.rd _ _ e q]; simp) z)⟩
/-- a store at an address of one's own -/
theorem Kp.own {p : Addr} {o u : HO} (hA : A p) (hp : H p = some o) (m : Mt o) : Kp K G H A (upd H p u) A :=
  ⟨fun a x h n => by
      rw [upd_ne (by intro z; subst z; exact n hA)]; exact h,
    fun a vs h => by
      rw [upd_ne (by intro z; subst z; rw [hp] at h; exact m.1 _ (Option.some.inj h))]; exact h,
    fun a o' u' h => by
      rw [upd_ne (by intro z; subst z; rw [hp] at h; exact m.2 _ _ (Option.some.inj h))]; exact h,
    fun a _ h => h⟩
/-- a new thing that becomes one's own -/
theorem Kp.take {p : Addr} (hp : H p = none) (hs : Same H H') (h : ∀ a, A' a → a = p ∨ A a) : Kp K G H A H' A' :=
  ⟨fun a o h _ => hs _ _ h, fun a vs h => hs _ _ h, fun a o u h => hs _ _ h, fun a n z => by
    rcases h a z with e | e
    · subst e; exact absurd hp n
    · exact e⟩
theorem Rep.same {w : PV} {v : V} (h : Rep K G H A w v) (s : Same H H') : Rep K G H' A w v := (Kp.of_same s).rep h
theorem Reps.same {ws : List PV} {vs : List V} (h : Reps K G H A ws vs) (s : Same H H') : Reps K G H' A ws vs := (Kp.of_same s).reps h
theorem Reps.len : ∀ {ws : List PV} {vs : List V}, Reps K G H A ws vs → ws.length = vs.length
  | [], vs, h => by have h : vs = [] := h; rw [h]; rfl
  | w :: ws, vs, h => by
    obtain ⟨v, r, e, _, h2⟩ := h
    subst e
    rw [List.length_cons, List.length_cons, Reps.len h2]
theorem Reps.get : ∀ {ws : List PV} {vs : List V} {i : Nat} {w : PV}, Reps K G H A ws vs → ws[i]? = some w → ∃ v, vs[i]? = some v ∧ Rep K G H A w v
  | [], vs, i, w, h, e => by simp at e
  | x :: ws, vs, 0, w, h, e => by
    obtain ⟨v, r, e', h1, h2⟩ := h
    subst e'
    simp at e; subst e
    exact ⟨v, by simp, h1⟩
  | x :: ws, vs, i + 1, w, h, e => by
    obtain ⟨v, r, e', h1, h2⟩ := h
    subst e'
    obtain ⟨u, q1, q2⟩ := Reps.get (i := i) h2 (by simpa using e)
    exact ⟨u, by simpa using q1, q2⟩
theorem Reps.app : ∀ {ws ws' : List PV} {vs vs' : List V}, Reps K G H A ws vs → Reps K G H A ws' vs' → Reps K G H A (ws ++ ws') (vs ++ vs')
  | [], ws', vs, vs', h, h' => by have h : vs = [] := h; subst h; exact h'
  | w :: ws, ws', vs, vs', h, h' => by
    obtain ⟨v, r, e, h1, h2⟩ := h
    subst e
    exact ⟨v, r ++ vs', rfl, h1, Reps.app h2 h'⟩
theorem Reps.one {w : PV} {v : V} (h : Rep K G H A w v) : Reps K G H A [w] [v] := ⟨v, [], rfl, h, rfl⟩
theorem Reps.snoc {ws : List PV} {vs : List V} {w : PV} {v : V} (h : Reps K G H A ws vs) (h' : Rep K G H A w v) : Reps K G H A (ws ++ [w]) (vs ++ [v]) := h.app (.one h')
theorem Reps.take : ∀ {ws : List PV} {vs : List V} (n : Nat), Reps K G H A ws vs → Reps K G H A (ws.take n) (vs.take n)
  | ws, vs, 0, h => by simp [Reps]
  | [], vs, n + 1, h => by have h : vs = [] := h; subst h; rfl
  | w :: ws, vs, n + 1, h => by
    obtain ⟨v, r, e, h1, h2⟩ := h
    subst e
    exact ⟨v, r.take n, rfl, h1, Reps.take n h2⟩
theorem Reps.drop : ∀ {ws : List PV} {vs : List V} (n : Nat), Reps K G H A ws vs → Reps K G H A (ws.drop n) (vs.drop n)
  | ws, vs, 0, h => by simpa using h
  | [], vs, n + 1, h => by have h : vs = [] := h; subst h; rfl
  | w :: ws, vs, n + 1, h => by
    obtain ⟨v, r, e, h1, h2⟩ := h
    subst e
    exact Reps.drop n h2
theorem Reps.set : ∀ {ws : List PV} {vs : List V} {w : PV} {v : V} (i : Nat), Reps K G H A ws vs → Rep K G H A w v → Reps K G H A (ws.set i w) (vs.set i v)
  | [], vs, w, v, i, h, h' => by have h : vs = [] := h; subst h; rfl
  | x :: ws, vs, w, v, 0, h, h' => by
    obtain ⟨u, r, e, h1, h2⟩ := h
    subst e
    exact ⟨v, r, rfl, h', h2⟩
  | x :: ws, vs, w, v, i + 1, h, h' => by
    obtain ⟨u, r, e, h1, h2⟩ := h
    subst e
    exact ⟨u, r.set i v, rfl, h1, Reps.set i h2 h'⟩
theorem Reps.ints : ∀ (ns : List Int), Reps K G H A (ns.map PV.int) (ns.map V.int)
  | [] => rfl
  | n :: ns => ⟨_, _, rfl, rfl, Reps.ints ns⟩
end
/-! ### slots -/
/-- a thing of one's own -/
inductive Ow where
  | lst (xs : List PV) | dic (ks : List Key) (xs : List PV) | obj (k : Nat) (xs : List PV) | dit (ks : List (List Key)) (xs : List PV)
/-- ino: the one thing that is lent to a def to be changed; ini: the instance that is being made -/
inductive Sl where
  | no | v (w : PV) | own (o : Ow) | bor (w : PV) | ino (o : Ow) | ini (k : Nat) (xs : List PV)
  /- a dict of one's own whose values are lists of one's own; another name for one of these -/
  | dol (ks : List Key) (xss : List (List PV)) | als (d j : Nat)
abbrev PSt := List Sl
def Ow.pv : Ow → PV
  | .lst xs => .lst xs
  | .dic ks xs => .dic ks xs
  | .obj k xs => .obj k xs
  | .dit ks xs => .dit ks xs
def RepO (K : PySem.W.Frag) (G : Pg) (H : Hp) (A : Av) : Ow → Addr → Prop
  | .lst xs, p => ∃ vs, H p = some (.lst vs) ∧ Reps K G H A xs vs
  | .dic ks xs, p => ∃ vs, H p = some (.dK (ks.zip vs)) ∧ ks.length = vs.length ∧ Reps K G H A xs vs
  | .dit ks xs, p => ∃ vs, H p = some (.dT (ks.zip vs)) ∧ ks.length = vs.length ∧ Reps K G H A xs vs
  | .obj k xs, p => ∃ dx vs, H p = some (.ins (G.cA k) dx ((G.fN k).zip vs)) ∧ (G.fN k).length = vs.length ∧ Reps K G H A xs vs
/-- an instance some attributes of which stand -/
def RepI (K : PySem.W.Frag) (G : Pg) (H : Hp) (A : Av) (k : Nat) (xs : List PV) (p : Addr) : Prop := ∃ dx vs, H p = some (.ins (G.cA k) dx (((G.fN k).take xs.length).zip vs)) ∧ xs.length ≤ (G.fN k).length ∧ Reps K G H A xs vs
/-- the entry: its heap, the callers' own addresses -/
structure Fr where
  H0 : Hp
  A0 : Av
  B0 : Av
  lx : Option Addr
/-- all but what is lent is as it was at the entry -/
def SmL (c : Fr) (H : Hp) : Prop := ∀ a o, c.H0 a = some o → c.lx ≠ some a → H a = some o
theorem SmL.trans {c : Fr} {H H' : Hp} (h : SmL c H) (s : Same H H') : SmL c H' := fun a o e n => s _ _ (h a o e n)
theorem SmL.free {c : Fr} {H : Hp} {p : Addr} (h : SmL c H) (hp : H p = none) (n : c.lx ≠ some p) : c.H0 p = none := by
  cases e : c.H0 p with
  | none => rfl
  | some o => rw [h p o e n] at hp; cases hp
theorem SmL.same {c : Fr} {H : Hp} (h : SmL c H) (n : c.lx = none) : Same c.H0 H := fun a o e => h a o e (by rw [n]; simp)
theorem SmL.of {c : Fr} {H : Hp} (s : Same c.H0 H) : SmL c H := fun a o e _ => s a o e
abbrev Ows := Nat → Option Addr
def av (c : Fr) (ow : Ows) : Av := fun a => c.A0 a ∨ ∃ i, ow i = some a
/-- a value that is looked at: frozen, or a thing of someone's own -/
def RepB (K : PySem.W.Frag) (G : Pg) (H : Hp) (A : Av) (w : PV) (v : V) : Prop := Rep K G H A w v ∨ ∃ x p, w = x.pv ∧ v = .ref p ∧ RepO K G H A x p
/-- where the j-th list of the slot d stands, behind the n slots -/
def vx (n d j : Nat) : Nat := n + (1000 * d + j)
def SlAt (K : PySem.W.Frag) (G : Pg) (c : Fr) (n : Nat) (H : Hp) (A : Av) (ow : Ows) (i : Nat) : Sl → Option V → Prop
  | .no, _ => ow i = none
  | .v w, o => ow i = none ∧ ∃ v, o = some v ∧ Rep K G H A w v
  | .own x, o => ∃ p, ow i = some p ∧ o = some (.ref p) ∧ RepO K G H A x p
  | .bor w, o => ow i = none ∧ ∃ v, o = some v ∧ (Rep K G H A w v ∨ ∃ x p, w = x.pv ∧ v = .ref p ∧ RepO K G H A x p ∧ c.B0 p)
  | .ino x, o => ow i = none ∧ i = 0 ∧ ∃ p, o = some (.ref p) ∧ c.lx = some p ∧ RepO K G H A x p
  | .ini k xs, o => ow i = none ∧ i = 0 ∧ ∃ p, o = some (.ref p) ∧ c.lx = some p ∧ RepI K G H A k xs p
  | .dol ks xss, o => ∃ (p : Addr) (qs : List Addr), ow i = some p ∧ o = some (.ref p) ∧ H p = some (.dK (ks.zip (qs.map V.ref))) ∧ ks.length = qs.length ∧ xss.length = qs.length ∧ qs.length ≤ 1000 ∧ ∀ j q xs, qs[j]? = some q → xss[j]? = some xs → ow (vx n i j) = some q ∧ RepO K G H A (.lst xs) q
  | .als d j, o => ow i = none ∧ ∃ q, o = some (.ref q) ∧ ow (vx n d j) = some q
structure RepS (K : PySem.W.Frag) (G : Pg) (c : Fr) (H : Hp) (ow : Ows) (ps : PSt) (σ : St) : Prop where
  len : ps.length = σ.length
  same : SmL c H
  lent : ∀ p, c.lx = some p → c.A0 p ∧ H p ≠ none
  a0 : ∀ a, c.A0 a → c.H0 a ≠ none
  b0 : ∀ a, c.B0 a → c.H0 a ≠ none ∧ c.lx ≠ some a
  fresh : ∀ i p, ow i = some p → c.H0 p = none
  inj : ∀ i j p, ow i = some p → ow j = some p → i = j
  out : ∀ i p, ow i = some p → i < ps.length ∨ H p ≠ none
  slot : ∀ i s o, ps[i]? = some s → σ[i]? = some o → SlAt K G c ps.length H (av c ow) ow i s o
section
variable {K : PySem.W.Frag} {G : Pg} {H H' : Hp} {A A' : Av} {c : Fr} {ow : Ows} {ps : PSt} {σ : St}
theorem RepO.at {x : Ow} {p : Addr} (h : RepO K G H A x p) : ∃ o, H p = some o ∧ Mt o := by
  cases x with
  | lst xs => obtain ⟨vs, e, _⟩ := h; exact ⟨_, e, And.intro (fun _ z => by cases z) (fun _ _ z => by cases z)⟩
  | dic ks xs => obtain ⟨vs, e, _⟩ := h; exact ⟨_, e, And.intro (fun _ z => by cases z) (fun _ _ z => by cases z)⟩
  | dit ks xs => obtain ⟨vs, e, _⟩ := h; exact ⟨_, e, And.intro (fun _ z => by cases z) (fun _ _ z => by cases z)⟩
  | obj k xs => obtain ⟨dx, vs, e, _⟩ := h; exact ⟨_, e, And.intro (fun _ z => by cases z) (fun _ _ z => by cases z)⟩
theorem RepI.at {k : Nat} {xs : List PV} {p : Addr} (h : RepI K G H A k xs p) : ∃ o, H p = some o ∧ Mt o := by
  obtain ⟨dx, vs, e, _⟩ := h; exact ⟨_, e, And.intro (fun _ z => by cases z) (fun _ _ z => by cases z)⟩
theorem RepI.keep {k : Nat} {xs : List PV} {p : Addr} (h : RepI K G H A k xs p) (kp : Kp K G H A H' A') (e : H' p = H p) : RepI K G H' A' k xs p := by
  obtain ⟨dx, vs, q, l, r⟩ := h; exact ⟨dx, vs, by rw [e]; exact q, l, kp.reps r⟩
theorem RepO.keep {x : Ow} {p : Addr} (h : RepO K G H A x p) (k : Kp K G H A H' A') (e : H' p = H p) : RepO K G H' A' x p := by
  cases x with
  | lst xs => obtain ⟨vs, q, r⟩ := h; exact ⟨vs, by rw [e]; exact q, k.reps r⟩
  | dic ks xs => obtain ⟨vs, q, l, r⟩ := h; exact ⟨vs, by rw [e]; exact q, l, k.reps r⟩
  | dit ks xs => obtain ⟨vs, q, l, r⟩ := h; exact ⟨vs, by rw [e]; exact q, l, k.reps r⟩
  | obj c xs => obtain ⟨dx, vs, q, l, r⟩ := h; exact ⟨dx, vs, by rw [e]; exact q, l, k.reps r⟩
/-- frozen: the address is no longer one's own -/
theorem RepO.freeze {x : Ow} {p : Addr} (h : RepO K G H A x p) (n : ¬ A p) : Rep K G H A x.pv (.ref p) := by
  cases x with
  | lst xs => obtain ⟨vs, q, r⟩ := h; exact ⟨p, vs, rfl, .inl ⟨q, n⟩, r⟩
  | dic ks xs => obtain ⟨vs, q, l, r⟩ := h; exact ⟨p, vs, rfl, q, l, n, r⟩
  | dit ks xs => obtain ⟨vs, q, l, r⟩ := h; exact ⟨p, vs, rfl, q, l, n, r⟩
  | obj c xs => obtain ⟨dx, vs, q, l, r⟩ := h; exact ⟨p, dx, vs, rfl, q, l, n, r⟩
theorem RepS.get (R : RepS K G c H ow ps σ) {i : Nat} {s : Sl} (e : ps[i]? = some s) : ∃ o, σ[i]? = some o ∧ SlAt K G c ps.length H (av c ow) ow i s o := by
  have hi : i < ps.length := (List.getElem?_eq_some_iff.mp e).1
  have hi' : i < σ.length := by rw [← R.len]; exact hi
  exact ⟨σ[i], List.getElem?_eq_getElem hi', R.slot i s _ e (List.getElem?_eq_getElem hi')⟩
theorem RepS.getV (R : RepS K G c H ow ps σ) {i : Nat} {w : PV} (e : ps[i]? = some (.v w)) : ∃ v, σ[i]? = some (some v) ∧ Rep K G H (av c ow) w v := by
  obtain ⟨o, eo, _, v, rfl, r⟩ := R.get e
  exact ⟨v, eo, r⟩
theorem RepS.getO (R : RepS K G c H ow ps σ) {i : Nat} {x : Ow} (e : ps[i]? = some (.own x)) : ∃ p, ow i = some p ∧ σ[i]? = some (some (.ref p)) ∧ RepO K G H (av c ow) x p := by
  obtain ⟨o, eo, p, e1, rfl, r⟩ := R.get e
  exact ⟨p, e1, eo, r⟩
/-- every address to shun is in use -/
theorem RepS.used (R : RepS K G c H ow ps σ) : ∀ a, av c ow a → H a ≠ none := by
  intro a h
  rcases h with h | ⟨i, h⟩
  · by_cases hl : c.lx = some a
    · exact (R.lent a hl).2
    · cases e : c.H0 a with
      | none => exact absurd e (R.a0 a h)
      | some o => rw [R.same _ _ e hl]; simp
  · rcases R.out i a h with hi | hv
    case inr => exact hv
    obtain ⟨o, eo, q⟩ := R.get (List.getElem?_eq_getElem hi)
    cases e : ps[i] with
    | no => rw [e] at q; rw [show ow i = none from q] at h; cases h
    | v w => rw [e] at q; rw [q.1] at h; cases h
    | bor w => rw [e] at q; rw [q.1] at h; cases h
    | ino x => rw [e] at q; rw [q.1] at h; cases h
    | ini k xs => rw [e] at q; rw [q.1] at h; cases h
    | als d j => rw [e] at q; rw [q.1] at h; cases h
    | dol ks xss =>
      rw [e] at q
      obtain ⟨p, qs, e1, _, hp, _⟩ := q
      rw [e1] at h; cases h
      rw [hp]; simp
    | own x =>
      rw [e] at q
      obtain ⟨p, e1, _, r⟩ := q
      rw [e1] at h; cases h
      obtain ⟨o', e', _⟩ := r.at
      rw [e']; simp
theorem bor_keep {w : PV} {v : V} {A A' : Av} (b0 : ∀ a, c.B0 a → c.H0 a ≠ none ∧ c.lx ≠ some a) (s : SmL c H) (s' : SmL c H') (k : Kp K G H A H' A') (h : Rep K G H A w v ∨ ∃ x p, w = x.pv ∧ v = .ref p ∧ RepO K G H A x p ∧ c.B0 p) :
    Rep K G H' A' w v ∨ ∃ x p, w = x.pv ∧ v = .ref p ∧ RepO K G H' A' x p ∧ c.B0 p := by
  rcases h with h | ⟨x, p, e1, e2, r, n⟩
  · exact .inl (k.rep h)
  · refine .inr ⟨x, p, e1, e2, r.keep k ?_, n⟩
    cases q : c.H0 p with
    | none => exact absurd q (b0 p n).1
    | some o => rw [s _ _ q (b0 p n).2, s' _ _ q (b0 p n).2]
theorem SlAt.keep {n i : Nat} {x : Sl} {o : Option V} {ow' : Ows} {A A' : Av} (q : SlAt K G c n H A ow i x o) (b0 : ∀ a, c.B0 a → c.H0 a ≠ none ∧ c.lx ≠ some a) (s : SmL c H) (s' : SmL c H') (k : Kp K G H A H' A') (hr : ow' i = ow i) (hv : ∀ d j q, ow (vx n d j) = some q → ow' (vx n d j) = some q)
    (ho : ∀ p, ow i = some p → H' p = H p) (hw : ∀ j p, j < 1000 → ow (vx n i j) = some p → H' p = H p) (el : ∀ p, c.lx = some p → H' p = H p) : SlAt K G c n H' A' ow' i x o := by
  cases x with
  | no => show ow' i = none; rw [hr]; exact q
  | v w => obtain ⟨z, v, e3, r⟩ := q; exact ⟨by rw [hr]; exact z, v, e3, k.rep r⟩
  | own y => obtain ⟨p, e3, e4, r⟩ := q; exact ⟨p, by rw [hr]; exact e3, e4, r.keep k (ho p e3)⟩
  | bor w => obtain ⟨z, v, e3, r⟩ := q; exact ⟨by rw [hr]; exact z, v, e3, bor_keep b0 s s' k r⟩
  | ino y => obtain ⟨z, z2, p, e3, e4, r⟩ := q; exact ⟨by rw [hr]; exact z, z2, p, e3, e4, r.keep k (el p e4)⟩
  | ini c xs => obtain ⟨z, z2, p, e3, e4, r⟩ := q; exact ⟨by rw [hr]; exact z, z2, p, e3, e4, r.keep k (el p e4)⟩
  | dol ks xss =>
    obtain ⟨p, qs, e1, e2, hp, l1, l2, l3, h⟩ := q
    refine ⟨p, qs, by rw [hr]; exact e1, e2, by rw [ho p e1]; exact hp, l1, l2, l3, fun j q xs h1 h2 => ?_⟩
    obtain ⟨h3, h4⟩ := h j q xs h1 h2
    exact ⟨hv i j q h3, h4.keep k (hw j q (Nat.lt_of_lt_of_le (List.getElem?_eq_some_iff.mp h1).1 l3) h3)⟩
  | als d j => obtain ⟨z, q', e3, e4⟩ := q; exact ⟨by rw [hr]; exact z, q', e3, hv d j q' e4⟩
theorem RepS.keep (R : RepS K G c H ow ps σ) (s : SmL c H') (k : Kp K G H (av c ow) H' (av c ow)) (e : ∀ i p, ow i = some p → H' p = H p) (el : ∀ p, c.lx = some p → H' p = H p) : RepS K G c H' ow ps σ := by
  refine ⟨R.len, s, fun p h => ⟨(R.lent p h).1, by rw [el p h]; exact (R.lent p h).2⟩, R.a0, R.b0, R.fresh, R.inj, fun i p h => ?_, fun i x o e1 e2 => ?_⟩
  · rcases R.out i p h with q | q
    · exact .inl q
    · right; rw [e i p h]; exact q
  · exact (R.slot i x o e1 e2).keep R.b0 R.same s k rfl (fun _ _ _ h => h) (fun p h => e i p h) (fun j p _ h => e _ p h) el
theorem RepS.grow (R : RepS K G c H ow ps σ) (s : Same H H') : RepS K G c H' ow ps σ :=
  R.keep (R.same.trans s) (Kp.of_same s) (fun i p e => by
    cases q : H p with
    | none => exact absurd q (R.used p (.inr ⟨i, e⟩))
    | some o => exact s _ _ q) fun p e => by
    cases q : H p with
    | none => exact absurd q (R.lent p e).2
    | some o => exact s _ _ q
/-- a slot gets a frozen value -/
def offW (n : Nat) (ow : Ows) (i : Nat) : Ows := fun j => if j = i ∧ i < n then none else ow j
def onW (ow : Ows) (i : Nat) (p : Addr) : Ows := fun j => if j = i then some p else ow j
theorem av_off {n i : Nat} : ∀ a, av c (offW n ow i) a → av c ow a := by
  intro a h
  rcases h with h | ⟨j, h⟩
  · exact .inl h
  · unfold offW at h
    split at h
    · cases h
    · exact .inr ⟨j, h⟩
theorem off_vx {n i : Nat} : ∀ d j q, ow (vx n d j) = some q → offW n ow i (vx n d j) = some q := by
  intro d j q h
  unfold offW
  rw [if_neg (by rintro ⟨z, hi⟩; unfold vx at z; omega)]
  exact h
theorem RepS.setV (R : RepS K G c H ow ps σ) {i : Nat} {w : PV} {v : V} (r : Rep K G H (av c ow) w v) : RepS K G c H (offW ps.length ow i) (ps.set i (.v w)) (σ.set i (some v)) := by
  have k : Kp K G H (av c ow) H (av c (offW ps.length ow i)) := Kp.weak av_off
  refine ⟨by simp [R.len], R.same, R.lent, R.a0, R.b0, fun j p e => ?_, fun j j' p e e' => ?_, fun j p h => ?_, fun j x o e1 e2 => ?_⟩
  · unfold offW at e; split at e
    · cases e
    · exact R.fresh j p e
  · unfold offW at e e'
    split at e
    · cases e
    · split at e'
      · cases e'
      · exact R.inj j j' p e e'
  · unfold offW at h; split at h
    · cases h
    · rw [List.length_set]; exact R.out j p h
  · rw [List.length_set]
    by_cases hj : j = i
    · subst hj
      have hl : j < ps.length := by
        have := (List.getElem?_eq_some_iff.mp e1).1
        simpa using this
      rw [List.getElem?_set_self hl] at e1
      rw [List.getElem?_set_self (by rw [← R.len]; exact hl)] at e2
      cases e1; cases e2
      exact ⟨by unfold offW; rw [if_pos ⟨rfl, hl⟩], v, rfl, k.rep r⟩
    · rw [List.getElem?_set_ne (fun z => hj z.symm)] at e1 e2
      have eo : offW ps.length ow i j = ow j := by unfold offW; rw [if_neg (fun z => hj z.1)]
      exact (R.slot j x o e1 e2).keep R.b0 R.same R.same k eo off_vx (fun _ _ => rfl) (fun _ _ _ _ => rfl) (fun _ _ => rfl)
/-- a slot gets a new thing, its own -/
theorem on_vx {n i : Nat} {p : Addr} (hi : i < n) : ∀ d j q, ow (vx n d j) = some q → onW ow i p (vx n d j) = some q := by
  intro d j q h
  unfold onW
  rw [if_neg (by intro z; unfold vx at z; omega)]
  exact h
/-- a new address is taken -/
theorem RepS.setN (R : RepS K G c H ow ps σ) {i : Nat} {x : Sl} {p : Addr} (hi : i < ps.length) (hs : Same H H') (hp : H p = none) (hp' : H' p ≠ none) (r : SlAt K G c ps.length H' (av c (onW ow i p)) (onW ow i p) i x (some (.ref p))) :
    RepS K G c H' (onW ow i p) (ps.set i x) (σ.set i (some (.ref p))) := by
  have hav : ∀ a, av c (onW ow i p) a → av c ow a ∨ a = p := by
    intro a h
    rcases h with h | ⟨j, h⟩
    · exact .inl (.inl h)
    · unfold onW at h
      split at h
      · cases h; exact .inr rfl
      · exact .inl (.inr ⟨j, h⟩)
  have k : Kp K G H (av c ow) H' (av c (onW ow i p)) := Kp.take hp hs fun a h => (hav a h).symm
  have nl : c.lx ≠ some p := fun z => (R.lent p z).2 hp
  have us : ∀ j q, ow j = some q → H' q = H q := fun j q e => by
    cases h : H q with
    | none => exact absurd h (R.used q (.inr ⟨j, e⟩))
    | some o => exact hs _ _ h
  refine ⟨by simp [R.len], R.same.trans hs, fun q h => ⟨(R.lent q h).1, fun z => (R.lent q h).2 (hs.free z)⟩, R.a0, R.b0, fun j q e => ?_, fun j j' q e e' => ?_, fun j q h => ?_, fun j y o e1 e2 => ?_⟩
  · unfold onW at e; split at e
    · cases e; exact R.same.free hp nl
    · exact R.fresh j q e
  · unfold onW at e e'
    split at e
    · cases e
      split at e'
      · rename_i h1 h2; rw [h1, h2]
      · exact absurd hp (R.used _ (.inr ⟨j', e'⟩))
    · split at e'
      · cases e'
        exact absurd hp (R.used _ (.inr ⟨j, e⟩))
      · exact R.inj j j' q e e'
  · unfold onW at h; split at h
    · rename_i z; cases h; left; rw [List.length_set, z]; exact hi
    · rw [List.length_set]
      rcases R.out j q h with z | z
      · exact .inl z
      · right; rw [us j q h]; exact z
  · rw [List.length_set]
    by_cases hj : j = i
    · subst hj
      rw [List.getElem?_set_self hi] at e1
      rw [List.getElem?_set_self (by rw [← R.len]; exact hi)] at e2
      cases e1; cases e2
      exact r
    · rw [List.getElem?_set_ne (fun z => hj z.symm)] at e1 e2
      have eo : onW ow i p j = ow j := by unfold onW; rw [if_neg hj]
      refine (R.slot j y o e1 e2).keep R.b0 R.same (R.same.trans hs) k eo (on_vx hi) (fun q h => us j q h) (fun _ q _ h => us _ q h) (fun q h => ?_)
      cases z : H q with
      | none => exact absurd z (R.lent q h).2
      | some o => exact hs _ _ z
theorem RepS.setO (R : RepS K G c H ow ps σ) {i : Nat} {x : Ow} {p : Addr} (hi : i < ps.length) (hs : Same H H') (hp : H p = none) (r : RepO K G H' (fun a => av c ow a ∨ a = p) x p) :
    RepS K G c H' (onW ow i p) (ps.set i (.own x)) (σ.set i (some (.ref p))) := by
  have hav : ∀ a, av c (onW ow i p) a → av c ow a ∨ a = p := by
    intro a h
    rcases h with h | ⟨j, h⟩
    · exact .inl (.inl h)
    · unfold onW at h
      split at h
      · cases h; exact .inr rfl
      · exact .inl (.inr ⟨j, h⟩)
  have k2 : Kp K G H' (fun a => av c ow a ∨ a = p) H' (av c (onW ow i p)) := Kp.weak hav
  obtain ⟨o, ho, _⟩ := r.at
  exact R.setN hi hs hp (by rw [ho]; simp) ⟨p, by unfold onW; rw [if_pos rfl], rfl, r.keep k2 rfl⟩
/-- a thing of one's own changes -/
theorem RepS.chg (R : RepS K G c H ow ps σ) {i : Nat} {x y : Ow} {p : Addr} {u : HO} (e : ps[i]? = some (.own x)) (ep : ow i = some p) (r : RepO K G (upd H p u) (av c ow) y p) :
    RepS K G c (upd H p u) ow (ps.set i (.own y)) σ ∧ Kp K G H (av c ow) (upd H p u) (av c ow) := by
  obtain ⟨p', e1, e2, r1⟩ := R.getO e
  rw [ep] at e1; cases e1
  obtain ⟨o, eo, m⟩ := r1.at
  have k : Kp K G H (av c ow) (upd H p u) (av c ow) := Kp.own (.inr ⟨i, ep⟩) eo m
  have sm : SmL c (upd H p u) := fun b o' h n => by
    rw [upd_ne (by intro z; subst z; rw [R.fresh i b ep] at h; cases h)]
    exact R.same _ _ h n
  have npl : ∀ q, c.lx = some q → q ≠ p := fun q h z => by
    subst z
    exact absurd (R.fresh i q ep) (R.a0 q (R.lent q h).1)
  have us : ∀ j q, j ≠ i → ow j = some q → upd H p u q = H q := fun j q hj h => upd_ne (by intro z; subst z; exact hj (R.inj j i q h ep))
  have hl : i < ps.length := (List.getElem?_eq_some_iff.mp e).1
  refine ⟨⟨by simp [R.len], sm, fun q h => ⟨(R.lent q h).1, by rw [upd_ne (npl q h)]; exact (R.lent q h).2⟩, R.a0, R.b0, R.fresh, R.inj, fun j q h => ?_, fun j z o' h1 h2 => ?_⟩, k⟩
  · rw [List.length_set]
    by_cases hj : j = i
    · left; rw [hj]; exact hl
    · rcases R.out j q h with z | z
      · exact .inl z
      · right; rw [us j q hj h]; exact z
  · rw [List.length_set]
    by_cases hj : j = i
    · subst hj
      rw [List.getElem?_set_self hl] at h1
      cases h1
      rw [e2] at h2; cases h2
      exact ⟨p, ep, rfl, r⟩
    · rw [List.getElem?_set_ne (fun z => hj z.symm)] at h1
      exact (R.slot j z o' h1 h2).keep R.b0 R.same sm k rfl (fun _ _ _ h => h) (fun q h => us j q hj h) (fun jj q _ h => us _ q (by unfold vx; omega) h) (fun q h => upd_ne (npl q h))
/-- a slot's own thing is frozen -/
theorem RepS.frz (R : RepS K G c H ow ps σ) {i : Nat} {x : Ow} (e : ps[i]? = some (.own x)) : ∃ p, σ[i]? = some (some (.ref p)) ∧ RepS K G c H (offW ps.length ow i) (ps.set i (.v x.pv)) σ ∧ Rep K G H (av c (offW ps.length ow i)) x.pv (.ref p) ∧ Kp K G H (av c ow) H (av c (offW ps.length ow i)) := by
  obtain ⟨p, e1, e2, r1⟩ := R.getO e
  have hl : i < ps.length := (List.getElem?_eq_some_iff.mp e).1
  have k : Kp K G H (av c ow) H (av c (offW ps.length ow i)) := Kp.weak av_off
  have np : ¬ av c (offW ps.length ow i) p := by
    rintro (h | ⟨j, h⟩)
    · exact absurd (R.fresh i p e1) (R.a0 p h)
    · unfold offW at h
      split at h
      · cases h
      · rename_i hj; exact hj ⟨R.inj j i p h e1, hl⟩
  have rp : Rep K G H (av c (offW ps.length ow i)) x.pv (.ref p) := (r1.keep k rfl).freeze np
  refine ⟨p, e2, ⟨by simp [R.len], R.same, R.lent, R.a0, R.b0, fun j p e => ?_, fun j j' p e e' => ?_, fun j q h => ?_, fun j z o h1 h2 => ?_⟩, rp, k⟩
  · unfold offW at e; split at e
    · cases e
    · exact R.fresh j p e
  · unfold offW at e e'
    split at e
    · cases e
    · split at e'
      · cases e'
      · exact R.inj j j' p e e'
  · unfold offW at h; split at h
    · cases h
    · rw [List.length_set]; exact R.out j q h
  · rw [List.length_set]
    by_cases hj : j = i
    · subst hj
      rw [List.getElem?_set_self hl] at h1
      cases h1
      rw [e2] at h2; cases h2
      exact ⟨by unfold offW; rw [if_pos ⟨rfl, hl⟩], _, rfl, rp⟩
    · rw [List.getElem?_set_ne (fun z => hj z.symm)] at h1
      have eo : offW ps.length ow i j = ow j := by unfold offW; rw [if_neg (fun z => hj z.1)]
      exact (R.slot j z o h1 h2).keep R.b0 R.same R.same k eo off_vx (fun _ _ => rfl) (fun _ _ _ _ => rfl) (fun _ _ => rfl)
/-- the lent thing changes -/
theorem RepS.chgL (R : RepS K G c H ow ps σ) {s s' : Sl} {p : Addr} {o u : HO} (e : ps[0]? = some s) (hl : c.lx = some p) (hp : H p = some o) (m : Mt o) (r : ∀ v, σ[0]? = some v → SlAt K G c ps.length (upd H p u) (av c ow) ow 0 s' v) :
    RepS K G c (upd H p u) ow (ps.set 0 s') σ ∧ Kp K G H (av c ow) (upd H p u) (av c ow) := by
  have hA := (R.lent p hl).1
  have k : Kp K G H (av c ow) (upd H p u) (av c ow) := Kp.own (.inl hA) hp m
  have sm : SmL c (upd H p u) := fun b o' h n => by
    rw [upd_ne (by intro z; subst z; exact n hl)]
    exact R.same _ _ h n
  have us : ∀ j q, ow j = some q → upd H p u q = H q := fun j q h => upd_ne (by intro z; subst z; exact absurd (R.fresh j q h) (R.a0 q hA))
  refine ⟨⟨by simp [R.len], sm, fun q h => ⟨(R.lent q h).1, ?_⟩, R.a0, R.b0, R.fresh, R.inj, fun j q h => ?_, fun j z o' h1 h2 => ?_⟩, k⟩
  · rw [hl] at h; cases h; rw [upd_same]; simp
  · rw [List.length_set]
    rcases R.out j q h with z | z
    · exact .inl z
    · right; rw [us j q h]; exact z
  · rw [List.length_set]
    by_cases hj : j = 0
    · subst hj
      have hlt : 0 < ps.length := (List.getElem?_eq_some_iff.mp e).1
      rw [List.getElem?_set_self hlt] at h1
      cases h1
      exact r o' h2
    · rw [List.getElem?_set_ne (fun z => hj z.symm)] at h1
      have q := R.slot j z o' h1 h2
      cases z with
      | no => exact q
      | v w' => obtain ⟨z, v', e3, r'⟩ := q; exact ⟨z, v', e3, k.rep r'⟩
      | own y' => obtain ⟨p', e3, e4, r'⟩ := q; exact ⟨p', e3, e4, r'.keep k (us j p' e3)⟩
      | bor w => obtain ⟨z, v', e3, r'⟩ := q; exact ⟨z, v', e3, bor_keep R.b0 R.same sm k r'⟩
      | ino y => exact absurd q.2.1 hj
      | ini kk xs => exact absurd q.2.1 hj
      | dol ks xss =>
        obtain ⟨p', qs, e1, e2, hp', l1, l2, l3, h⟩ := q
        refine ⟨p', qs, e1, e2, by rw [us j p' e1]; exact hp', l1, l2, l3, fun jj q xs h1 h2 => ?_⟩
        obtain ⟨h3, h4⟩ := h jj q xs h1 h2
        exact ⟨h3, h4.keep k (us _ q h3)⟩
      | als d jj => exact q
end
end DN
end
section
set_option Elab.async false
set_option linter.all false
set_option maxRecDepth 100000
set_option maxHeartbeats 4000000
namespace DN
open PySem PySem.Spec PyProof.Rows L2
abbrev DP := PSt → Rx PV
abbrev DA := PSt → Rx (List PV)
abbrev DT := PSt → Rx Bool
abbrev DM := PSt → Rx (PV × PSt)
abbrev DMA := PSt → Rx (List PV × PSt)
/-- an expression that changes nothing; one that is only looked at; a test; arguments (true: only looked at); a new list -/
def tPv (K : PySem.W.Frag) (G : Pg) (d : DP) : TE := fun σ H Q => ∃ (c : Fr) (ow : Ows) (ps : PSt) (w : PV), RepS K G c H ow ps σ ∧ d ps = .ok w ∧ ∀ v H', Same H H' → Rep K G H' (av c ow) w v → Q v H'
def tPb (K : PySem.W.Frag) (G : Pg) (d : DP) : TE := fun σ H Q => ∃ (c : Fr) (ow : Ows) (ps : PSt) (w : PV), RepS K G c H ow ps σ ∧ d ps = .ok w ∧ ∀ v H', Same H H' → RepB K G H' (av c ow) w v → Q v H'
def tPt (K : PySem.W.Frag) (G : Pg) (d : DT) : TT := fun σ H Q => ∃ (c : Fr) (ow : Ows) (ps : PSt) (b : Bool), RepS K G c H ow ps σ ∧ d ps = .ok b ∧ ∀ H', Same H H' → Q b H'
def RepM (K : PySem.W.Frag) (G : Pg) (H : Hp) (A : Av) : List Bool → List PV → List V → Prop
  | [], ws, vs => ws = [] ∧ vs = []
  | m :: ms, ws, vs => ∃ w wr v vr, ws = w :: wr ∧ vs = v :: vr ∧ (if m = true then RepB K G H A w v else Rep K G H A w v) ∧ RepM K G H A ms wr vr
def tPa (K : PySem.W.Frag) (G : Pg) (ms : List Bool) (d : DA) : TA := fun σ H Q => ∃ (c : Fr) (ow : Ows) (ps : PSt) (ws : List PV), RepS K G c H ow ps σ ∧ d ps = .ok ws ∧ ∀ vs H', Same H H' → RepM K G H' (av c ow) ms ws vs → Q vs H'
/-- the new list stands at p, apart from all that is known -/
def tPn (K : PySem.W.Frag) (G : Pg) (d : DA) : TE := fun σ H Q => ∃ (c : Fr) (ow : Ows) (ps : PSt) (ws : List PV), RepS K G c H ow ps σ ∧ d ps = .ok ws ∧ ∀ p vs H', Same H H' → H p = none → H' p = some (.lst vs) → Reps K G H' (fun a => av c ow a ∨ a = p) ws vs → Q (.ref p) H'
/-- one that may change things of one's own -/
def tMv (K : PySem.W.Frag) (G : Pg) (d : DM) : TE := fun σ H Q => ∃ (c : Fr) (ow : Ows) (ps : PSt) (w : PV) (ps' : PSt), RepS K G c H ow ps σ ∧ d ps = .ok (w, ps') ∧
  ∀ v H' ow', RepS K G c H' ow' ps' σ → Kp K G H (av c ow) H' (av c ow') → Rep K G H' (av c ow') w v → Q v H'
def tMa (K : PySem.W.Frag) (G : Pg) (d : DMA) : TA := fun σ H Q => ∃ (c : Fr) (ow : Ows) (ps : PSt) (ws : List PV) (ps' : PSt), RepS K G c H ow ps σ ∧ d ps = .ok (ws, ps') ∧
  ∀ vs H' ow', RepS K G c H' ow' ps' σ → Kp K G H (av c ow) H' (av c ow') → Reps K G H' (av c ow') ws vs → Q vs H'
abbrev JP (X : Cx) (G : Pg) (e : Expr) (d : DP) : Prop := PE X e (tPv X.K G d)
abbrev JB (X : Cx) (G : Pg) (e : Expr) (d : DP) : Prop := PE X e (tPb X.K G d)
abbrev JT (X : Cx) (G : Pg) (e : Expr) (d : DT) : Prop := PT X e (tPt X.K G d)
abbrev JW (X : Cx) (G : Pg) (e : Expr) (d : DT) : Prop := PW X e (tPt X.K G d)
abbrev JA (X : Cx) (G : Pg) (ms : List Bool) (es : List Expr) (d : DA) : Prop := PA X es (tPa X.K G ms d)
abbrev JN (X : Cx) (G : Pg) (e : Expr) (d : DA) : Prop := PE X e (tPn X.K G d)
abbrev JM (X : Cx) (G : Pg) (e : Expr) (d : DM) : Prop := PE X e (tMv X.K G d)
abbrev JMA (X : Cx) (G : Pg) (es : List Expr) (d : DMA) : Prop := PA X es (tMa X.K G d)
theorem imp {X : Cx} {e : Expr} {t t' : TE} (h : PE X e t) (f : ∀ σ H Q, t' σ H Q → t σ H Q) : PE X e t' := fun pins s σ H Q I q => h pins s σ H Q I (f σ H Q q)
theorem impT {X : Cx} {e : Expr} {t t' : TT} (h : PT X e t) (f : ∀ σ H Q, t' σ H Q → t σ H Q) : PT X e t' := fun pins s σ H Q I q => h pins s σ H Q I (f σ H Q q)
theorem impW {X : Cx} {e : Expr} {t t' : TT} (h : PW X e t) (f : ∀ σ H Q, t' σ H Q → t σ H Q) : PW X e t' := fun wh pins s σ H Q I q => h wh pins s σ H Q I (f σ H Q q)
theorem impA {X : Cx} {es : List Expr} {t t' : TA} (h : PA X es t) (f : ∀ σ H Q, t' σ H Q → t σ H Q) : PA X es t' := fun pos pins s σ H Q I q => h pos pins s σ H Q I (f σ H Q q)
section
variable {K : PySem.W.Frag} {G : Pg} {H H' : Hp} {A A' : Av}
theorem RepB.same {w : PV} {v : V} (h : RepB K G H A w v) (s : Same H H') : RepB K G H' A w v := by
  rcases h with h | ⟨x, p, e1, e2, r⟩
  · exact .inl (h.same s)
  · obtain ⟨o, eo, _⟩ := r.at
    exact .inr ⟨x, p, e1, e2, r.keep (Kp.of_same s) (by rw [s _ _ eo, eo])⟩
theorem RepM.same : ∀ {ms : List Bool} {ws : List PV} {vs : List V}, RepM K G H A ms ws vs → Same H H' → RepM K G H' A ms ws vs
  | [], ws, vs, h, s => h
  | m :: ms, ws, vs, h, s => by
    obtain ⟨w, wr, v, vr, e1, e2, r, rr⟩ := h
    refine ⟨w, wr, v, vr, e1, e2, ?_, RepM.same rr s⟩
    cases m with
    | true => rw [if_pos rfl] at r ⊢; exact r.same s
    | false => rw [if_neg Bool.false_ne_true] at r ⊢; exact r.same s
theorem RepB.lst {xs : List PV} {v : V} (h : RepB K G H A (.lst xs) v) : ∃ a vs, v = .ref a ∧ SqL K H a vs ∧ Reps K G H A xs vs := by
  rcases h with ⟨a, vs, e, r, q⟩ | ⟨x, p, e1, e2, r⟩
  · exact ⟨a, vs, e, r.sq, q⟩
  · cases x with
    | lst ys => cases e1; obtain ⟨vs, q, r⟩ := r; exact ⟨p, vs, e2, SqL.of q, r⟩
    | dic ks ys => cases e1
    | dit ks ys => cases e1
    | obj k ys => cases e1
theorem RepB.tup {xs : List PV} {v : V} (h : RepB K G H A (.tup xs) v) : ∃ a vs, v = .ref a ∧ SqT K H a vs ∧ Reps K G H A xs vs := by
  rcases h with h | ⟨x, p, e1, e2, r⟩
  · exact h
  · cases x <;> cases e1
theorem RepB.int {i : Int} {v : V} (h : RepB K G H A (.int i) v) : v = .int i := by
  rcases h with h | ⟨x, p, e1, e2, r⟩
  · exact h
  · cases x <;> cases e1
theorem RepB.str {i : Str} {v : V} (h : RepB K G H A (.str i) v) : v = .str i := by
  rcases h with h | ⟨x, p, e1, e2, r⟩
  · exact h
  · cases x <;> cases e1
theorem RepB.bl {i : Bool} {v : V} (h : RepB K G H A (.bl i) v) : v = .bl i := by
  rcases h with h | ⟨x, p, e1, e2, r⟩
  · exact h
  · cases x <;> cases e1
theorem RepB.non {v : V} (h : RepB K G H A .non v) : v = .non := by
  rcases h with h | ⟨x, p, e1, e2, r⟩
  · exact h
  · cases x <;> cases e1
theorem RepB.obj {k : Nat} {xs : List PV} {v : V} (h : RepB K G H A (.obj k xs) v) : ∃ a dx vs, v = .ref a ∧ H a = some (.ins (G.cA k) dx ((G.fN k).zip vs)) ∧ (G.fN k).length = vs.length ∧ Reps K G H A xs vs := by
  rcases h with ⟨a, dx, vs, e, q, l, n, r⟩ | ⟨x, p, e1, e2, r⟩
  · exact ⟨a, dx, vs, e, q, l, r⟩
  · cases x with
    | lst ys => cases e1
    | dic ks ys => cases e1
    | dit ks ys => cases e1
    | obj k' ys => cases e1; obtain ⟨dx, vs, q, l, r⟩ := r; exact ⟨p, dx, vs, e2, q, l, r⟩
theorem RepB.dic {ks : List Key} {xs : List PV} {v : V} (h : RepB K G H A (.dic ks xs) v) : ∃ a vs, v = .ref a ∧ H a = some (.dK (ks.zip vs)) ∧ ks.length = vs.length ∧ Reps K G H A xs vs := by
  rcases h with ⟨a, vs, e, q, l, n, r⟩ | ⟨x, p, e1, e2, r⟩
  · exact ⟨a, vs, e, q, l, r⟩
  · cases x with
    | lst ys => cases e1
    | dic ks' ys => cases e1; obtain ⟨vs, q, l, r⟩ := r; exact ⟨p, vs, e2, q, l, r⟩
    | dit ks ys => cases e1
    | obj k ys => cases e1
theorem RepB.dit {ks : List (List Key)} {xs : List PV} {v : V} (h : RepB K G H A (.dit ks xs) v) : ∃ a vs, v = .ref a ∧ H a = some (.dT (ks.zip vs)) ∧ ks.length = vs.length ∧ Reps K G H A xs vs := by
  rcases h with ⟨a, vs, e, q, l, n, r⟩ | ⟨x, p, e1, e2, r⟩
  · exact ⟨a, vs, e, q, l, r⟩
  · cases x with
    | lst ys => cases e1
    | dic ks ys => cases e1
    | dit ks' ys => cases e1; obtain ⟨vs, q, l, r⟩ := r; exact ⟨p, vs, e2, q, l, r⟩
    | obj k ys => cases e1
theorem RepB.clo {f : Nat} {xs : List PV} {v : V} (h : RepB K G H A (.clo f xs) v) : Rep K G H A (.clo f xs) v := by
  rcases h with h | ⟨x, p, e1, e2, r⟩
  · exact h
  · cases x <;> cases e1
theorem RepM.reps : ∀ {ws : List PV} {vs : List V} {n : Nat}, RepM K G H A (List.replicate n false) ws vs → Reps K G H A ws vs
  | ws, vs, 0, h => by obtain ⟨rfl, rfl⟩ := h; rfl
  | ws, vs, n + 1, h => by
    obtain ⟨w, wr, v, vr, rfl, rfl, r, rr⟩ := h
    rw [if_neg Bool.false_ne_true] at r
    exact ⟨v, vr, rfl, r, RepM.reps rr⟩
theorem RepM.len : ∀ {ms : List Bool} {ws : List PV} {vs : List V}, RepM K G H A ms ws vs → ws.length = ms.length ∧ vs.length = ms.length
  | [], ws, vs, h => by obtain ⟨rfl, rfl⟩ := h; exact ⟨rfl, rfl⟩
  | m :: ms, ws, vs, h => by
    obtain ⟨w, wr, v, vr, rfl, rfl, r, rr⟩ := h
    have := RepM.len rr
    simp [this]
theorem RepM.weak : ∀ {ms : List Bool} {ws : List PV} {vs : List V}, Reps K G H A ws vs → ws.length = ms.length → RepM K G H A ms ws vs
  | [], [], vs, h, _ => ⟨rfl, h⟩
  | [], _ :: _, vs, h, l => by simp at l
  | m :: ms, [], vs, h, l => by simp at l
  | m :: ms, w :: ws, vs, h, l => by
    obtain ⟨v, r, e, h1, h2⟩ := h
    refine ⟨w, ws, v, r, rfl, e, ?_, RepM.weak h2 (by simpa using l)⟩
    cases m with
    | true => rw [if_pos rfl]; exact .inl h1
    | false => rw [if_neg Bool.false_ne_true]; exact h1
end
section
variable {X : Cx} {G : Pg} {e a b : Expr} {da db : DP} {pos : Pos}
/-! ### coercions -/
theorem b_of (h : JP X G e da) : JB X G e da := imp h fun σ H Q ⟨c, ow, ps, w, R, e, q⟩ => ⟨c, ow, ps, w, R, e, fun v H' s r => q v H' s (.inl r)⟩
def dOfN (d : DA) : DP := fun ps => (d ps).bind fun ws => .ok (.lst ws)
theorem p_of_n {d : DA} (h : JN X G e d) : JP X G e (dOfN d) := imp h fun σ H Q ⟨c, ow, ps, w, R, e, q⟩ => by
  obtain ⟨ws, e1, e2⟩ := bind_ok e
  cases e2
  refine ⟨c, ow, ps, ws, R, e1, fun p vs H' s hp hv r => q (.ref p) H' s ⟨p, vs, rfl, .inl ⟨hv, fun z => R.used p z hp⟩, (Kp.weak fun a z => Or.inl z).reps r⟩⟩
def dLift (d : DP) : DM := fun ps => (d ps).bind fun w => .ok (w, ps)
theorem m_of (h : JP X G e da) : JM X G e (dLift da) := imp h fun σ H Q ⟨c, ow, ps, w, ps', R, e, q⟩ => by
  obtain ⟨w1, e1, e2⟩ := bind_ok e
  cases e2
  exact ⟨c, ow, ps, w, R, e1, fun v H' s r => q v H' ow (R.grow s) (Kp.of_same s) r⟩
/-! ### names and constants -/
def dVar (i : Nat) : DP := fun ps => match ps[i]? with | some (.v w) => .ok w | _ => .bad
def dSee (i : Nat) : DP := fun ps => match ps[i]? with | some (.v w) => .ok w | some (.own x) => .ok x.pv | some (.bor w) => .ok w | _ => .bad
theorem p_var (i : Nat) {x : Str} {pos : Pos} (hN : X.N[i]? = some x := by rfl) (hv : Vis X.env.scope x := by first | exact Or.inl rfl | exact Or.inr (Or.inl rfl) | exact Or.inr (Or.inr rfl)) (hd : (x == ("__debug__" : Str)) = false := by decide)
    (hcd : (x == ("__classdict__" : Str)) = false := by decide) : JP X G (.Name x pos) (dVar i) := imp (pe_var hN hv hd hcd) fun σ H Q ⟨c, ow, ps, w, R, e, q⟩ => by
  unfold dVar at e
  split at e
  · rename_i w' h
    cases e
    obtain ⟨v, ev, r⟩ := R.getV h
    exact ⟨v, ev, q v H (Same.refl H) r⟩
  · cases e
theorem b_var (i : Nat) {x : Str} {pos : Pos} (hN : X.N[i]? = some x := by rfl) (hv : Vis X.env.scope x := by first | exact Or.inl rfl | exact Or.inr (Or.inl rfl) | exact Or.inr (Or.inr rfl)) (hd : (x == ("__debug__" : Str)) = false := by decide)
    (hcd : (x == ("__classdict__" : Str)) = false := by decide) : JB X G (.Name x pos) (dSee i) := imp (pe_var hN hv hd hcd) fun σ H Q ⟨c, ow, ps, w, R, e, q⟩ => by
  unfold dSee at e
  split at e
  · rename_i w' h
    cases e
    obtain ⟨v, ev, r⟩ := R.getV h
    exact ⟨v, ev, q v H (Same.refl H) (.inl r)⟩
  · rename_i x' h
    cases e
    obtain ⟨p, e1, e2, r⟩ := R.getO h
    exact ⟨_, e2, q _ H (Same.refl H) (.inr ⟨x', p, rfl, rfl, r⟩)⟩
  · rename_i w' h
    cases e
    obtain ⟨o, eo, _, v, rfl, r⟩ := R.get h
    refine ⟨v, eo, q v H (Same.refl H) ?_⟩
    rcases r with r | ⟨x, p, e1, e2, r, _⟩
    · exact .inl r
    · exact .inr ⟨x, p, e1, e2, r⟩
  · cases e
def dC (w : PV) : DP := fun _ => .ok w
theorem p_con {t : V} {w : PV} (h : PE X e (tC t)) (hr : ∀ H A, Rep X.K G H A w t) : JP X G e (dC w) := imp h fun σ H Q ⟨c, ow, ps, w, R, e, q⟩ => by
  cases e
  exact q _ H (Same.refl H) (hr _ _)
theorem p_int {i j pos} : JP X G (.Constant (.int i) j pos) (dC (.int i)) := p_con pe_int fun _ _ => rfl
theorem p_bl {i j pos} : JP X G (.Constant (.bool i) j pos) (dC (.bl i)) := p_con pe_bl fun _ _ => rfl
theorem p_non {j pos} : JP X G (.Constant .none j pos) (dC .non) := p_con pe_non fun _ _ => rfl
theorem p_str {i j pos} : JP X G (.Constant (.str i) j pos) (dC (.str i)) := p_con pe_str fun _ _ => rfl
theorem p_topT {x : Str} {t : Addr} {ws : List PV} {vs : List V} {pos : Pos} (T : TopT X.K t vs) (hg : Gl X x) (hm : X.mg x = some (.ref t)) (hr : ∀ H A, Reps X.K G H A ws vs) (hd : (x == ("__debug__" : Str)) = false := by decide) : JP X G (.Name x pos) (dC (.tup ws)) :=
  p_con (pe_globR hg hm hd) fun H A => ⟨t, vs, rfl, T.sq H, hr H A⟩
theorem p_topI {x : Str} {i : Int} {tk : Tok} {pos : Pos} (hg : Gl X x) (hm : X.mg x = some (.int i tk)) (hd : (x == ("__debug__" : Str)) = false := by decide) : JP X G (.Name x pos) (dC (.int i)) := p_con (pe_globI hg hm hd) fun _ _ => rfl
/-! ### two operands -/
def d2 (f : PV → PV → Rx PV) (a b : DP) : DP := fun ps => (a ps).bind fun x => (b ps).bind fun y => f x y
abbrev Used (H : Hp) (A : Av) : Prop := ∀ a, A a → H a ≠ none
def Op2 (K : PySem.W.Frag) (G : Pg) (f : PV → PV → Rx PV) (r : R2) : Prop := ∀ (H : Hp) (A : Av) (x y w : PV) (v u : V) (Q : VK), Used H A → f x y = .ok w → RepB K G H A x v → RepB K G H A y u → (∀ z H', Same H H' → Rep K G H' A w z → Q z H') → r v u H Q
theorem bin2 {K : PySem.W.Frag} {f : PV → PV → Rx PV} {r : R2} (hf : Op2 K G f r) {σ : L2.St} {H : Hp} {Q : VK} (h : tPv K G (d2 f da db) σ H Q) : tOp r (tPb K G da) (tPb K G db) σ H Q := by
  obtain ⟨c, ow, ps, w, R, e, q⟩ := h
  obtain ⟨x, e1, e⟩ := bind_ok e
  obtain ⟨y, e2, e⟩ := bind_ok e
  exact ⟨c, ow, ps, x, R, e1, fun v H1 s1 r1 => ⟨c, ow, ps, y, R.grow s1, e2, fun u H2 s2 r2 => hf H2 _ x y w v u Q ((R.grow s1).grow s2).used e (r1.same s2) r2 fun z H3 s3 r3 => q z H3 ((s1.trans s2).trans s3) r3⟩⟩
theorem p_op {op : Operator} {r : R2} {f : PV → PV → Rx PV} (ho : OpR X (binaryOp op) r) (hf : Op2 X.K G f r) (ha : JB X G a da) (hb : JB X G b db) : JP X G (.BinOp a op b pos) (d2 f da db) := imp (pe_op ho ha hb) fun _ _ _ => bin2 hf
theorem p_cmp {op : CmpOp} {r : R2} {f : PV → PV → Rx PV} (ho : OpR X (compareOp op) r) (hf : Op2 X.K G f r) (ha : JB X G a da) (hb : JB X G b db) (hm : behindInMarks op b = false) : JP X G (.Compare a [op] [b] pos) (d2 f da db) := imp (pe_cmpR ho ha hb hm) fun _ _ _ => bin2 hf
def dTr (d : DP) : DT := fun ps => (d ps).bind fun x => match x with | .bl b => .ok b | _ => .bad
theorem t_cmp {op : CmpOp} {r : R2} {f : PV → PV → Rx PV} (ho : OpR X (compareOp op) r) (hf : Op2 X.K G f r) (ha : JB X G a da) (hb : JB X G b db) (hm : behindInMarks op b = false) : JT X G (.Compare a [op] [b] pos) (dTr (d2 f da db)) :=
  impT (pt_cmpR ho ha hb hm) fun σ H Q ⟨c, ow, ps, b, R, e, q⟩ => by
    obtain ⟨x, e1, e2⟩ := bind_ok e
    have : x = .bl b := by
      cases x <;> first | (cases e2; rfl) | cases e2
    subst this
    exact bin2 hf ⟨c, ow, ps, _, R, e1, fun v H' s r => ⟨b, r, q H' s⟩⟩
theorem p_ix {f : PV → PV → Rx PV} (hf : Op2 X.K G f (rIx X.K)) (ha : JB X G a da) (hb : JB X G b db) (hs : PlainIx b) : JP X G (.Subscript a b pos) (d2 f da db) := imp (pe_ix ix_seq ha hb hs) fun _ _ _ => bin2 hf
def fI (g : Int → Int → PV) : PV → PV → Rx PV
  | .int i, .int j => .ok (g i j)
  | _, _ => .bad
def fIc (C : Int → Int → Prop) [∀ i j, Decidable (C i j)] (g : Int → Int → PV) : PV → PV → Rx PV
  | .int i, .int j => if C i j then .ok (g i j) else .bad
  | _, _ => .bad
/-- a flat value as it is -/
def flat : PV → V
  | .non => .non | .bl b => .bl b | .int i => .int i | .str x => .str x | _ => .ref 0
theorem o2_I {K : PySem.W.Frag} {g : Int → Int → PV} {g' : Int → Int → V} (h : ∀ i j H A, Rep K G H A (g i j) (g' i j)) : Op2 K G (fI g) (rI0 g') := by
  intro H A x y w v u Q hu e r1 r2 q
  cases x <;> try cases e
  cases y <;> try cases e
  exact ⟨_, _, r1.int, r2.int, q _ H (Same.refl H) (h _ _ _ _)⟩
theorem o2_Ic {K : PySem.W.Frag} {C : Int → Int → Prop} [∀ i j, Decidable (C i j)] {C' : Int → Int → Prop} {g : Int → Int → PV} {g' : Int → Int → V} (hc : ∀ i j, C i j → C' i j) (h : ∀ i j H A, Rep K G H A (g i j) (g' i j)) : Op2 K G (fIc C g) (rI C' g') := by
  intro H A x y w v u Q hu e r1 r2 q
  cases x <;> try cases e
  cases y <;> try cases e
  rename_i i j
  have e : (if C i j then Rx.ok (g i j) else .bad) = .ok w := e
  split at e
  · rename_i hC
    cases e
    exact ⟨_, _, r1.int, r2.int, hc _ _ hC, q _ H (Same.refl H) (h _ _ _ _)⟩
  · cases e
abbrev fAdd := fI fun i j => .int (i + j)
abbrev fSub := fI fun i j => .int (i - j)
abbrev fLt := fI fun i j => .bl (decide (i < j))
abbrev fGt := fI fun i j => .bl (decide (j < i))
abbrev fGe := fI fun i j => .bl (decide (j ≤ i))
abbrev fAnd := fI fun i j => .int (Builtin.bitAnd i j)
abbrev fMul := fIc (fun i j => (-(2 ^ 64) < i ∧ i < 2 ^ 64) ∨ (-(2 ^ 64) < j ∧ j < 2 ^ 64)) fun i j => .int (i * j)
abbrev fMod := fIc (fun _ j => 0 < j) fun i j => .int (i % j)
abbrev fDiv := fIc (fun _ j => 0 < j ∧ j < 1073741824) fun i j => .int (i / j)
abbrev fShr := fIc (fun _ j => 0 ≤ j) fun i j => .int (i / 2 ^ j.toNat)
theorem p_add (ha : JB X G a da) (hb : JB X G b db) : JP X G (.BinOp a .Add b pos) (d2 fAdd da db) := p_op op_add (o2_I fun _ _ _ _ => rfl) ha hb
theorem p_sub (ha : JB X G a da) (hb : JB X G b db) : JP X G (.BinOp a .Sub b pos) (d2 fSub da db) := p_op op_sub (o2_I fun _ _ _ _ => rfl) ha hb
theorem p_and (ha : JB X G a da) (hb : JB X G b db) : JP X G (.BinOp a .BitAnd b pos) (d2 fAnd da db) := p_op op_and (o2_I fun _ _ _ _ => rfl) ha hb
theorem p_mul (ha : JB X G a da) (hb : JB X G b db) : JP X G (.BinOp a .Mult b pos) (d2 fMul da db) := p_op op_mul (o2_Ic (fun _ _ h => h) fun _ _ _ _ => rfl) ha hb
theorem p_mod (ha : JB X G a da) (hb : JB X G b db) : JP X G (.BinOp a .Mod b pos) (d2 fMod da db) := p_op op_mod (o2_Ic (fun _ _ h => h) fun _ _ _ _ => rfl) ha hb
theorem p_div (ha : JB X G a da) (hb : JB X G b db) : JP X G (.BinOp a .FloorDiv b pos) (d2 fDiv da db) := p_op op_fdiv (o2_Ic (fun _ _ h => h) fun _ _ _ _ => rfl) ha hb
theorem p_shr (ha : JB X G a da) (hb : JB X G b db) : JP X G (.BinOp a .RShift b pos) (d2 fShr da db) := p_op op_shr (o2_Ic (fun _ _ h => h) fun _ _ _ _ => rfl) ha hb
theorem t_lt (ha : JB X G a da) (hb : JB X G b db) : JT X G (.Compare a [.Lt] [b] pos) (dTr (d2 fLt da db)) := t_cmp op_lt (o2_I fun _ _ _ _ => rfl) ha hb (nomark _)
theorem t_gt (ha : JB X G a da) (hb : JB X G b db) : JT X G (.Compare a [.Gt] [b] pos) (dTr (d2 fGt da db)) := t_cmp op_gt (o2_I fun _ _ _ _ => rfl) ha hb (nomark _)
theorem t_ge (ha : JB X G a da) (hb : JB X G b db) : JT X G (.Compare a [.GtE] [b] pos) (dTr (d2 fGe da db)) := t_cmp op_ge (o2_I fun _ _ _ _ => rfl) ha hb (nomark _)
/-! ### texts -/
def fCatS : PV → PV → Rx PV
  | .str x, .str y => if x.length + y.length ≤ sizeLine then .ok (.str (x ++ y)) else .bad
  | _, _ => .bad
theorem p_catS (ha : JB X G a da) (hb : JB X G b db) : JP X G (.BinOp a .Add b pos) (d2 fCatS da db) := p_op op_add_str (by
  intro H A x y w v u Q hu e r1 r2 q
  cases x <;> try cases e
  cases y <;> try cases e
  rename_i x y
  have e : (if x.length + y.length ≤ sizeLine then Rx.ok (PV.str (x ++ y)) else .bad) = .ok w := e
  split at e
  · rename_i h; cases e; exact ⟨_, _, r1.str, r2.str, h, q _ H (Same.refl H) rfl⟩
  · cases e) ha hb
/-! ### is None -/
def isN : PV → Bool
  | .non => true
  | _ => false
def dIsN (d : DP) : DP := fun ps => (d ps).bind fun x => .ok (.bl (isN x))
def dNotN (d : DP) : DP := fun ps => (d ps).bind fun x => .ok (.bl (!isN x))
theorem isN_dec {K : PySem.W.Frag} {H : Hp} {A : Av} {x : PV} {v : V} (r : RepB K G H A x v) : decide (v = .non) = isN x := by
  cases x with
  | non => rw [r.non]; rfl
  | bl b => rw [r.bl]; rfl
  | int i => rw [r.int]; rfl
  | str i => rw [r.str]; rfl
  | tup xs => obtain ⟨a, vs, e, _⟩ := r.tup; rw [e]; rfl
  | lst xs => obtain ⟨a, vs, e, _⟩ := r.lst; rw [e]; rfl
  | obj k xs => obtain ⟨a, dx, vs, e, _⟩ := r.obj; rw [e]; rfl
  | dic ks xs => obtain ⟨a, vs, e, _⟩ := r.dic; rw [e]; rfl
  | dit ks xs => obtain ⟨a, vs, e, _⟩ := r.dit; rw [e]; rfl
  | clo f xs => obtain ⟨a, cl, vs, e, _⟩ := r.clo; rw [e]; rfl
theorem p_isN {j pos'} (ha : JB X G a da) : JP X G (.Compare a [.Is] [.Constant .none j pos'] pos) (dIsN da) := imp (pe_cmp (pc_isN ha)) fun σ H Q ⟨c, ow, ps, w, R, e, q⟩ => by
  obtain ⟨x, e1, e2⟩ := bind_ok e
  cases e2
  exact ⟨c, ow, ps, x, R, e1, fun v H' s r => q _ H' s (by show _ = _; rw [isN_dec r])⟩
theorem p_notN {j pos'} (ha : JB X G a da) : JP X G (.Compare a [.IsNot] [.Constant .none j pos'] pos) (dNotN da) := imp (pe_cmp (pc_notN ha)) fun σ H Q ⟨c, ow, ps, w, R, e, q⟩ => by
  obtain ⟨x, e1, e2⟩ := bind_ok e
  cases e2
  exact ⟨c, ow, ps, x, R, e1, fun v H' s r => q _ H' s (by show _ = _; rw [isN_dec r])⟩
/-! ### tests: a truth, and, or, not -/
theorem t_val {d : DP} (h : JP X G e d) (he : ∀ whole, isTrue e X.env whole = (do let v ← whole; standAt e.pos; holding [v] (truthy v)) := by intro _; rfl) : JT X G e (dTr d) := impT (pt_val h he) fun σ H Q ⟨c, ow, ps, b, R, e, q⟩ => by
  obtain ⟨x, e1, e2⟩ := bind_ok e
  have : x = .bl b := by
    cases x <;> first | (cases e2; rfl) | cases e2
  subst this
  exact ⟨c, ow, ps, _, R, e1, fun v H' s r => ⟨b, r, q H' s⟩⟩
def dAndT (a b : DT) : DT := fun ps => (a ps).bind fun x => if x = true then b ps else .ok false
def dOrT (a b : DT) : DT := fun ps => (a ps).bind fun x => if x = true then .ok true else b ps
def dNotT (a : DT) : DT := fun ps => (a ps).bind fun x => .ok (!x)
theorem and_t {K : PySem.W.Frag} {ta tb : DT} {σ : L2.St} {H : Hp} {Q : Bool → Hp → Prop} (h : tPt K G (dAndT ta tb) σ H Q) : tAnd (tPt K G ta) (tPt K G tb) σ H Q := by
  obtain ⟨c, ow, ps, b, R, e, q⟩ := h
  obtain ⟨x, e1, e2⟩ := bind_ok e
  refine ⟨c, ow, ps, x, R, e1, fun H' s => ?_⟩
  split at e2
  · rename_i hx; subst hx
    exact iteT ⟨c, ow, ps, b, R.grow s, e2, fun H2 s2 => q H2 (s.trans s2)⟩
  · rename_i hx
    cases e2
    have : x = false := by simpa using hx
    subst this
    exact iteF (q H' s)
theorem or_t {K : PySem.W.Frag} {ta tb : DT} {σ : L2.St} {H : Hp} {Q : Bool → Hp → Prop} (h : tPt K G (dOrT ta tb) σ H Q) : tOr (tPt K G ta) (tPt K G tb) σ H Q := by
  obtain ⟨c, ow, ps, b, R, e, q⟩ := h
  obtain ⟨x, e1, e2⟩ := bind_ok e
  refine ⟨c, ow, ps, x, R, e1, fun H' s => ?_⟩
  split at e2
  · rename_i hx; subst hx
    cases e2
    exact iteT (q H' s)
  · rename_i hx
    have : x = false := by simpa using hx
    subst this
    exact iteF ⟨c, ow, ps, b, R.grow s, e2, fun H2 s2 => q H2 (s.trans s2)⟩
section
variable {ta tb : DT} {rest : List Expr}
theorem w_and1 (ha : JT X G a ta) : JW X G (.BoolOp .And [a] pos) ta := pw_and1 ha
theorem w_or1 (ha : JT X G a ta) : JW X G (.BoolOp .Or [a] pos) ta := pw_or1 ha
theorem w_and (ha : JT X G a ta) (hb : JW X G (.BoolOp .And (b :: rest) pos) tb) : JW X G (.BoolOp .And (a :: b :: rest) pos) (dAndT ta tb) := impW (pw_and ha hb) fun _ _ _ => and_t
theorem w_or (ha : JT X G a ta) (hb : JW X G (.BoolOp .Or (b :: rest) pos) tb) : JW X G (.BoolOp .Or (a :: b :: rest) pos) (dOrT ta tb) := impW (pw_or ha hb) fun _ _ _ => or_t
theorem t_w (h : JW X G e ta) : JT X G e ta := PW.pt h
theorem t_not (ha : JT X G a ta) : JT X G (.UnaryOp .Not a pos) (dNotT ta) := impT (pt_not ha) fun σ H Q ⟨c, ow, ps, b, R, e, q⟩ => by
  obtain ⟨x, e1, e2⟩ := bind_ok e
  cases e2
  exact ⟨c, ow, ps, x, R, e1, fun H' s => q H' s⟩
end
/-! ### and, or, not as values (truths) -/
def dAndV (a b : DP) : DP := fun ps => (a ps).bind fun x => match x with | .bl true => b ps | .bl false => .ok (.bl false) | _ => .bad
def dOrV (a b : DP) : DP := fun ps => (a ps).bind fun x => match x with | .bl true => .ok (.bl true) | .bl false => b ps | _ => .bad
def dNotV (a : DP) : DP := fun ps => (a ps).bind fun x => match x with | .bl k => .ok (.bl (!k)) | _ => .bad
section
variable {rest : List Expr}
theorem p_one {op} (h : JP X G a da) : JP X G (.BoolOp op [a] pos) da := pe_one h
theorem p_andV (ha : JP X G a da) (hb : JP X G (.BoolOp .And (b :: rest) pos) db) : JP X G (.BoolOp .And (a :: b :: rest) pos) (dAndV da db) := imp (pe_and ha hb) fun σ H Q ⟨c, ow, ps, w, R, e, q⟩ => by
  obtain ⟨x, e1, e2⟩ := bind_ok e
  refine ⟨c, ow, ps, x, R, e1, fun v H' s r => ?_⟩
  split at e2
  · exact ⟨true, r, iteT ⟨c, ow, ps, w, R.grow s, e2, fun v2 H2 s2 r2 => q v2 H2 (s.trans s2) r2⟩⟩
  · cases e2; exact ⟨false, r, iteF (q _ H' s rfl)⟩
  · cases e2
theorem p_orV (ha : JP X G a da) (hb : JP X G (.BoolOp .Or (b :: rest) pos) db) : JP X G (.BoolOp .Or (a :: b :: rest) pos) (dOrV da db) := imp (pe_or ha hb) fun σ H Q ⟨c, ow, ps, w, R, e, q⟩ => by
  obtain ⟨x, e1, e2⟩ := bind_ok e
  refine ⟨c, ow, ps, x, R, e1, fun v H' s r => ?_⟩
  split at e2
  · cases e2; exact ⟨true, r, iteT (q _ H' s rfl)⟩
  · exact ⟨false, r, iteF ⟨c, ow, ps, w, R.grow s, e2, fun v2 H2 s2 r2 => q v2 H2 (s.trans s2) r2⟩⟩
  · cases e2
theorem p_notV (ha : JP X G a da) : JP X G (.UnaryOp .Not a pos) (dNotV da) := imp (pe_not ha) fun σ H Q ⟨c, ow, ps, w, R, e, q⟩ => by
  obtain ⟨x, e1, e2⟩ := bind_ok e
  refine ⟨c, ow, ps, x, R, e1, fun v H' s r => ?_⟩
  split at e2
  · cases e2; exact ⟨_, r, q _ H' s rfl⟩
  · cases e2
def dNeg (d : DP) : DP := fun ps => (d ps).bind fun x => match x with | .int i => .ok (.int (-i)) | _ => .bad
theorem p_neg (ha : JP X G a da) : JP X G (.UnaryOp .USub a pos) (dNeg da) := imp (pe_un un_neg ha) fun σ H Q ⟨c, ow, ps, w, R, e, q⟩ => by
  obtain ⟨x, e1, e2⟩ := bind_ok e
  refine ⟨c, ow, ps, x, R, e1, fun v H' s r => ?_⟩
  split at e2
  · cases e2; exact ⟨_, r, q _ H' s rfl⟩
  · cases e2
def dIfV (t : DT) (a b : DP) : DP := fun ps => (t ps).bind fun x => if x = true then a ps else b ps
end
end
end DN
end
section
set_option Elab.async false
set_option linter.all false
set_option maxRecDepth 100000
set_option maxHeartbeats 4000000
namespace DN
open PySem PySem.Spec PyProof.Rows L2
section
variable {X : Cx} {G : Pg} {e a b : Expr} {es : List Expr} {da db : DP} {pos : Pos}
/-! ### items -/
def fIx : PV → PV → Rx PV
  | .lst xs, .int i => match atI xs i with | some w => .ok w | none => .bad
  | .tup xs, .int i => match atI xs i with | some w => .ok w | none => .bad
  | .str z, .int i => if z.length ≤ sizeLine then (match atI z.cps.toList i with | some c => .ok (.str ⟨#[c]⟩) | none => .bad) else .bad
  | _, _ => .bad
theorem atI_rep {K : PySem.W.Frag} {H : Hp} {A : Av} {xs : List PV} {vs : List V} {i : Int} {w : PV} (r : Reps K G H A xs vs) (e : atI xs i = some w) : ∃ v, atI vs i = some v ∧ Rep K G H A w v := by
  unfold atI at e ⊢
  rw [← r.len]
  cases q : ixN xs.length i with
  | none => rw [q] at e; cases e
  | some j =>
    rw [q] at e
    exact r.get e
theorem o2_ix {K : PySem.W.Frag} : Op2 K G fIx (rIx K) := by
  intro H A x y w v u Q hu e r1 r2 q
  cases x <;> try cases e
  · cases y <;> try cases e
    rename_i z i
    have e : (if z.length ≤ sizeLine then (match atI z.cps.toList i with | some c => Rx.ok (PV.str ⟨#[c]⟩) | none => .bad) else .bad) = .ok w := e
    split at e
    · rename_i hz
      split at e
      · rename_i c hc
        cases e
        exact .inr (.inr ⟨z, i, c, r1.str, r2.int, hz, hc, q _ H (Same.refl H) rfl⟩)
      · cases e
    · cases e
  · cases y <;> try cases e
    rename_i xs i
    have e : (match atI xs i with | some w => Rx.ok w | none => .bad) = .ok w := e
    split at e
    · rename_i w' hw
      cases e
      obtain ⟨p, vs, ev, sq, rs⟩ := r1.tup
      obtain ⟨v', e1, r'⟩ := atI_rep rs hw
      exact .inr (.inl ⟨p, vs, i, v', ev, r2.int, sq, e1, q _ H (Same.refl H) r'⟩)
    · cases e
  · cases y <;> try cases e
    rename_i xs i
    have e : (match atI xs i with | some w => Rx.ok w | none => .bad) = .ok w := e
    split at e
    · rename_i w' hw
      cases e
      obtain ⟨p, vs, ev, sq, rs⟩ := r1.lst
      obtain ⟨v', e1, r'⟩ := atI_rep rs hw
      exact .inl ⟨p, vs, i, v', ev, r2.int, sq, e1, q _ H (Same.refl H) r'⟩
    · cases e
theorem p_at (ha : JB X G a da) (hb : JB X G b db) (hs : PlainIx b) : JP X G (.Subscript a b pos) (d2 fIx da db) := p_ix o2_ix ha hb hs
/-! ### arguments, displays -/
def dNil : DA := fun _ => .ok []
def dCons (a : DP) (r : DA) : DA := fun ps => (a ps).bind fun x => (r ps).bind fun xs => .ok (x :: xs)
theorem a_nil : JA X G [] [] dNil := impA pa_nil fun σ H Q ⟨c, ow, ps, ws, R, e, q⟩ => by
  cases e
  exact q [] H (Same.refl H) ⟨rfl, rfl⟩
theorem a_cons {ms : List Bool} {d : DA} (ha : JP X G e da) (hr : JA X G ms es d) (hs : starEach (e :: es) X.env = (false, eval e X.env) :: starEach es X.env := by rfl) : JA X G (false :: ms) (e :: es) (dCons da d) :=
  impA (pa_cons ha hr hs) fun σ H Q ⟨c, ow, ps, ws, R, e, q⟩ => by
    obtain ⟨x, e1, e⟩ := bind_ok e
    obtain ⟨xs, e2, e⟩ := bind_ok e
    cases e
    exact ⟨c, ow, ps, x, R, e1, fun v H1 s1 r1 => ⟨c, ow, ps, xs, R.grow s1, e2, fun vs H2 s2 r2 => q (v :: vs) H2 (s1.trans s2) ⟨x, xs, v, vs, rfl, rfl, by rw [if_neg Bool.false_ne_true]; exact r1.same s2, r2⟩⟩⟩
theorem a_consB {ms : List Bool} {d : DA} (ha : JB X G e da) (hr : JA X G ms es d) (hs : starEach (e :: es) X.env = (false, eval e X.env) :: starEach es X.env := by rfl) : JA X G (true :: ms) (e :: es) (dCons da d) :=
  impA (pa_cons ha hr hs) fun σ H Q ⟨c, ow, ps, ws, R, e, q⟩ => by
    obtain ⟨x, e1, e⟩ := bind_ok e
    obtain ⟨xs, e2, e⟩ := bind_ok e
    cases e
    exact ⟨c, ow, ps, x, R, e1, fun v H1 s1 r1 => ⟨c, ow, ps, xs, R.grow s1, e2, fun vs H2 s2 r2 => q (v :: vs) H2 (s1.trans s2) ⟨x, xs, v, vs, rfl, rfl, by rw [if_pos rfl]; exact r1.same s2, r2⟩⟩⟩
theorem RepM.reps' {K : PySem.W.Frag} {H : Hp} {A : Av} : ∀ {ms : List Bool} {ws : List PV} {vs : List V}, RepM K G H A ms ws vs → ms.all (! ·) = true → Reps K G H A ws vs
  | [], ws, vs, h, _ => by obtain ⟨rfl, rfl⟩ := h; rfl
  | m :: ms, ws, vs, h, hm => by
    obtain ⟨w, wr, v, vr, rfl, rfl, r, rr⟩ := h
    rw [List.all_cons, Bool.and_eq_true] at hm
    have : m = false := by simpa using hm.1
    subst this
    rw [if_neg Bool.false_ne_true] at r
    exact ⟨v, vr, rfl, r, RepM.reps' rr hm.2⟩
def dTup (d : DA) : DP := fun ps => (d ps).bind fun ws => .ok (.tup ws)
theorem p_tup {ms : List Bool} {d : DA} {x1} (h : JA X G ms es d) (hm : ms.all (! ·) = true := by rfl) (hl : ms.length ≤ 1000 := by decide) : JP X G (.Tuple es x1 pos) (dTup d) := imp (pe_tup h) fun σ H Q ⟨c, ow, ps, w, R, e, q⟩ => by
  obtain ⟨ws, e1, e⟩ := bind_ok e
  cases e
  refine ⟨c, ow, ps, ws, R, e1, fun vs H1 s1 r1 => ⟨?_, fun p hp => ?_⟩⟩
  · rw [r1.len.2]; exact Nat.le_of_lt (small1000 hl)
  · exact q _ _ (s1.trans (same_upd hp _)) ⟨p, vs, rfl, SqT.of upd_same, (r1.reps' hm).same (same_upd hp _)⟩
theorem n_lst {ms : List Bool} {d : DA} (h : JA X G ms es d) (hm : ms.all (! ·) = true := by rfl) (hl : ms.length ≤ 1000 := by decide) : JN X G (.List es pos) d := imp (pe_lst h) fun σ H Q ⟨c, ow, ps, ws, R, e, q⟩ => by
  refine ⟨c, ow, ps, ws, R, e, fun vs H1 s1 r1 => ⟨?_, fun p hp => ?_⟩⟩
  · rw [r1.len.2]; exact Nat.le_of_lt (small1000 hl)
  · exact q p vs _ (s1.trans (same_upd hp _)) (s1.free hp) upd_same ((Kp.take hp (same_upd hp _) fun a z => z.symm).reps (r1.reps' hm))
/-! ### new lists: +, a slice, list(..) -/
def dCatL (a b : DP) : DA := fun ps => (a ps).bind fun x => (b ps).bind fun y => match x, y with | .lst xs, .lst ys => if xs.length + ys.length ≤ sizeLine then .ok (xs ++ ys) else .bad | _, _ => .bad
/-! ### slices of lists -/
def tPo (K : PySem.W.Frag) (G : Pg) (d : PSt → Rx (Option Int)) : TO := fun σ H Q => ∃ (c : Fr) (ow : Ows) (ps : PSt) (o : Option Int), RepS K G c H ow ps σ ∧ d ps = .ok o ∧ ∀ H', Same H H' → Q o H'
abbrev JO (X : Cx) (G : Pg) (e : Option Expr) (d : PSt → Rx (Option Int)) : Prop := PO X e (tPo X.K G d)
def dO0 : PSt → Rx (Option Int) := fun _ => .ok none
def dO1 (d : DP) : PSt → Rx (Option Int) := fun ps => (d ps).bind fun x => match x with | .int i => .ok (some i) | _ => .bad
theorem o_some (h : JP X G e da) : JO X G (some e) (dO1 da) := fun pins s σ H Q I hq => po_some h pins s σ H Q I (by
  obtain ⟨c, ow, ps, o, R, e, q⟩ := hq
  obtain ⟨x, e1, e2⟩ := bind_ok e
  refine ⟨c, ow, ps, x, R, e1, fun v H' s r => ?_⟩
  split at e2
  · cases e2; exact ⟨_, r, q H' s⟩
  · cases e2)
def cutP (xs : List PV) (lo hi : Option Int) : List PV := (xs.drop (HT.sIx xs.length 0 lo)).take (HT.sIx xs.length xs.length hi - HT.sIx xs.length 0 lo)
def dCut (d : DP) (dl dh : PSt → Rx (Option Int)) : DA := fun ps => (d ps).bind fun x => (dl ps).bind fun lo => (dh ps).bind fun hi => match x with | .lst xs => .ok (cutP xs lo hi) | _ => .bad
theorem n_cut {lo hi : Option Expr} {dl dh : PSt → Rx (Option Int)} {p2 : Pos} (he : JB X G e da) (hl : JO X G lo dl) (hh : JO X G hi dh) : JN X G (.Subscript e (.Slice lo hi none p2) pos) (dCut da dl dh) := imp (pe_slice sl_list he hl hh) fun σ H Q ⟨c, ow, ps, ws, R, e, q⟩ => by
  obtain ⟨x, e1, e⟩ := bind_ok e
  obtain ⟨l, e2, e⟩ := bind_ok e
  obtain ⟨h, e3, e⟩ := bind_ok e
  refine ⟨c, ow, ps, x, R, e1, fun v H1 s1 r1 => ⟨c, ow, ps, l, R.grow s1, e2, fun H2 s2 => ⟨c, ow, ps, h, (R.grow s1).grow s2, e3, fun H3 s3 => ?_⟩⟩⟩
  split at e
  · cases e
    obtain ⟨a, vs, e4, sq, rs⟩ := ((r1.same s2).same s3).lst
    refine ⟨a, vs, e4, sq, fun p hp => ?_⟩
    have sp := same_upd hp (.lst (cutV vs l h))
    have sA := (s1.trans s2).trans s3
    refine q p _ _ (sA.trans sp) (sA.free hp) upd_same ((Kp.take hp sp fun a z => z.symm).reps ?_)
    unfold cutP cutV
    rw [rs.len]
    exact (rs.drop _).take _
  · cases e
/-! ### built-in functions -/
def dCall (f : List PV → Rx PV) (d : DA) : DP := fun ps => (d ps).bind f
def CbR (K : PySem.W.Frag) (G : Pg) (ms : List Bool) (f : List PV → Rx PV) (r : List V → Hp → VK → Prop) : Prop := ∀ (H : Hp) (A : Av) (ws : List PV) (vs : List V) (w : PV) (Q : VK), Used H A → f ws = .ok w → RepM K G H A ms ws vs → (∀ z H', Same H H' → Rep K G H' A w z → Q z H') → r vs H Q
theorem cb_of {K : PySem.W.Frag} {ms : List Bool} {f : List PV → Rx PV} {r : List V → Hp → VK → Prop} {d : DA} (hf : CbR K G ms f r) {σ : L2.St} {H : Hp} {Q : VK} (h : tPv K G (dCall f d) σ H Q) : tCB r (tPa K G ms d) σ H Q := by
  obtain ⟨c, ow, ps, w, R, e, q⟩ := h
  obtain ⟨ws, e1, e2⟩ := bind_ok e
  exact ⟨c, ow, ps, ws, R, e1, fun vs H' s r => hf H' _ ws vs w Q (R.grow s).used e2 r fun z H2 s2 r2 => q z H2 (s.trans s2) r2⟩
theorem p_callB {x : Str} {p : Pos} {id : String} {ms : List Bool} {f : List PV → Rx PV} {r : List V → Hp → VK → Prop} {d : DA} (hc : CallR X (.builtin id) r) (hf : CbR X.K G ms f r) (hg : Gl X x) (hm : X.mg x = none) (hv : bootBuiltins x = some (.builtin id)) (ha : JA X G ms (e :: es) d) (hn : x ≠ "__name__" := by decide) (hdb : (x == ("__debug__" : Str)) = false := by decide)
    (he : starEach (e :: es) X.env = (false, eval e X.env) :: starEach es X.env := by rfl) (hpl : (backTo pos (starEach es X.env)).any (·.1) = false := by rfl) : JP X G (.Call (.Name x p) (e :: es) [] pos) (dCall f d) := imp (pe_callB hc hg hm hv ha hn hdb he hpl) fun _ _ _ => cb_of hf
theorem RepM.one {K : PySem.W.Frag} {H : Hp} {A : Av} {ws : List PV} {vs : List V} (h : RepM K G H A [true] ws vs) : ∃ w v, ws = [w] ∧ vs = [v] ∧ RepB K G H A w v := by
  obtain ⟨w, wr, v, vr, rfl, rfl, r, rfl, rfl⟩ := h
  exact ⟨w, v, rfl, rfl, r⟩
theorem RepM.two {K : PySem.W.Frag} {H : Hp} {A : Av} {ws : List PV} {vs : List V} (h : RepM K G H A [true, true] ws vs) : ∃ w w' v v', ws = [w, w'] ∧ vs = [v, v'] ∧ RepB K G H A w v ∧ RepB K G H A w' v' := by
  obtain ⟨w, wr, v, vr, rfl, rfl, r, w', wr', v', vr', rfl, rfl, r', rfl, rfl⟩ := h
  exact ⟨w, w', v, v', rfl, rfl, r, r'⟩
def bLen : List PV → Rx PV
  | [.str y] => if y.length ≤ sizeLine then .ok (.int y.length) else .bad
  | [.lst xs] => .ok (.int xs.length)
  | [.tup xs] => .ok (.int xs.length)
  | _ => .bad
theorem cb_len {K : PySem.W.Frag} : CbR K G [true] bLen (fun xs H Q => ∃ x n, xs = [x] ∧ LenV K x H n ∧ Q (.int n) H) := by
  intro H A ws vs w Q hu e r q
  obtain ⟨x, v, rfl, rfl, rb⟩ := r.one
  clear r
  cases x <;> try cases e
  · rename_i y
    have e : (if y.length ≤ sizeLine then Rx.ok (PV.int y.length) else .bad) = .ok w := e
    split at e
    · rename_i hy
      cases e
      rw [rb.str]
      exact ⟨_, _, rfl, ⟨hy, rfl⟩, q _ H (Same.refl H) rfl⟩
    · cases e
  · obtain ⟨a, vs, rfl, sq, rs⟩ := rb.tup
    exact ⟨_, _, rfl, .inr ⟨vs, sq, rfl⟩, q _ H (Same.refl H) (by show _ = _; rw [rs.len])⟩
  · obtain ⟨a, vs, rfl, sq, rs⟩ := rb.lst
    exact ⟨_, _, rfl, .inl ⟨vs, sq, rfl⟩, q _ H (Same.refl H) (by show _ = _; rw [rs.len])⟩
def bList : List PV → Rx (List PV)
  | [.lst xs] => .ok xs
  | [.tup xs] => .ok xs
  | _ => .bad
def dCallN (f : List PV → Rx (List PV)) (d : DA) : DA := fun ps => (d ps).bind f
theorem n_list {x : Str} {p : Pos} {d : DA} (hg : Gl X "list") (hm : X.mg "list" = none) (ha : JA X G [true] [e] d)
    (he : starEach [e] X.env = (false, eval e X.env) :: starEach [] X.env := by rfl) (hpl : (backTo pos (starEach [] X.env)).any (·.1) = false := by rfl) : JN X G (.Call (.Name "list" p) [e] [] pos) (dCallN bList d) :=
  imp (pe_callTy call_list_of hg hm boot_list ha (by decide) (by decide) he hpl) fun σ H Q ⟨c, ow, ps, ws, R, e, q⟩ => by
    obtain ⟨xs, e1, e2⟩ := bind_ok e
    refine ⟨c, ow, ps, xs, R, e1, fun vs H' s r => ?_⟩
    obtain ⟨x, v, rfl, rfl, rb⟩ := r.one
    clear r
    cases x <;> try cases e2
    · obtain ⟨a, vs, rfl, sq, rs⟩ := rb.tup
      exact ⟨a, vs, rfl, .inr sq, fun l hl => q l vs _ (s.trans (same_upd hl _)) (s.free hl) upd_same ((Kp.take hl (same_upd hl _) fun a z => z.symm).reps rs)⟩
    · obtain ⟨a, vs, rfl, sq, rs⟩ := rb.lst
      exact ⟨a, vs, rfl, .inl sq, fun l hl => q l vs _ (s.trans (same_upd hl _)) (s.free hl) upd_same ((Kp.take hl (same_upd hl _) fun a z => z.symm).reps rs)⟩
/-! ### isinstance -/
def kd : PV → Nat
  | .non => 0 | .bl _ => 1 | .int _ => 2 | .str _ => 3 | .tup _ => 4 | .lst _ => 5 | .dic _ _ => 6 | .clo _ _ => 9 | .dit _ _ => 9 | .obj k _ => k + 10
def tyOfKd (G : Pg) : Nat → Value
  | 0 => .type "NoneType" | 1 => .type "bool" | 2 => .type "int" | 3 => .type "str" | 4 => .type "tuple" | 5 => .type "list" | 6 => .type "dict" | 7 => .none | 8 => .none | 9 => .none
  | k + 10 => .ref (G.cA k)
/-- what is asked of a class for its own instances' type -/
def ClsTy (K : PySem.W.Frag) (C : Addr) : Prop := ∀ H a dx fs, H a = some (.ins C dx fs) → TyOf K H (.ref a) (.ref C)
def dIsi (l : List (Nat × Bool)) (d : DP) : DP := fun ps => (d ps).bind fun x => match l.lookup (kd x) with | some b => .ok (.bl b) | none => .bad
structure IsiOk (K : PySem.W.Frag) (G : Pg) (cv : Value) (l : List (Nat × Bool)) : Prop where
  kit : ∀ k b, l.lookup k = some b → PySem.W.kitOne K (tyOfKd G k) cv = some b
  cls : ∀ k b, l.lookup (k + 10) = some b → ClsTy K (G.cA k)
  n9 : ∀ b, l.lookup 9 ≠ some b
theorem call_isi (cv : Value) (l : List (Nat × Bool)) (ok : IsiOk X.K G cv l) : CallR X (.builtin "isinstance") (fun xs H Q => ∃ A w v c b, xs = [v, c] ∧ (∀ u, RelV c u → u = cv) ∧ RepB X.K G H A w v ∧ l.lookup (kd w) = some b ∧ Q (.bl b) H) := by
  intro pins s σ H xs us Q I r h
  obtain ⟨A, w, v, c, b, rfl, hc, rw', hl, q⟩ := h
  obtain ⟨u, u', rfl, ru, rc⟩ := vals2 r
  obtain rfl := hc _ rc
  have kit := ok.kit _ _ hl
  have fin : ∀ tk, EP X pins σ Q (.bool b) { s with toks := tk } := fun tk => ⟨.bl b, H, I.tok tk, rfl, q⟩
  cases w with
  | non => rw [rw'.non] at ru; exact isinst_ok I ru .non kit fin
  | bl k => rw [rw'.bl] at ru; exact isinst_ok I ru (.bl _) kit fin
  | int i => rw [rw'.int] at ru; exact isinst_ok I ru (.int _) kit fin
  | str i => rw [rw'.str] at ru; exact isinst_ok I ru (.str _) kit fin
  | tup ws =>
    obtain ⟨a, vs, rfl, sq, rs⟩ := rw'.tup
    cases (show u = Value.ref a from ru)
    obtain ⟨its, _, p, _⟩ := I.tuple sq
    obtain ⟨o, h1, h2, _⟩ := p
    exact PySem.W.kia_one PySem.W.kitx_tuple I.kIn ⟨o, h1, h2⟩ kit (fun z => nomatch z) fin
  | lst ws =>
    obtain ⟨a, vs, rfl, sq, rs⟩ := rw'.lst
    cases (show u = Value.ref a from ru)
    obtain ⟨its, _, ⟨o, n, h1, h2, _⟩, _⟩ := I.list sq
    exact PySem.W.kia_one PySem.W.kitx_list I.kIn ⟨o, h1, h2⟩ kit (fun z => nomatch z) fin
  | clo f ws => exact absurd hl (ok.n9 b)
  | dit ks ws => exact absurd hl (ok.n9 b)
  | dic ks ws =>
    obtain ⟨a, vs, rfl, hH, _, rs⟩ := rw'.dic
    exact isinst_ok I ru (.dK hH) kit fin
  | obj k ws =>
    obtain ⟨a, dx, vs, rfl, hH, _, rs⟩ := rw'.obj
    exact isinst_ok I ru (ok.cls k b hl H a dx _ hH) kit fin
theorem p_isi {ce : Expr} {cvv : V} {cv : Value} {l : List (Nat × Bool)} {p : Pos} (hg : Gl X "isinstance") (hm : X.mg "isinstance" = none) (ok : IsiOk X.K G cv l) (hcv : ∀ u, RelV cvv u → u = cv) (ha : JB X G e da) (hc : PE X ce (tC cvv))
    (he : starEach [e, ce] X.env = (false, eval e X.env) :: starEach [ce] X.env := by rfl) (he2 : starEach [ce] X.env = (false, eval ce X.env) :: starEach [] X.env := by rfl) (hpl : (backTo pos (starEach [ce] X.env)).any (·.1) = false := by rfl) :
    JP X G (.Call (.Name "isinstance" p) [e, ce] [] pos) (dIsi l da) :=
  imp (pe_callB (call_isi cv l ok) hg hm boot_isinstance (pa_cons ha (pa_cons hc pa_nil he2) he) (by decide) (by decide) he hpl) fun σ H Q ⟨c, ow, ps, w, R, e, q⟩ => by
    obtain ⟨x, e1, e2⟩ := bind_ok e
    refine ⟨c, ow, ps, x, R, e1, fun v H' s r => ?_⟩
    split at e2
    · rename_i b hb
      cases e2
      exact ⟨_, x, v, cvv, b, rfl, hcv, r, hb, q _ H' s rfl⟩
    · cases e2
/-! ### attributes -/
theorem zip_lookup {f : Str} {v : V} : ∀ {ns : List Str} {vs : List V} {j : Nat}, ns.Nodup → ns[j]? = some f → vs[j]? = some v → (ns.zip vs).lookup f = some v
  | [], vs, j, _, h, _ => by simp at h
  | n :: ns, [], j, _, _, h => by simp at h
  | n :: ns, u :: vs, 0, _, h1, h2 => by
    simp at h1 h2; subst h1; subst h2
    simp
  | n :: ns, u :: vs, j + 1, nd, h1, h2 => by
    have h1' : ns[j]? = some f := by simpa using h1
    have hne : (f == n) = false := by
      have : f ≠ n := fun z => by subst z; exact (List.nodup_cons.mp nd).1 (List.mem_of_getElem? h1')
      simpa using this
    rw [List.zip_cons_cons, List.lookup_cons, hne]
    exact zip_lookup (j := j) (List.nodup_cons.mp nd).2 h1' (by simpa using h2)
structure FldOk (K : PySem.W.Frag) (G : Pg) (f : Str) (l : List (Nat × Nat)) : Prop where
  all : ∀ k j, l.lookup k = some j → Cls K (G.cA k) ∧ NoAttr K (G.cA k) f ∧ (G.fN k).Nodup ∧ (G.fN k)[j]? = some f
def dFld (l : List (Nat × Nat)) (d : DP) : DP := fun ps => (d ps).bind fun x => match x with
  | .obj k xs => (match l.lookup k with | some j => (match xs[j]? with | some w => .ok w | none => .bad) | none => .bad)
  | _ => .bad
theorem p_fld {f : Str} {l : List (Nat × Nat)} (ok : FldOk X.K G f l) (ha : JP X G e da) (hb : attributeBase e f X.env (eval e X.env) = eval e X.env) : JP X G (.Attribute e f pos) (dFld l da) := imp (pe_fld ha hb) fun σ H Q ⟨c, ow, ps, w, R, e, q⟩ => by
  obtain ⟨x, e1, e2⟩ := bind_ok e
  refine ⟨c, ow, ps, x, R, e1, fun v H' s r => ?_⟩
  cases x with
  | obj k xs =>
    have e2 : (match l.lookup k with | some j => (match xs[j]? with | some w => Rx.ok w | none => .bad) | none => .bad) = .ok w := e2
    split at e2
    · rename_i j hj
      split at e2
      · rename_i w' hw
        cases e2
        obtain ⟨a, dx, vs, rfl, hH, hl, na, rs⟩ := r
        obtain ⟨c1, c2, c3, c4⟩ := ok.all k j hj
        obtain ⟨u, hu, ru⟩ := rs.get hw
        exact ⟨a, _, dx, _, u, rfl, hH, c1, c2, zip_lookup c3 c4 hu, q u H' s ru⟩
      · cases e2
    · cases e2
  | _ => cases e2
end
end DN
end
section
set_option Elab.async false
set_option linter.all false
set_option maxRecDepth 100000
set_option maxHeartbeats 4000000
namespace DN
open PySem PySem.Spec PyProof.Rows L2
/-! ### states without things of one's own -/
def SlF (K : PySem.W.Frag) (G : Pg) (B : Av) (H : Hp) (A : Av) : Sl → Option V → Prop
  | .no, _ => True
  | .v w, o => ∃ v, o = some v ∧ Rep K G H A w v
  | .own _, _ => False
  | .bor w, o => ∃ v, o = some v ∧ (Rep K G H A w v ∨ ∃ x p, w = x.pv ∧ v = .ref p ∧ RepO K G H A x p ∧ B p)
  | .ino _, _ => False
  | .ini _ _, _ => False
  | .dol _ _, _ => False
  | .als _ _, _ => False
structure RepF (K : PySem.W.Frag) (G : Pg) (B : Av) (H : Hp) (A : Av) (ps : PSt) (σ : L2.St) : Prop where
  len : ps.length = σ.length
  slot : ∀ (i : Nat) (s : Sl) (o : Option V), ps[i]? = some s → σ[i]? = some o → SlF K G B H A s o
section
variable {K : PySem.W.Frag} {G : Pg} {H H' : Hp} {A A' B : Av} {ps : PSt} {σ : L2.St}
def ow0 : Ows := fun _ => none
theorem av0 {c : Fr} (a : Addr) : av c ow0 a → c.A0 a := by
  rintro (h | ⟨i, h⟩)
  · exact h
  · cases h
theorem RepB.keep {w : PV} {v : V} (h : RepB K G H A w v) (k : Kp K G H A H' A') (e : ∀ x p, RepO K G H A x p → H' p = H p) : RepB K G H' A' w v := by
  rcases h with h | ⟨x, p, e1, e2, r⟩
  · exact .inl (k.rep h)
  · exact .inr ⟨x, p, e1, e2, r.keep k (e x p r)⟩
theorem RepB.weak {w : PV} {v : V} (h : RepB K G H A w v) (f : ∀ a, A' a → A a) : RepB K G H A' w v := h.keep (Kp.weak f) fun _ _ _ => rfl
theorem RepF.toS (R : RepF K G B H A ps σ) (u : Used H A) (ub : Used H B) : RepS K G ⟨H, A, B, none⟩ H ow0 ps σ := by
  refine ⟨R.len, SmL.of (Same.refl H), (fun p e => (nomatch e)), u, (fun a z => ⟨ub a z, fun e => nomatch e⟩), (fun i p e => (nomatch e)), (fun i j p e => (nomatch e)), (fun _ _ e => (nomatch e)), fun i s o e1 e2 => ?_⟩
  have q := R.slot i s o e1 e2
  have k : Kp K G H A H (av ⟨H, A, B, none⟩ ow0) := Kp.weak fun a z => av0 a z
  cases s with
  | no => rfl
  | v w => obtain ⟨v, e, r⟩ := q; exact ⟨rfl, v, e, k.rep r⟩
  | own x => exact q.elim
  | ino x => exact q.elim
  | ini k xs => exact q.elim
  | dol ks xss => exact q.elim
  | als d j => exact q.elim
  | bor w =>
    obtain ⟨v, e, r⟩ := q
    refine ⟨rfl, v, e, ?_⟩
    rcases r with r | ⟨x, p, e1, e2, r, n⟩
    · exact .inl (k.rep r)
    · exact .inr ⟨x, p, e1, e2, r.keep k rfl, n⟩
/-- what a block sees of a slot -/
def Sl.out : Sl → Sl
  | .own x => .bor x.pv
  | .ino x => .bor x.pv
  | .ini _ _ => .no
  | .dol _ _ => .no
  | .als _ _ => .no
  | s => s
def capP (own : List Str) (caps : List (Str × Nat)) (ps : PSt) : PSt := List.replicate own.length .no ++ caps.map fun p => ((ps[p.2]?).getD .no).out
theorem RepS.caps {c : Fr} {ow : Ows} (R : RepS K G c H ow ps σ) (own : List Str) (caps : List (Str × Nat)) : RepF K G (fun p => H p ≠ none) H (av c ow) (capP own caps ps) (capS own caps σ) := by
  refine ⟨by simp [capP, capS], fun i s o e1 e2 => ?_⟩
  unfold capP at e1
  unfold capS at e2
  rcases Nat.lt_or_ge i own.length with h | h
  · rw [List.getElem?_append_left (by simpa using h), List.getElem?_replicate, if_pos h] at e1
    cases e1
    exact True.intro
  · rw [List.getElem?_append_right (by simpa using h), List.length_replicate, List.getElem?_map] at e1 e2
    cases ep : caps[i - own.length]? with
    | none => rw [ep] at e1; cases e1
    | some p =>
      rw [ep] at e1 e2
      have e1 : ((ps[p.2]?).getD .no).out = s := Option.some.inj e1
      have e2 : (σ[p.2]?).getD none = o := Option.some.inj e2
      cases eq : ps[p.2]? with
      | none => rw [eq] at e1; subst e1; exact True.intro
      | some t =>
        obtain ⟨o', eo, q⟩ := R.get eq
        rw [eq] at e1; rw [eo] at e2
        have e2 : o' = o := e2
        subst e2
        subst e1
        cases t with
        | no => exact True.intro
        | v w => obtain ⟨_, v, e, r⟩ := q; exact ⟨v, e, r⟩
        | own x => obtain ⟨p, _, e, r⟩ := q; obtain ⟨o', eo, _⟩ := r.at; exact ⟨_, e, .inr ⟨x, p, rfl, rfl, r, by show H p ≠ none; rw [eo]; simp⟩⟩
        | ino x => obtain ⟨_, _, p, e, _, r⟩ := q; obtain ⟨o', eo, _⟩ := r.at; exact ⟨_, e, .inr ⟨x, p, rfl, rfl, r, by show H p ≠ none; rw [eo]; simp⟩⟩
        | ini k xs => exact True.intro
        | dol ks xss => exact True.intro
        | als d j => exact True.intro
        | bor w =>
          obtain ⟨_, v, e, r⟩ := q
          refine ⟨v, e, ?_⟩
          rcases r with r | ⟨x, p, e1, e2, r, _⟩
          · exact .inl r
          · obtain ⟨o', eo, _⟩ := r.at
            exact .inr ⟨x, p, e1, e2, r, by show H p ≠ none; rw [eo]; simp⟩
end
/-! ### own defs -/
def spG (K : PySem.W.Frag) (G : Pg) (ms : List Bool) (g : List PV → Rx PV) : Sp := fun vs H Q _ => ∃ A ws w, Used H A ∧ RepM K G H A ms ws vs ∧ g ws = .ok w ∧ ∀ v H', Same H H' → Rep K G H' A w v → Q v H'
section
variable {X : Cx} {G : Pg} {e a b o : Expr} {es : List Expr} {da db : DP} {d : DA} {pos p apos : Pos} {x m : Str} {k : Nat} {ms : List Bool} {g : List PV → Rx PV}
theorem p_fn (h : FnAt X.prog X.w X.K X.mg X.base CX0 k x (spG X.K G ms g)) (hr : Room k X.A) (hg : Gl X x) (ha : JA X G ms (e :: es) d) (hdb : (x == ("__debug__" : Str)) = false := by decide)
    (he : starEach (e :: es) X.env = (false, eval e X.env) :: starEach es X.env := by rfl) (hpl : (backTo pos (starEach es X.env)).any (·.1) = false := by rfl) : JP X G (.Call (.Name x p) (e :: es) [] pos) (dCall g d) :=
  imp (pe_fn (E := E0) h hr hg pass0 ha hdb he hpl) fun σ H Q ⟨c, ow, ps, w, R, e, q⟩ => by
    obtain ⟨ws, e1, e2⟩ := bind_ok e
    exact ⟨c, ow, ps, ws, R, e1, fun vs H' s r => ⟨_, ws, w, (R.grow s).used, r, e2, fun v H2 s2 r2 => q v H2 (s.trans s2) r2⟩⟩
/-! ### methods -/
theorem zip_none {f : Str} : ∀ {ns : List Str} {vs : List V}, f ∉ ns → (ns.zip vs).lookup f = none
  | [], vs, _ => rfl
  | n :: ns, [], _ => rfl
  | n :: ns, u :: vs, h => by
    have h1 : (f == n) = false := by
      have : f ≠ n := fun z => h (by rw [z]; exact List.mem_cons_self)
      simpa using this
    rw [List.zip_cons_cons, List.lookup_cons, h1]
    exact zip_none fun z => h (List.mem_cons_of_mem _ z)
structure MtOk (P : Program) (w : World) (K : PySem.W.Frag) (mg : Str → Option Value) (base : Bs) (G : Pg) (k : Nat) (m : Str) (ms : List Bool) (tab : List (Nat × Nat)) (g : Nat → List PV → Rx PV) : Prop where
  all : ∀ c f, tab.lookup c = some f → MethAt P w K mg base CX0 k (G.cA c) m (spG K G (false :: ms) (g f)) ∧ m ∉ G.fN c
def dMeth (tab : List (Nat × Nat)) (g : Nat → List PV → Rx PV) (d : DP) (r : DA) : DP := fun ps => (d ps).bind fun x => match x with
  | .obj c xs => (match tab.lookup c with | some f => (r ps).bind fun ws => g f (.obj c xs :: ws) | none => .bad)
  | _ => .bad
theorem meth_of {tab : List (Nat × Nat)} {g : Nat → List PV → Rx PV} (h : MtOk X.prog X.w X.K X.mg X.base G k m ms tab g) {σ : L2.St} {H : Hp} {Q : VK} (hq : tPv X.K G (dMeth tab g da d) σ H Q) :
    tMethD (ι := { q : Nat × Nat // tab.lookup q.1 = some q.2 }) (fun i => G.cA i.1.1) m (fun i => spG X.K G (false :: ms) (g i.1.2)) E0 (tPv X.K G da) (tPa X.K G ms d) σ H Q := by
  obtain ⟨c, ow, ps, w, R, e, q⟩ := hq
  obtain ⟨x, e1, e2⟩ := bind_ok e
  refine ⟨c, ow, ps, x, R, e1, fun v H' s r => ?_⟩
  cases x with
  | obj kc xs =>
    have e2 : (match tab.lookup kc with | some f => (d ps).bind fun ws => g f (.obj kc xs :: ws) | none => .bad) = .ok w := e2
    split at e2
    · rename_i f hf
      obtain ⟨ws, e3, e4⟩ := bind_ok e2
      obtain ⟨a, dx, vs, ev, hH, hl, na, rs⟩ := id r
      refine ⟨⟨(kc, f), hf⟩, a, dx, _, ev, hH, zip_none (h.all kc f hf).2, c, ow, ps, ws, R.grow s, e3, fun vs2 H2 s2 r2 => ?_⟩
      exact ⟨_, .obj kc xs :: ws, w, ((R.grow s).grow s2).used, ⟨_, _, _, _, rfl, rfl, by rw [if_neg Bool.false_ne_true]; exact r.same s2, r2⟩, e4, fun v3 H3 s3 r3 => q v3 H3 ((s.trans s2).trans s3) r3⟩
    · cases e2
  | _ => cases e2
theorem p_meth {tab : List (Nat × Nat)} {g : Nat → List PV → Rx PV} {pl : Sem Bool} (h : MtOk X.prog X.w X.K X.mg X.base G k m ms tab g) (hr : Room k X.A) (ho : JP X G o da) (ha : JA X G ms (e :: es) d)
    (hst : starEach (e :: es) X.env = (false, eval e X.env) :: starEach es X.env := by rfl) (hpl : (backTo pos (starEach es X.env)).any (·.1) = false := by rfl)
    (ht : eval (.Call (.Attribute o m apos) (e :: es) [] pos) X.env = (do
      let ov ← eval o X.env
      standAt apos.atName
      let (f, first) ← holding [ov] (getMethod ov m pl)
      callWith pos f first (backTo pos (starEach (e :: es) X.env)) (backToKw pos (keywordEach [] X.env))) := by rfl) : JP X G (.Call (.Attribute o m apos) (e :: es) [] pos) (dMeth tab g da d) :=
  imp (pe_methD (ι := { q : Nat × Nat // tab.lookup q.1 = some q.2 }) (pl := pl) ho (fun i => (h.all i.1.1 i.1.2 i.2).1) hr pass0 ha hst hpl ht) fun _ _ _ => meth_of h
theorem p_meth0 {tab : List (Nat × Nat)} {g : Nat → List PV → Rx PV} {pl : Sem Bool} (h : MtOk X.prog X.w X.K X.mg X.base G k m [] tab g) (hr : Room k X.A) (ho : JP X G o da)
    (ht : eval (.Call (.Attribute o m apos) [] [] pos) X.env = (do
      let ov ← eval o X.env
      standAt apos.atName
      let (f, first) ← holding [ov] (getMethod ov m pl)
      callWith pos f first (backTo pos (starEach [] X.env)) (backToKw pos (keywordEach [] X.env))) := by rfl) : JP X G (.Call (.Attribute o m apos) [] [] pos) (dMeth tab g da dNil) :=
  imp (pe_methD0 (ι := { q : Nat × Nat // tab.lookup q.1 = some q.2 }) (pl := pl) ho (fun i => (h.all i.1.1 i.1.2 i.2).1) hr pass0 ht) fun σ H Q hq => by
    obtain ⟨c, ow, ps, x, R, e1, f⟩ := meth_of h hq
    refine ⟨c, ow, ps, x, R, e1, fun v H' s r => ?_⟩
    obtain ⟨i, a, dx, fs, e2, e3, e4, c', ow', ps', ws, R', e5, f2⟩ := f v H' s r
    have : ws = [] := by cases e5; rfl
    subst this
    exact ⟨i, a, dx, fs, e2, e3, e4, f2 [] H' (Same.refl H') ⟨rfl, rfl⟩⟩
/-! ### new instances -/
def dNew (c : Nat) (d : DA) : DP := fun ps => (d ps).bind fun ws => .ok (.obj c ws)
theorem p_new {c : Nat} (h : NewAt X.prog X.w X.K X.mg X.base x (G.cA c) (G.fN c)) (hr : Room (k + 2) X.A) (hg : Gl X x) (ha : JA X G ms (e :: es) d) (hl : (G.fN c).length = ms.length) (hm : ms.all (! ·) = true := by rfl) (hdb : (x == ("__debug__" : Str)) = false := by decide)
    (he : starEach (e :: es) X.env = (false, eval e X.env) :: starEach es X.env := by rfl) (hpl : (backTo pos (starEach es X.env)).any (·.1) = false := by rfl) : JP X G (.Call (.Name x p) (e :: es) [] pos) (dNew c d) :=
  imp (pe_new h hr hg ha hdb he hpl) fun σ H Q ⟨f, ow, ps, w, R, e, q⟩ => by
    obtain ⟨ws, e1, e2⟩ := bind_ok e
    cases e2
    refine ⟨f, ow, ps, ws, R, e1, fun vs H' s r => ⟨by rw [r.len.2, hl], fun y dy n1 n2 ne => ?_⟩⟩
    have sn := newI_same (C := G.cA c) (fs := (G.fN c).zip vs) n1 n2
    exact q _ _ (s.trans sn) ⟨y, dy, vs, rfl, newI_at, by rw [r.len.2, hl], fun z => (R.grow s).used y z n1, (r.reps' hm).same sn⟩
theorem p_new0 {c : Nat} (M : Mk0 X.K (G.cA c)) (hf : G.fN c = []) (hg : Gl X x) (hm : X.mg x = some (.ref (G.cA c))) (hdb : (x == ("__debug__" : Str)) = false := by decide) : JP X G (.Call (.Name x p) [] [] pos) (dC (.obj c [])) :=
  imp (pe_make00 M hg hm hdb) fun σ H Q ⟨f, ow, ps, w, R, e, q⟩ => by
    cases e
    intro y dy n1 n2 ne
    have sn := newI_same (C := G.cA c) (fs := []) n1 n2
    exact q _ _ sn ⟨y, dy, [], rfl, by rw [List.zip_nil_right]; exact newI_at, by rw [hf]; rfl, fun z => R.used y z n1, rfl⟩
/-! ### targets -/
abbrev DG := PV → PSt → Rx PSt
/-- a frozen value is stored: the heap stays -/
def tG (K : PySem.W.Frag) (G : Pg) (g : DG) : TG := fun v σ H Q => ∃ (c : Fr) (ow : Ows) (ps : PSt) (w : PV) (ps' : PSt), RepS K G c H ow ps σ ∧ Rep K G H (av c ow) w v ∧ g w ps = .ok ps' ∧
  ∀ σ' ow', RepS K G c H ow' ps' σ' → (∀ a, av c ow' a → av c ow a) → Q σ' H
abbrev JG (X : Cx) (G : Pg) (t : Expr) (g : DG) : Prop := PG X t (tG X.K G g)
theorem impG {e : Expr} {t t' : TG} (h : PG X e t) (f : ∀ v σ H Q, t' v σ H Q → t v σ H Q) : PG X e t' := fun pins s σ H v u Q I r q => h pins s σ H v u Q I r (f v σ H Q q)
def gSet (i : Nat) : DG := fun w ps => .ok (ps.set i (.v w))
theorem g_name {i : Nat} (hN : X.N.Nodup) (hi : X.N[i]? = some x) (hx : Loc X.env.scope x) (hf : X.fn x = true ∨ X.env.scope.names.lookup x = some .local := by first | exact .inl rfl | exact .inr rfl | assumption) : JG X G (.Name x pos) (gSet i) :=
  impG (pg_name hN hi hx hf) fun v σ H Q ⟨c, ow, ps, w, ps', R, r, e, q⟩ => by
    cases e
    exact q _ _ (R.setV r) av_off
def gNilD : List PV → PSt → Rx PSt
  | [], ps => .ok ps
  | _ :: _, _ => .bad
def gConsD (g : DG) (gs : List PV → PSt → Rx PSt) : List PV → PSt → Rx PSt
  | w :: ws, ps => (g w ps).bind fun ps' => gs ws ps'
  | [], _ => .bad
def gTupD (n : Nat) (gs : List PV → PSt → Rx PSt) : DG := fun w ps => match w with | .tup ws => if ws.length = n then gs ws ps else .bad | _ => .bad
end
end DN
end
section
set_option Elab.async false
set_option linter.all false
set_option maxRecDepth 100000
set_option maxHeartbeats 4000000
namespace DN
open PySem PySem.Spec PyProof.Rows L2
/-! ### what is walked -/
/-- J yields vs, as long as frozen things stay -/
def Wk (K : PySem.W.Frag) (G : Pg) (c : Fr) (J : It) (H : Hp) (A : Av) (vs : List V) : Prop := ∀ H' A', Kp K G H A H' A' → SmL c H' →
  (∀ (i : Nat) (x : V), vs[i]? = some x → J.go i H' ∧ ∀ y H2, J.yld i H' y H2 → H2 = H' ∧ y = x) ∧ J.stop vs.length H'
def tPi (K : PySem.W.Frag) (G : Pg) (d : DA) : TI := fun σ H R => ∃ (c : Fr) (ow : Ows) (ps : PSt) (ws : List PV), RepS K G c H ow ps σ ∧ d ps = .ok ws ∧ ∀ J H' vs, Same H H' → Reps K G H' (av c ow) ws vs → Wk K G c J H' (av c ow) vs → R J H'
abbrev JI (X : Cx) (G : Pg) (tg it : Expr) (d : DA) : Prop := PI X tg it (tPi X.K G d)
section
variable {X : Cx} {G : Pg} {e a b o tg : Expr} {es : List Expr} {da db : DP} {d : DA} {pos p apos : Pos} {x m : Str} {k : Nat} {ms : List Bool}
theorem impI {it : Expr} {t t' : TI} (h : PI X tg it t) (f : ∀ σ H R, t' σ H R → t σ H R) : PI X tg it t' := fun pins s σ H R I q => h pins s σ H R I (f σ H R q)
def dItems (d : DP) : DA := fun ps => (d ps).bind fun x => match x with | .lst xs => .ok xs | _ => .bad
def dItemsT (d : DP) : DA := fun ps => (d ps).bind fun x => match x with | .tup xs => .ok xs | _ => .bad
theorem it_list {K : PySem.W.Frag} {a : Addr} {vs : List V} {H : Hp} (h : SqL K H a vs) : (∀ (i : Nat) (x : V), vs[i]? = some x → (Itl K a).go i H ∧ ∀ y H2, (Itl K a).yld i H y H2 → H2 = H ∧ y = x) ∧ (Itl K a).stop vs.length H :=
  ⟨fun i x e => ⟨⟨vs, x, h, e⟩, fun y H2 ⟨e2, hy⟩ => ⟨e2, Option.some.inj ((hy vs h).symm.trans e)⟩⟩, ⟨vs, h, Nat.le_refl _⟩⟩
theorem it_tup {K : PySem.W.Frag} {a : Addr} {vs : List V} {H : Hp} (h : SqT K H a vs) : (∀ (i : Nat) (x : V), vs[i]? = some x → (Itt K a).go i H ∧ ∀ y H2, (Itt K a).yld i H y H2 → H2 = H ∧ y = x) ∧ (Itt K a).stop vs.length H :=
  ⟨fun i x e => ⟨⟨vs, x, h, e⟩, fun y H2 ⟨e2, hy⟩ => ⟨e2, Option.some.inj ((hy vs h).symm.trans e)⟩⟩, ⟨vs, h, Nat.le_refl _⟩⟩
theorem i_list (h : JP X G e da) : JI X G tg e (dItems da) := impI (pi_list h) fun σ H R ⟨c, ow, ps, ws, S, e, q⟩ => by
  obtain ⟨x, e1, e2⟩ := bind_ok e
  refine ⟨c, ow, ps, x, S, e1, fun v H' s r => ?_⟩
  split at e2
  · cases e2
    obtain ⟨a, vs, rfl, rd, rs⟩ := r
    exact ⟨a, rfl, ⟨vs, rd.sq⟩, q _ H' vs s rs fun H2 A2 k _ => it_list (k.rdL rd).sq⟩
  · cases e2
def dItemsB (i : Nat) : DA := fun ps => match ps[i]? with | some (.bor (.lst xs)) => .ok xs | _ => .bad
theorem i_tup (h : JP X G e da) : JI X G tg e (dItemsT da) := impI (pi_tup h) fun σ H R ⟨c, ow, ps, ws, S, e, q⟩ => by
  obtain ⟨x, e1, e2⟩ := bind_ok e
  refine ⟨c, ow, ps, x, S, e1, fun v H' s r => ?_⟩
  split at e2
  · cases e2
    obtain ⟨a, vs, rfl, rd, rs⟩ := r
    exact ⟨a, rfl, ⟨vs, rd⟩, q _ H' vs s rs fun H2 A2 k _ => it_tup (k.sqT rd)⟩
  · cases e2
def rngP (lo : Int) (n : Nat) : List PV := (List.range n).map fun (i : Nat) => PV.int (lo + (i : Int))
end
end DN
end
section
set_option Elab.async false
set_option linter.all false
set_option maxRecDepth 100000
set_option maxHeartbeats 4000000
namespace DN
open PySem PySem.Spec PyProof.Rows L2
section
variable {X : Cx} {G : Pg} {e a b o tg : Expr} {es : List Expr} {da db : DP} {d : DA} {dm : DM} {dma : DMA} {pos p apos cpos : Pos} {x m : Str} {k i : Nat} {ms : List Bool}
/-! ### expressions that change things of one's own -/
def mNil : DMA := fun ps => .ok ([], ps)
def mCons (a : DM) (r : DMA) : DMA := fun ps => (a ps).bind fun x => (r x.2).bind fun y => .ok (x.1 :: y.1, y.2)
theorem ma_nil : JMA X G [] mNil := impA pa_nil fun σ H Q ⟨c, ow, ps, ws, ps', R, e, q⟩ => by
  cases e
  exact q [] H ow R (Kp.of_same (Same.refl H)) rfl
theorem ma_cons (ha : JM X G e dm) (hr : JMA X G es dma) (hs : starEach (e :: es) X.env = (false, eval e X.env) :: starEach es X.env := by rfl) : JMA X G (e :: es) (mCons dm dma) :=
  impA (pa_cons ha hr hs) fun σ H Q ⟨c, ow, ps, ws, ps', R, e, q⟩ => by
    obtain ⟨⟨x, p1⟩, e1, e⟩ := bind_ok e
    obtain ⟨⟨xs, p2⟩, e2, e⟩ := bind_ok e
    cases e
    refine ⟨c, ow, ps, x, p1, R, e1, fun v H1 ow1 R1 k1 r1 => ⟨c, ow1, p1, xs, p2, R1, e2, fun vs H2 ow2 R2 k2 r2 => ?_⟩⟩
    exact q (v :: vs) H2 ow2 R2 (k1.trans k2) ⟨v, vs, rfl, k2.rep r1, r2⟩
def mTup (d : DMA) : DM := fun ps => (d ps).bind fun x => if x.1.length ≤ 1000 then .ok (.tup x.1, x.2) else .bad
theorem m_tup {x1} (h : JMA X G es dma) : JM X G (.Tuple es x1 pos) (mTup dma) := imp (pe_tup h) fun σ H Q ⟨c, ow, ps, w, ps', R, e, q⟩ => by
  obtain ⟨⟨ws, p1⟩, e1, e⟩ := bind_ok e
  split at e
  · rename_i hl
    cases e
    refine ⟨c, ow, ps, ws, p1, R, e1, fun vs H1 ow1 R1 k1 r1 => ⟨?_, fun p hp => ?_⟩⟩
    · rw [← r1.len]; exact Nat.le_of_lt (small1000 hl)
    · have s := same_upd hp (.tup vs)
      exact q _ _ ow1 (R1.grow s) (k1.trans (Kp.of_same s)) ⟨p, vs, rfl, SqT.of upd_same, r1.same s⟩
  · cases e
def mPop (i : Nat) : DM := fun ps => match ps[i]? with
  | some (.own (.lst xs)) => (match xs.getLast? with | some w => .ok (w, ps.set i (.own (.lst xs.dropLast))) | none => .bad)
  | _ => .bad
theorem Reps.last {K : PySem.W.Frag} {H : Hp} {A : Av} {ws : List PV} {vs : List V} {w : PV} (r : Reps K G H A ws vs) (e : ws.getLast? = some w) : ∃ v, vs[vs.length - 1]? = some v ∧ Rep K G H A w v := by
  rw [List.getLast?_eq_getElem?] at e
  obtain ⟨v, h1, h2⟩ := r.get e
  exact ⟨v, by rw [← r.len]; exact h1, h2⟩
theorem Reps.dropLast {K : PySem.W.Frag} {H : Hp} {A : Av} {ws : List PV} {vs : List V} (r : Reps K G H A ws vs) : Reps K G H A ws.dropLast vs.dropLast := by
  rw [List.dropLast_eq_take, List.dropLast_eq_take, r.len]
  exact r.take _
theorem m_pop (i : Nat) (hline : (apos.endLine == cpos.line) = true := by rfl) (hN : X.N[i]? = some x := by rfl) (hv : Vis X.env.scope x := by first | exact Or.inl rfl | exact Or.inr (Or.inl rfl) | exact Or.inr (Or.inr rfl)) (hd : (x == ("__debug__" : Str)) = false := by decide)
    (hcd : (x == ("__classdict__" : Str)) = false := by decide) (hbase : attributeBase (.Name x pos) "pop" X.env (eval (.Name x pos) X.env) = eval (.Name x pos) X.env := by rfl) : JM X G (.Call (.Attribute (.Name x pos) "pop" apos) [] [] cpos) (mPop i) :=
  imp (pe_bm0 PySem.F.plainAttrs_list PySem.F.slot_list_pop PySem.F.type_list_pop mt_pop (pe_var hN hv hd hcd) hbase hline) fun σ H Q ⟨c, ow, ps, w, ps', R, e, q⟩ => by
    unfold mPop at e
    split at e
    · rename_i xs hx
      split at e
      · rename_i w' hw
        cases e
        obtain ⟨p, e1, e2, vs, hH, rs⟩ := R.getO hx
        obtain ⟨v, hv, rv⟩ := rs.last hw
        have mD : Mt (HO.lst vs) := And.intro (fun _ z => by cases z) (fun _ _ z => by cases z)
        have k0 : Kp X.K G H (av c ow) (upd H p (.lst vs.dropLast)) (av c ow) := Kp.own (.inr ⟨i, e1⟩) hH mD
        have := R.chg (y := .lst xs.dropLast) (u := .lst vs.dropLast) hx e1 ⟨_, upd_same, k0.reps rs.dropLast⟩
        exact ⟨.ref p, e2, .inl ⟨rfl, _, SqL.of hH⟩, p, vs, v, rfl, rfl, hH, hv, q v _ ow this.1 this.2 (k0.rep rv)⟩
      · cases e
    · cases e
def mApp (i : Nat) (d : DM) : DM := fun ps => match ps[i]? with
  | some (.own (.lst _)) => (d ps).bind fun x => (match x.2[i]? with | some (.own (.lst xs)) => if xs.length < sizeLine then .ok (.non, x.2.set i (.own (.lst (xs ++ [x.1])))) else .bad | _ => .bad)
  | _ => .bad
theorem m_app (i : Nat) (he : JM X G e dm) (hline : (apos.endLine == cpos.line) = true := by rfl) (hN : X.N[i]? = some x := by rfl) (hv : Vis X.env.scope x := by first | exact Or.inl rfl | exact Or.inr (Or.inl rfl) | exact Or.inr (Or.inr rfl)) (hd : (x == ("__debug__" : Str)) = false := by decide)
    (hcd : (x == ("__classdict__" : Str)) = false := by decide) (hst : starEach [e] X.env = (false, eval e X.env) :: starEach [] X.env := by rfl) (hbase : attributeBase (.Name x pos) "append" X.env (eval (.Name x pos) X.env) = eval (.Name x pos) X.env := by rfl)
    (hpl : (backTo cpos (starEach ([] : List Expr) X.env)).any (·.1) = false := by rfl)
    (hfew : ((backTo cpos (starEach [e] X.env)).all (fun x => !x.1) && (backToKw cpos (keywordEach [] X.env)).all (fun x => x.1.isSome) && decide (([e] : List Expr).length + ([] : List Keyword).length + (if ([] : List Keyword).isEmpty then 0 else 1) < 30)) = true := by rfl) :
    JM X G (.Call (.Attribute (.Name x pos) "append" apos) [e] [] cpos) (mApp i dm) :=
  imp (pe_bm PySem.F.plainAttrs_list PySem.F.slot_list_append PySem.F.type_list_append mt_append (pe_var hN hv hd hcd) (pa_cons he pa_nil hst) hbase hfew hline hst hpl) fun σ H Q ⟨c, ow, ps, w, ps', R, e, q⟩ => by
    unfold mApp at e
    split at e
    · rename_i xs0 hx0
      obtain ⟨⟨w1, p1⟩, e1, e⟩ := bind_ok e
      split at e
      · rename_i xs hx
        split at e
        · rename_i hl
          cases e
          obtain ⟨p0, e2, e3, vs0, hH0, _⟩ := R.getO hx0
          refine ⟨.ref p0, e3, .inl ⟨rfl, _, SqL.of hH0⟩, c, ow, ps, w1, p1, R, e1, fun v H1 ow1 R1 k1 r1 => ?_⟩
          obtain ⟨p, e4, e5, vs, hH, rs⟩ := R1.getO hx
          rw [e3] at e5; cases e5
          have mD : Mt (HO.lst vs) := And.intro (fun _ z => by cases z) (fun _ _ z => by cases z)
          have k0 : Kp X.K G H1 (av c ow1) (upd H1 p0 (.lst (vs ++ [v]))) (av c ow1) := Kp.own (.inr ⟨i, e4⟩) hH mD
          have := R1.chg (y := .lst (xs ++ [w1])) (u := .lst (vs ++ [v])) hx e4 ⟨_, upd_same, k0.reps (rs.snoc r1)⟩
          exact ⟨p0, vs, v, rfl, rfl, hH, by rw [← rs.len]; exact hl, q .non _ ow1 this.1 (k1.trans this.2) rfl⟩
        · cases e
      · cases e
    · cases e
/-- the slot's own thing is handed on, frozen from now on -/
def mFrz (i : Nat) : DM := fun ps => match ps[i]? with
  | some (.own y) => .ok (y.pv, ps.set i (.v y.pv))
  | some (.v w) => .ok (w, ps)
  | _ => .bad
/-- f(..), an argument of which changes things of one's own, or is handed on -/
def mCall (f : List PV → Rx PV) (d : DMA) : DM := fun ps => (d ps).bind fun x => (f x.1).bind fun w => .ok (w, x.2)
end
theorem av_on {c : Fr} {ow : Ows} {i : Nat} {p : Addr} : ∀ a, av c (onW ow i p) a → a = p ∨ av c ow a := by
  intro a h
  rcases h with h | ⟨j, h⟩
  · exact .inr (.inl h)
  · unfold onW at h
    split at h
    · cases h; exact .inl rfl
    · exact .inr (.inr ⟨j, h⟩)
/-! ### statements -/
inductive Rs where
  | nx (ps : PSt) | ret (w : PV) | retn (xs : List PV) | reti (w : PV) (x : Ow) | brk (ps : PSt) | cnt (ps : PSt) | bad | exc (c : Nat)
abbrev DS := PSt → Rs
def EndsAt (K : PySem.W.Frag) (G : Pg) (c : Fr) (H : Hp) (A : Av) (D : Ends) : Rs → Prop
  | .nx ps => ∀ σ H' ow, RepS K G c H' ow ps σ → Kp K G H A H' (av c ow) → D.nx σ H'
  | .ret w => ∀ v H', SmL c H' → Rep K G H' c.A0 w v → D.rt v H'
  | .reti w x => ∀ v H' p, SmL c H' → c.lx = some p → RepO K G H' c.A0 x p → Rep K G H' c.A0 w v → D.rt v H'
  | .retn xs => ∀ p vs H', SmL c H' → c.H0 p = none → H' p = some (.lst vs) → Reps K G H' (fun a => c.A0 a ∨ a = p) xs vs → D.rt (.ref p) H'
  | .brk ps => ∀ σ H' ow, RepS K G c H' ow ps σ → Kp K G H A H' (av c ow) → D.bk σ H'
  | .cnt ps => ∀ σ H' ow, RepS K G c H' ow ps σ → Kp K G H A H' (av c ow) → D.ct σ H'
  | .bad => False
  | .exc _ => False
theorem EndsAt.mono {K : PySem.W.Frag} {G : Pg} {c : Fr} {H H1 : Hp} {A A1 : Av} {D : Ends} {r : Rs} (h : EndsAt K G c H A D r) (k : Kp K G H A H1 A1) : EndsAt K G c H1 A1 D r := by
  cases r with
  | nx ps => exact fun σ H' ow R k' => h σ H' ow R (k.trans k')
  | ret w => exact h
  | retn xs => exact h
  | reti w x => exact h
  | brk ps => exact fun σ H' ow R k' => h σ H' ow R (k.trans k')
  | cnt ps => exact fun σ H' ow R k' => h σ H' ow R (k.trans k')
  | bad => exact h
  | exc c => exact h
def tD (K : PySem.W.Frag) (G : Pg) (d : DS) : TS := fun D σ H => ∃ (c : Fr) (ow : Ows) (ps : PSt), RepS K G c H ow ps σ ∧ EndsAt K G c H (av c ow) D (d ps)
abbrev JS (X : Cx) (G : Pg) (st : Stmt) (d : DS) : Prop := PS X st (tD X.K G d)
abbrev JSs (X : Cx) (G : Pg) (st : List Stmt) (d : DS) : Prop := PSs X st (tD X.K G d)
theorem impS {X : Cx} {st : Stmt} {t t' : TS} (h : PS X st t) (f : ∀ D σ H, t' D σ H → t D σ H) : PS X st t' := fun pins s σ H D I q => h pins s σ H D I (f D σ H q)
theorem impSs {X : Cx} {st : List Stmt} {t t' : TS} (h : PSs X st t) (f : ∀ D σ H, t' D σ H → t D σ H) : PSs X st t' := fun pins s σ H D I q => h pins s σ H D I (f D σ H q)
def Rx.st {α : Type} : Rx α → (α → Rs) → Rs
  | .ok a, f => f a
  | .bad, _ => .bad
  | .exc c, _ => .exc c
@[simp] theorem ok_st {α : Type} (a : α) (f : α → Rs) : (Rx.ok a).st f = f a := rfl
@[simp] theorem bad_st {α : Type} (f : α → Rs) : (Rx.bad : Rx α).st f = .bad := rfl
@[simp] theorem exc_st {α : Type} (c : Nat) (f : α → Rs) : (Rx.exc c : Rx α).st f = .exc c := rfl
theorem ends_st {α : Type} {K : PySem.W.Frag} {G : Pg} {c : Fr} {H : Hp} {A : Av} {D : Ends} {m : Rx α} {f : α → Rs} (h : EndsAt K G c H A D (m.st f)) : ∃ a, m = .ok a ∧ EndsAt K G c H A D (f a) := by
  cases m with
  | ok a => exact ⟨a, rfl, h⟩
  | bad => exact h.elim
  | exc c => exact h.elim
section
variable {X : Cx} {G : Pg} {e a b o tg : Expr} {es : List Expr} {da db : DP} {d : DA} {dm : DM} {ds du : DS} {st : Stmt} {rest : List Stmt} {pos p : Pos} {x m : Str} {k i : Nat}
def sNext : DS := fun ps => .nx ps
def sSeq (a b : DS) : DS := fun ps => match a ps with | .nx ps' => b ps' | r => r
theorem ss_nil : JSs X G [] sNext := impSs pss_nil fun D σ H ⟨c, ow, ps, R, q⟩ => q σ H ow R (Kp.of_same (Same.refl H))
theorem ss_one (h : JS X G st ds) : JSs X G [st] ds := pss_one h
theorem ss_cons (h1 : JS X G st ds) (h2 : JSs X G rest du) : JSs X G (st :: rest) (sSeq ds du) := impSs (pss_cons h1 h2) fun D σ H ⟨c, ow, ps, R, q⟩ => by
  refine ⟨c, ow, ps, R, ?_⟩
  unfold sSeq at q
  cases e : ds ps with
  | nx ps' => rw [e] at q; exact fun σ' H' ow' R' k => ⟨c, ow', ps', R', q.mono k⟩
  | ret w => rw [e] at q; exact q
  | retn xs => rw [e] at q; exact q
  | reti w x => rw [e] at q; exact q
  | brk ps' => rw [e] at q; exact q
  | cnt ps' => rw [e] at q; exact q
  | bad => rw [e] at q; exact q
  | exc c => rw [e] at q; exact q
def sBrk : DS := fun ps => .brk ps
def sCnt : DS := fun ps => .cnt ps
def sSet (i : Nat) (d : DP) : DS := fun ps => (d ps).st fun w => .nx (ps.set i (.v w))
theorem s_set (hN : X.N.Nodup) (hi : X.N[i]? = some x) (hx : Loc X.env.scope x) (he : JP X G e da) (hs : swapsWith e (some (.Name x p)) pos.line X.env = pure false := by rfl) (hf : X.fn x = true ∨ X.env.scope.names.lookup x = some .local := by first | exact .inl rfl | exact .inr rfl | assumption) :
    JS X G (.Assign [.Name x p] e pos) (sSet i da) := impS (ps_set hN hi hx he hs hf) fun D σ H ⟨c, ow, ps, R, q⟩ => by
  obtain ⟨w, e1, q⟩ := ends_st q
  exact ⟨c, ow, ps, w, R, e1, fun v H' s r => q _ _ _ ((R.grow s).setV r) ((Kp.of_same s).trans (Kp.weak av_off))⟩
def sSetM (i : Nat) (d : DM) : DS := fun ps => (d ps).st fun w => .nx (w.2.set i (.v w.1))
theorem s_setM (hN : X.N.Nodup) (hi : X.N[i]? = some x) (hx : Loc X.env.scope x) (he : JM X G e dm) (hs : swapsWith e (some (.Name x p)) pos.line X.env = pure false := by rfl) (hf : X.fn x = true ∨ X.env.scope.names.lookup x = some .local := by first | exact .inl rfl | exact .inr rfl | assumption) :
    JS X G (.Assign [.Name x p] e pos) (sSetM i dm) := impS (ps_set hN hi hx he hs hf) fun D σ H ⟨c, ow, ps, R, q⟩ => by
  obtain ⟨⟨w, ps'⟩, e1, q⟩ := ends_st q
  exact ⟨c, ow, ps, w, ps', R, e1, fun v H' ow' R' k r => q _ _ _ (R'.setV r) (k.trans (Kp.weak av_off))⟩
/-- a new list into a slot, one's own -/
def sOwn (i : Nat) (d : DA) : DS := fun ps => (d ps).st fun ws => if i < ps.length then .nx (ps.set i (.own (.lst ws))) else .bad
theorem s_own (hN : X.N.Nodup) (hi : X.N[i]? = some x) (hx : Loc X.env.scope x) (he : JN X G e d) (hs : swapsWith e (some (.Name x p)) pos.line X.env = pure false := by rfl) (hf : X.fn x = true ∨ X.env.scope.names.lookup x = some .local := by first | exact .inl rfl | exact .inr rfl | assumption) :
    JS X G (.Assign [.Name x p] e pos) (sOwn i d) := impS (ps_set hN hi hx he hs hf) fun D σ H ⟨c, ow, ps, R, q⟩ => by
  obtain ⟨ws, e1, q⟩ := ends_st q
  split at q
  · rename_i hl
    exact ⟨c, ow, ps, ws, R, e1, fun p vs H' s hp hv r => q _ _ _ (R.setO hl s hp ⟨vs, hv, r⟩) (Kp.take hp s av_on)⟩
  · exact q.elim
/-- any target -/
def sAsg (g : DG) (d : DP) : DS := fun ps => (d ps).st fun w => (g w ps).st fun ps' => .nx ps'
def sExpr (d : DM) : DS := fun ps => (d ps).st fun w => .nx w.2
theorem s_expr (he : JM X G e dm) (hs : swapsWith e none pos.line X.env = pure false := by rfl) : JS X G (.Expr e pos) (sExpr dm) := impS (ps_expr he hs) fun D σ H ⟨c, ow, ps, R, q⟩ => by
  obtain ⟨⟨w, ps'⟩, e1, q⟩ := ends_st q
  exact ⟨c, ow, ps, w, ps', R, e1, fun v H' ow' R' k r => q _ _ _ R' k⟩
def sRet (d : DP) : DS := fun ps => (d ps).st fun w => .ret w
theorem s_ret (he : JP X G e da) : JS X G (.Return (some e) pos) (sRet da) := impS (ps_ret he) fun D σ H ⟨c, ow, ps, R, q⟩ => by
  obtain ⟨w, e1, q⟩ := ends_st q
  exact ⟨c, ow, ps, w, R, e1, fun v H' s r => q v H' (R.same.trans s) ((Kp.weak fun a z => Or.inl z).rep r)⟩
def sRetM (d : DM) : DS := fun ps => (d ps).st fun w => .ret w.1
/-- a new list is handed out; a list of one's own is handed out -/
def sRetW (d : DA) : DS := fun ps => (d ps).st fun xs => .retn xs
def sRetO (i : Nat) : DS := fun ps => match ps[i]? with | some (.own (.lst xs)) => .retn xs | _ => .bad
def sRetN : DS := fun _ => .ret .non
def sIf (t : DT) (a b : DS) : DS := fun ps => (t ps).st fun x => if x = true then a ps else b ps
theorem s_if {c : Expr} {a b : List Stmt} {dt : DT} (hc : JT X G c dt) (ha : JSs X G a ds) (hb : JSs X G b du) : JS X G (.If c a b pos) (sIf dt ds du) := impS (ps_if hc ha hb) fun D σ H ⟨c, ow, ps, R, q⟩ => by
  obtain ⟨x, e1, q⟩ := ends_st q
  refine ⟨c, ow, ps, x, R, e1, fun H' s => ?_⟩
  split at q
  · rename_i hx; subst hx; exact iteT ⟨c, ow, ps, R.grow s, q.mono (Kp.of_same s)⟩
  · rename_i hx
    have : x = false := by simpa using hx
    subst this
    exact iteF ⟨c, ow, ps, R.grow s, q.mono (Kp.of_same s)⟩
/-- code that is never come to -/
def sNever : DS := fun _ => .bad
theorem s_never : JS X G st sNever := fun _ _ _ _ _ _ ⟨c, ow, ps, R, q⟩ => q.elim
/-! ### for -/
def forD (g : DG) (body : DS) : List PV → PSt → Rs
  | [], ps => .nx ps
  | w :: ws, ps => (g w ps).st fun ps1 => match body ps1 with
    | .nx ps2 => forD g body ws ps2
    | .cnt ps2 => forD g body ws ps2
    | .brk ps2 => .nx ps2
    | r => r
def sFor (di : DA) (g : DG) (body : DS) : DS := fun ps => (di ps).st fun ws => forD g body ws ps
theorem s_for {iter : Expr} {body : List Stmt} {di : DA} {g : DG} (hp : PassesOwn (model X.prog X.w) X.A X.env X.xe) (hc : X.calm = true) (hi : JI X G tg iter di) (hg : JG X G tg g) (hb : JSs X G body ds)
    (hs : ∀ x, foldedSetIterable iter X.env x = pure x := by intro _; rfl) : JS X G (.For tg iter body [] pos) (sFor di g ds) := impS (ps_for hp hc hi hg hb hs) fun D σ H ⟨c, ow, ps, R, q⟩ => by
  obtain ⟨ws, e1, q⟩ := ends_st q
  refine ⟨c, ow, ps, ws, R, e1, fun J H1 vs s1 rep wk => ?_⟩
  refine ⟨fun i m σ' H' => ∃ ow' ps', m = ws.length - i ∧ i ≤ ws.length ∧ RepS X.K G c H' ow' ps' σ' ∧ Kp X.K G H1 (av c ow) H' (av c ow') ∧ EndsAt X.K G c H' (av c ow') D (forD g ds (ws.drop i) ps'),
    ⟨_, ow, ps, rfl, Nat.zero_le _, R.grow s1, Kp.of_same (Same.refl _), q.mono (Kp.of_same s1)⟩, ?_⟩
  rintro i m σ' H' ⟨ow', ps', rfl, hi', R', k', q'⟩
  obtain ⟨wg, wst⟩ := wk H' _ k' R'.same
  rcases Nat.lt_or_ge i ws.length with hlt | hge
  · right
    rw [List.drop_eq_getElem_cons hlt] at q'
    obtain ⟨v, hv, rv⟩ := (k'.reps rep).get (List.getElem?_eq_getElem hlt)
    obtain ⟨go, yl⟩ := wg i v hv
    refine ⟨go, _, fun _ _ h => h, fun y H2 hyl => ?_⟩
    obtain ⟨rfl, rfl⟩ := yl y H2 hyl
    obtain ⟨ps1, c1, q'⟩ := ends_st q'
    refine ⟨c, ow', ps', ws[i], ps1, R', rv, c1, fun σ3 ow3 R3 wk3 => ?_⟩
    have k3 : Kp X.K G H1 (av c ow) H2 (av c ow3) := k'.trans (Kp.weak wk3)
    have q3 := q'.mono (Kp.weak (K := X.K) (G := G) (H := H2) wk3)
    refine ⟨c, ow3, ps1, R3, ?_⟩
    cases er : ds ps1 with
    | nx ps2 =>
      rw [er] at q3
      exact fun σ4 H4 ow4 R4 k4 => ⟨ws.length - (i + 1), by omega, ow4, ps2, rfl, hlt, R4, k3.trans k4, EndsAt.mono q3 k4⟩
    | cnt ps2 =>
      rw [er] at q3
      exact fun σ4 H4 ow4 R4 k4 => ⟨ws.length - (i + 1), by omega, ow4, ps2, rfl, hlt, R4, k3.trans k4, EndsAt.mono q3 k4⟩
    | brk ps2 => rw [er] at q3; exact q3
    | ret w => rw [er] at q3; exact q3
    | retn xs => rw [er] at q3; exact q3
    | reti w x => rw [er] at q3; exact q3
    | bad => rw [er] at q3; exact q3
    | exc c => rw [er] at q3; exact q3
  · left
    have : i = ws.length := Nat.le_antisymm hi' hge
    subst this
    rw [List.drop_length] at q'
    exact ⟨by rw [rep.len]; exact wst, q' σ' H' ow' R' (Kp.of_same (Same.refl _))⟩
/-! ### while -/
/-- n turns at most; none: it goes on -/
def iterD (t : DT) (body : DS) : Nat → PSt → Option Rs
  | 0, _ => none
  | n + 1, ps => match t ps with
    | .ok true => (match body ps with
      | .nx ps2 => iterD t body n ps2
      | .cnt ps2 => iterD t body n ps2
      | .brk ps2 => some (.nx ps2)
      | r => some r)
    | .ok false => some (.nx ps)
    | .bad => some .bad
    | .exc c => some (.exc c)
theorem iter_more {t : DT} {body : DS} : ∀ {n : Nat} {ps : PSt} {r : Rs}, iterD t body n ps = some r → iterD t body (n + 1) ps = some r
  | 0, ps, r, h => by cases h
  | n + 1, ps, r, h => by
    rw [iterD] at h ⊢
    cases e : t ps with
    | ok b =>
      rw [e] at h
      cases b with
      | true =>
        cases e2 : body ps with
        | nx ps2 => rw [e2] at h; exact iter_more h
        | cnt ps2 => rw [e2] at h; exact iter_more h
        | brk ps2 => rw [e2] at h; exact h
        | ret w => rw [e2] at h; exact h
        | retn xs => rw [e2] at h; exact h
        | reti w x => rw [e2] at h; exact h
        | bad => rw [e2] at h; exact h
        | exc c => rw [e2] at h; exact h
      | false => exact h
    | bad => rw [e] at h; exact h
    | exc c => rw [e] at h; exact h
theorem iter_le {t : DT} {body : DS} {n m : Nat} {ps : PSt} {r : Rs} (h : iterD t body n ps = some r) (hm : n ≤ m) : iterD t body m ps = some r := by
  induction m with
  | zero =>
    have : n = 0 := by omega
    subst this
    exact h
  | succ m ih =>
    rcases Nat.lt_or_ge n (m + 1) with q | q
    · exact iter_more (ih (by omega))
    · have : n = m + 1 := by omega
      subst this; exact h
open Classical in
noncomputable def sWhile (t : DT) (body : DS) : DS := fun ps => if h : ∃ n r, iterD t body n ps = some r then (iterD t body h.choose ps).getD .bad else .bad
theorem while_of {t : DT} {body : DS} {n : Nat} {ps : PSt} {r : Rs} (h : iterD t body n ps = some r) : sWhile t body ps = r := by
  have hx : ∃ n r, iterD t body n ps = some r := ⟨n, r, h⟩
  unfold sWhile
  rw [dif_pos hx]
  obtain ⟨r', e⟩ := hx.choose_spec
  have e1 := iter_le e (Nat.le_max_left hx.choose n)
  have e2 := iter_le h (Nat.le_max_right hx.choose n)
  rw [e1] at e2
  cases e2
  rw [e]; rfl
/-- the turn as an equation -/
theorem while_eq (t : DT) (body : DS) (ps : PSt) : sWhile t body ps = (t ps).st fun b => if b = true then (match body ps with | .nx ps2 => sWhile t body ps2 | .cnt ps2 => sWhile t body ps2 | .brk ps2 => .nx ps2 | r => r) else .nx ps := by
  cases e : t ps with
  | bad => exact while_of (n := 1) (by rw [iterD, e]; rfl)
  | exc c => exact while_of (n := 1) (by rw [iterD, e]; rfl)
  | ok b =>
    cases b with
    | false => exact while_of (n := 1) (by rw [iterD, e]; rfl)
    | true =>
      rw [ok_st, if_pos rfl]
      have again : ∀ ps2, (body ps = .nx ps2 ∨ body ps = .cnt ps2) → sWhile t body ps = sWhile t body ps2 := by
        intro ps2 eb
        by_cases hx : ∃ n r, iterD t body n ps2 = some r
        · obtain ⟨n, r, h⟩ := hx
          rw [while_of h]
          refine while_of (n := n + 1) ?_
          rw [iterD, e]
          rcases eb with eb | eb <;> (rw [eb]; exact h)
        · have hy : ¬ ∃ n r, iterD t body n ps = some r := by
            rintro ⟨n, r, h⟩
            cases n with
            | zero => cases h
            | succ n =>
              rw [iterD, e] at h
              rcases eb with eb | eb <;> (rw [eb] at h; exact hx ⟨n, r, h⟩)
          unfold sWhile
          rw [dif_neg hx, dif_neg hy]
      cases eb : body ps with
      | nx ps2 => exact again ps2 (.inl eb)
      | cnt ps2 => exact again ps2 (.inr eb)
      | brk ps2 => exact while_of (n := 1) (by rw [iterD, e]; simp only [eb])
      | ret w => exact while_of (n := 1) (by rw [iterD, e]; simp only [eb])
      | retn xs => exact while_of (n := 1) (by rw [iterD, e]; simp only [eb])
      | reti w x => exact while_of (n := 1) (by rw [iterD, e]; simp only [eb])
      | bad => exact while_of (n := 1) (by rw [iterD, e]; simp only [eb])
      | exc c => exact while_of (n := 1) (by rw [iterD, e]; simp only [eb])
theorem s_while {ce : Expr} {body : List Stmt} {dt : DT} (hp : PassesOwn (model X.prog X.w) X.A X.env X.xe) (hc : JT X G ce dt) (hb : JSs X G body ds) : JS X G (.While ce body [] pos) (sWhile dt ds) := impS (ps_while hp hc hb) fun D σ H ⟨c, ow, ps, R, q⟩ => by
  by_cases hx : ∃ n r, iterD dt ds n ps = some r
  · obtain ⟨n, r, h⟩ := hx
    rw [while_of h] at q
    refine ⟨fun m σ' H' => ∃ ow' ps', RepS X.K G c H' ow' ps' σ' ∧ iterD dt ds m ps' = some r ∧ EndsAt X.K G c H' (av c ow') D r, ⟨n, ow, ps, R, h, q⟩, ?_⟩
    rintro m σ' H' ⟨ow', ps', R', h', q'⟩
    cases m with
    | zero => cases h'
    | succ m =>
      rw [iterD] at h'
      cases e : dt ps' with
      | bad => rw [e] at h'; cases h'; exact q'.elim
      | exc c => rw [e] at h'; cases h'; exact q'.elim
      | ok b =>
        rw [e] at h'
        refine ⟨c, ow', ps', b, R', e, fun H2 s2 => ?_⟩
        cases b with
        | false =>
          cases h'
          exact iteF (q' σ' H2 ow' (R'.grow s2) (Kp.of_same s2))
        | true =>
          refine iteT ⟨_, fun _ _ h => h, c, ow', ps', R'.grow s2, ?_⟩
          have q2 := q'.mono (Kp.of_same (K := X.K) (G := G) s2)
          cases eb : ds ps' with
          | nx ps2 =>
            have h' : iterD dt ds m ps2 = some r := by simpa only [eb] using h'
            exact fun σ4 H4 ow4 R4 k4 => ⟨m, Nat.lt_succ_self m, ow4, ps2, R4, h', q2.mono k4⟩
          | cnt ps2 =>
            have h' : iterD dt ds m ps2 = some r := by simpa only [eb] using h'
            exact fun σ4 H4 ow4 R4 k4 => ⟨m, Nat.lt_succ_self m, ow4, ps2, R4, h', q2.mono k4⟩
          | brk ps2 => simp only [eb] at h'; cases h'; exact q2
          | ret w => simp only [eb] at h'; cases h'; exact q2
          | retn xs => simp only [eb] at h'; cases h'; exact q2
          | reti w x => simp only [eb] at h'; cases h'; exact q2
          | bad => simp only [eb] at h'; cases h'; exact q2
          | exc c => simp only [eb] at h'; cases h'; exact q2
  · unfold sWhile at q
    rw [dif_neg hx] at q
    exact q.elim
end
/-! ### a def -/
def inP (ms : List Bool) (n : Nat) (ws : List PV) : PSt := (List.zipWith (fun m w => if m = true then Sl.bor w else Sl.v w) ms ws) ++ List.replicate (n - ws.length) .no
def runD (ms : List Bool) (n : Nat) (d : DS) (ws : List PV) : Rx PV := if ws.length = ms.length then (match d (inP ms n ws) with | .ret w => .ok w | .retn xs => .ok (.lst xs) | .nx _ => .ok .non | .exc c => .exc c | _ => .bad) else .bad
theorem inF {K : PySem.W.Frag} {G : Pg} {H : Hp} {A : Av} : ∀ {ms : List Bool} {ws : List PV} {vs : List V} {i : Nat} {s : Sl} {o : Option V}, RepM K G H A ms ws vs → (List.zipWith (fun m w => if m = true then Sl.bor w else Sl.v w) ms ws)[i]? = some s → (vs.map some)[i]? = some o → SlF K G (fun p => H p ≠ none) H A s o
  | [], ws, vs, i, s, o, h, e1, e2 => by obtain ⟨rfl, rfl⟩ := h; simp at e1
  | m :: ms, ws, vs, 0, s, o, h, e1, e2 => by
    obtain ⟨w, wr, v, vr, rfl, rfl, r, rr⟩ := h
    simp at e1 e2
    subst e1; subst e2
    cases m with
    | true =>
      simp only [if_pos]
      rw [if_pos rfl] at r
      refine ⟨v, rfl, ?_⟩
      rcases r with r | ⟨x, p, e1, e2, r⟩
      · exact .inl r
      · obtain ⟨o', eo, _⟩ := r.at
        exact .inr ⟨x, p, e1, e2, r, by show H p ≠ none; rw [eo]; simp⟩
    | false =>
      rw [if_neg Bool.false_ne_true] at r
      exact ⟨v, rfl, r⟩
  | m :: ms, ws, vs, i + 1, s, o, h, e1, e2 => by
    obtain ⟨w, wr, v, vr, rfl, rfl, r, rr⟩ := h
    exact inF (i := i) rr (by simpa using e1) (by simpa using e2)
theorem in_rep {K : PySem.W.Frag} {G : Pg} {H : Hp} {A : Av} {ms : List Bool} {ws : List PV} {vs : List V} {N : List Str} (r : RepM K G H A ms ws vs) : RepF K G (fun p => H p ≠ none) H A (inP ms N.length ws) (L2.start N vs) := by
  have l1 := r.len.1
  have l2 := r.len.2
  refine ⟨by simp [inP, L2.start, l1, l2], fun i s o e1 e2 => ?_⟩
  unfold inP at e1
  unfold L2.start at e2
  rcases Nat.lt_or_ge i ms.length with h | h
  · rw [List.getElem?_append_left (by simp [l1]; omega)] at e1
    rw [List.getElem?_append_left (by simp [l2]; omega)] at e2
    exact inF r e1 e2
  · rw [List.getElem?_append_right (by simp [l1]; omega), List.getElem?_replicate] at e1
    split at e1
    · cases e1; exact True.intro
    · cases e1
/-- THE RULE for a def: its body's mirror -/
theorem fn_ok {P : Program} {w : World} {K : PySem.W.Frag} {mg : Str → Option Value} {base : Bs} {G : Pg} {x qual : Str} {st : Stmt} {f : Addr} {fd : FuncData} {N ps : List Str} {k : Nat} {ms : List Bool} {d : DS} (F : Fun K x qual st f fd) (S : FnScope N ps (defScope st)) (hm : ms.length = ps.length)
    (hb : ∀ (cdv : Value) (A : Around) (outer : List Env) (s : Shared) (H : Hp) (E : XK), Room k (A.deeper (envOfC qual (defScope st) s.heap.objs.size f cdv)) → JSs (cxOf CX0 P w K mg base N qual (defScope st) f cdv A outer s H E).nox G (defBody st) d) :
    FnOk P w K mg base CX0 (k + 1) f fd ps (spG K G ms (runD ms N.length d)) := by
  refine F.ok S (fun vs H Q E h => ?_) (fun cdv A outer s H vs Q E hr h => ?_)
  · obtain ⟨A, ws, w, u, r, _⟩ := h
    rw [r.len.2, hm]
  · obtain ⟨A', ws, w', u, r, e, q⟩ := h
    refine ⟨_, hb cdv A outer s H E hr, ?_⟩
    have F0 := in_rep (N := N) r
    have S0 := F0.toS u fun a z => z
    refine ⟨_, ow0, inP ms N.length ws, S0, ?_⟩
    unfold runD at e
    rw [if_pos r.len.1] at e
    cases ed : d (inP ms N.length ws) with
    | nx ps' => rw [ed] at e; cases e; exact fun σ' H' ow' R' _ => q .non H' (R'.same.same rfl) rfl
    | ret w2 => rw [ed] at e; cases e; exact fun v H' s r => q v H' (s.same rfl) r
    | reti w x => rw [ed] at e; cases e
    | retn xs => rw [ed] at e; cases e; exact fun p vs H' s hp hv r => q (.ref p) H' (s.same rfl) ⟨p, vs, rfl, .inl ⟨hv, fun z => u p z hp⟩, (Kp.weak fun a z => Or.inl z).reps r⟩
    | brk _ => rw [ed] at e; cases e
    | cnt _ => rw [ed] at e; cases e
    | bad => rw [ed] at e; cases e
    | exc _ => rw [ed] at e; cases e
end DN
end
section
set_option Elab.async false
set_option linter.all false
set_option maxRecDepth 100000
set_option maxHeartbeats 4000000
namespace DN
open PySem PySem.Spec PyProof.Rows L2
def isF : PV → Bool
  | .non => true | .bl _ => true | .int _ => true | .str _ => true | _ => false
mutual
def peq : PV → PV → Option Bool
  | .tup xs, .tup ys => peqs xs ys
  | .lst xs, .lst ys => if xs.length = ys.length then peqs xs ys else some false
  | .tup _, .lst _ => some false
  | .lst _, .tup _ => some false
  | .tup _, .non => some false | .tup _, .bl _ => some false | .tup _, .int _ => some false | .tup _, .str _ => some false
  | .lst _, .non => some false | .lst _, .bl _ => some false | .lst _, .int _ => some false | .lst _, .str _ => some false
  | .non, .tup _ => some false | .bl _, .tup _ => some false | .int _, .tup _ => some false | .str _, .tup _ => some false
  | .non, .lst _ => some false | .bl _, .lst _ => some false | .int _, .lst _ => some false | .str _, .lst _ => some false
  | .non, .non => some true | .bl a, .bl b => some (a == b) | .int a, .int b => some (a == b) | .str a, .str b => some (a == b)
  | .bl a, .int b => some ((if a then 1 else 0) == b) | .int a, .bl b => some (a == (if b then 1 else 0))
  | .non, .bl _ => some false | .non, .int _ => some false | .non, .str _ => some false
  | .bl _, .non => some false | .int _, .non => some false | .str _, .non => some false
  | .bl _, .str _ => some false | .str _, .bl _ => some false | .int _, .str _ => some false | .str _, .int _ => some false
  | _, _ => none
def peqs : List PV → List PV → Option Bool
  | [], [] => some true
  | x :: xs, y :: ys => match peq x y, peqs xs ys with | some a, some b => some (a && b) | _, _ => none
  | [], _ :: _ => some false
  | _ :: _, [] => some false
end
mutual
def PV.depth : PV → Nat
  | .tup xs => pdepths xs + 1
  | .lst xs => pdepths xs + 1
  | _ => 0
def pdepths : List PV → Nat
  | [] => 0
  | x :: xs => max x.depth (pdepths xs)
end
def eAt : List PV → List PV → Nat → Bool
  | x :: _, y :: _, 0 => (peq x y).getD false
  | _ :: xs, _ :: ys, j + 1 => eAt xs ys j
  | _, _, _ => false
theorem peqs_cons {x y : PV} {xs ys : List PV} {b : Bool} (h : peqs (x :: xs) (y :: ys) = some b) : ∃ a c, peq x y = some a ∧ peqs xs ys = some c ∧ b = (a && c) := by
  rw [peqs] at h
  cases e1 : peq x y with
  | none => rw [e1] at h; simp at h
  | some a =>
    cases e2 : peqs xs ys with
    | none => rw [e1, e2] at h; simp at h
    | some c => rw [e1, e2] at h; simp at h; exact ⟨a, c, rfl, rfl, h.symm⟩
theorem peqs_all : ∀ {xs ys : List PV} {b : Bool}, peqs xs ys = some b → ((List.range (min xs.length ys.length)).all (eAt xs ys) && xs.length == ys.length) = b
  | [], [], b, h => by rw [peqs] at h; cases h; rfl
  | [], y :: ys, b, h => by rw [peqs] at h; cases h; simp
  | x :: xs, [], b, h => by rw [peqs] at h; cases h; simp
  | x :: xs, y :: ys, b, h => by
    obtain ⟨a, c, e1, e2, rfl⟩ := peqs_cons h
    have ih := peqs_all e2
    rw [← ih, List.length_cons, List.length_cons, Nat.add_min_add_right, List.range_succ_eq_map, List.all_cons, List.all_map]
    have q1 : ((eAt (x :: xs) (y :: ys)) ∘ Nat.succ) = eAt xs ys := rfl
    have q2 : eAt (x :: xs) (y :: ys) 0 = a := by show (peq x y).getD false = a; rw [e1]; rfl
    have q3 : (xs.length + 1 == ys.length + 1) = (xs.length == ys.length) := by simp
    rw [q1, q2, q3, Bool.and_assoc]
section
variable {X : Cx} {G : Pg} {pins : List (Addr × Obj)} {σ : L2.St} {H : Hp} {s : Shared} {A0 : Av}
theorem list_inj' (I : Inv X pins σ H s) {a : Addr} {xs ys : List V} (h : SqL X.K H a xs) (h' : SqL X.K H a ys) : xs = ys := by
  obtain ⟨i1, r1, p1, _⟩ := I.list h
  obtain ⟨i2, r2, p2, _⟩ := I.list h'
  obtain ⟨o, n, e, c, d, q⟩ := p1
  obtain ⟨o', n', e', c', d', q'⟩ := p2
  rw [e] at e'; cases e'
  rw [q] at q'
  have : i1 = i2 := by
    have := (Data.seq.inj q').1
    simpa using this
  subst this
  exact r1.inj r2
mutual
theorem rep_inj (I : Inv X pins σ H s) : ∀ {x y : PV} {v : V} {b : Bool}, Rep X.K G H A0 x v → Rep X.K G H A0 y v → peq x y = some b → b = true
  | .tup xs, y, v, b, h, h', e => by
    obtain ⟨a, vs, rfl, sq, rs⟩ := h
    cases y with
    | tup ys =>
      obtain ⟨a', vs', e2, sq', rs'⟩ := h'
      cases e2
      have := I.tuple_inj sq sq'
      subst this
      rw [peq] at e
      exact reps_inj I rs rs' e
    | lst ys =>
      obtain ⟨a', vs', e2, sq', rs'⟩ := h'
      cases e2
      obtain ⟨_, _, ⟨o, h1, h2, _⟩, _⟩ := I.tuple sq
      obtain ⟨_, _, ⟨o', _, h1', h2', _⟩, _⟩ := I.list sq'.sq
      rw [h1] at h1'; cases h1'
      rw [h2] at h2'; exact absurd (Value.type.inj h2') (by decide)
    | non => cases h'
    | bl _ => cases h'
    | int _ => cases h'
    | str _ => cases h'
    | _ => simp [peq] at e
  | .lst xs, y, v, b, h, h', e => by
    obtain ⟨a, vs, rfl, sq, rs⟩ := h
    cases y with
    | lst ys =>
      obtain ⟨a', vs', e2, sq', rs'⟩ := h'
      cases e2
      have := list_inj' I sq.sq sq'.sq
      subst this
      rw [peq, if_pos (by rw [rs.len, rs'.len])] at e
      exact reps_inj I rs rs' e
    | tup ys =>
      obtain ⟨a', vs', e2, sq', rs'⟩ := h'
      cases e2
      obtain ⟨_, _, ⟨o, h1, h2, _⟩, _⟩ := I.tuple sq'
      obtain ⟨_, _, ⟨o', _, h1', h2', _⟩, _⟩ := I.list sq.sq
      rw [h1] at h1'; cases h1'
      rw [h2] at h2'; exact absurd (Value.type.inj h2') (by decide)
    | non => cases h'
    | bl _ => cases h'
    | int _ => cases h'
    | str _ => cases h'
    | _ => simp [peq] at e
  | .non, y, v, b, h, h', e => by
    cases h
    cases y with
    | non => cases h' <;> (rw [peq] at e; cases e; simp)
    | bl _ => cases h' <;> (rw [peq] at e; cases e; simp)
    | int _ => cases h' <;> (rw [peq] at e; cases e; simp)
    | str _ => cases h' <;> (rw [peq] at e; cases e; simp)
    | tup _ => obtain ⟨_, _, z, _⟩ := h'; cases z
    | lst _ => obtain ⟨_, _, z, _⟩ := h'; cases z
    | dic _ _ => obtain ⟨_, _, z, _⟩ := h'; cases z
    | dit _ _ => obtain ⟨_, _, z, _⟩ := h'; cases z
    | clo _ _ => obtain ⟨_, _, _, z, _⟩ := h'; cases z
    | obj _ _ => obtain ⟨_, _, _, z, _⟩ := h'; cases z
  | .bl k, y, v, b, h, h', e => by
    cases h
    cases y with
    | non => cases h' <;> (rw [peq] at e; cases e; simp)
    | bl _ => cases h' <;> (rw [peq] at e; cases e; simp)
    | int _ => cases h' <;> (rw [peq] at e; cases e; simp)
    | str _ => cases h' <;> (rw [peq] at e; cases e; simp)
    | tup _ => obtain ⟨_, _, z, _⟩ := h'; cases z
    | lst _ => obtain ⟨_, _, z, _⟩ := h'; cases z
    | dic _ _ => obtain ⟨_, _, z, _⟩ := h'; cases z
    | dit _ _ => obtain ⟨_, _, z, _⟩ := h'; cases z
    | clo _ _ => obtain ⟨_, _, _, z, _⟩ := h'; cases z
    | obj _ _ => obtain ⟨_, _, _, z, _⟩ := h'; cases z
  | .int k, y, v, b, h, h', e => by
    cases h
    cases y with
    | non => cases h' <;> (rw [peq] at e; cases e; simp)
    | bl _ => cases h' <;> (rw [peq] at e; cases e; simp)
    | int _ => cases h' <;> (rw [peq] at e; cases e; simp)
    | str _ => cases h' <;> (rw [peq] at e; cases e; simp)
    | tup _ => obtain ⟨_, _, z, _⟩ := h'; cases z
    | lst _ => obtain ⟨_, _, z, _⟩ := h'; cases z
    | dic _ _ => obtain ⟨_, _, z, _⟩ := h'; cases z
    | dit _ _ => obtain ⟨_, _, z, _⟩ := h'; cases z
    | clo _ _ => obtain ⟨_, _, _, z, _⟩ := h'; cases z
    | obj _ _ => obtain ⟨_, _, _, z, _⟩ := h'; cases z
  | .str k, y, v, b, h, h', e => by
    cases h
    cases y with
    | non => cases h' <;> (rw [peq] at e; cases e; simp)
    | bl _ => cases h' <;> (rw [peq] at e; cases e; simp)
    | int _ => cases h' <;> (rw [peq] at e; cases e; simp)
    | str _ => cases h' <;> (rw [peq] at e; cases e; simp)
    | tup _ => obtain ⟨_, _, z, _⟩ := h'; cases z
    | lst _ => obtain ⟨_, _, z, _⟩ := h'; cases z
    | dic _ _ => obtain ⟨_, _, z, _⟩ := h'; cases z
    | dit _ _ => obtain ⟨_, _, z, _⟩ := h'; cases z
    | clo _ _ => obtain ⟨_, _, _, z, _⟩ := h'; cases z
    | obj _ _ => obtain ⟨_, _, _, z, _⟩ := h'; cases z
  | .obj k xs, y, v, b, h, h', e => by
    cases y <;> simp [peq] at e
  | .dic k xs, y, v, b, h, h', e => by
    cases y <;> simp [peq] at e
  | .dit k xs, y, v, b, h, h', e => by
    cases y <;> simp [peq] at e
  | .clo k xs, y, v, b, h, h', e => by
    cases y <;> simp [peq] at e
theorem reps_inj (I : Inv X pins σ H s) : ∀ {xs ys : List PV} {vs : List V} {b : Bool}, Reps X.K G H A0 xs vs → Reps X.K G H A0 ys vs → peqs xs ys = some b → b = true
  | [], [], vs, b, h, h', e => by rw [peqs] at e; cases e; rfl
  | [], y :: ys, vs, b, h, h', e => by
    obtain ⟨v, r, e2, _⟩ := h'
    have h : vs = [] := h
    rw [h] at e2; cases e2
  | x :: xs, [], vs, b, h, h', e => by
    obtain ⟨v, r, e2, _⟩ := h
    have h' : vs = [] := h'
    rw [h'] at e2; cases e2
  | x :: xs, y :: ys, vs, b, h, h', e => by
    obtain ⟨v, r, rfl, h1, h2⟩ := h
    obtain ⟨v', r', e2, h1', h2'⟩ := h'
    cases e2
    obtain ⟨a, c, e1, e2, rfl⟩ := peqs_cons e
    rw [rep_inj I h1 h1' e1, reps_inj I h2 h2' e2]; rfl
end
mutual
theorem eqp (I : Inv X pins σ H s) : ∀ {x y : PV} {v v' : V} {u u' : Value} {A : Around} {b : Bool}, A.units + x.depth < cLine → Rep X.K G H A0 x v → Rep X.K G H A0 y v' → RelV v u → RelV v' u' → peq x y = some b → SeqAt.EqAt A s u u' b
  | .tup xs, y, v, v', u, u', A, b, hu, h, h', r, r', e => by
    have hu0 : A.units < cLine := Nat.lt_of_le_of_lt (Nat.le_add_right _ _) hu
    have h0 := h
    obtain ⟨a, vs, rfl, sq, rs⟩ := h
    obtain rfl : u = Value.ref a := r
    obtain ⟨its, r1, p1, _⟩ := I.tuple sq
    cases y with
    | tup ys =>
      have h0' := h'
      obtain ⟨a', vs', rfl, sq', rs'⟩ := h'
      obtain rfl : u' = Value.ref a' := r'
      by_cases ea : a = a'
      · subst ea
        rw [rep_inj I h0 h0' e]
        exact SeqAt.EqAt.same _
      · obtain ⟨its', r2, p2, _⟩ := I.tuple sq'
        have hd : (PV.tup xs).depth = pdepths xs + 1 := by rw [PV.depth]
        rw [peq] at e
        refine SeqAt.EqAt.of_refs ea ?_
        have q := SeqAt.RcAt.tuples (A := A) (e := eAt xs ys) p1 p2 (by omega) fun j h1 h2 => by
          have h1' : j < its.length := by simpa using h1
          have h2' : j < its'.length := by simpa using h2
          have := eqps I (A := A.in1) (j := j) (by show A.units + 1 + pdepths xs < cLine; omega) rs rs' r1 r2 e (List.getElem?_eq_getElem h1') (List.getElem?_eq_getElem h2')
          simpa using this
        have e4 : its.toArray.size = xs.length := by rw [List.size_toArray, ← r1.length, rs.len]
        have e5 : its'.toArray.size = ys.length := by rw [List.size_toArray, ← r2.length, rs'.len]
        rw [e4, e5, peqs_all e] at q
        exact q
    | lst ys =>
      obtain ⟨a', vs', rfl, sq', rs'⟩ := h'
      obtain rfl : u' = Value.ref a' := r'
      obtain ⟨its', r2, p2, _⟩ := I.list sq'.sq
      rw [peq] at e; cases e
      exact SeqAt.EqAt.tuple_list p1 p2.isList hu0
    | non => cases h'; cases r'; rw [peq] at e; cases e; exact SeqAt.EqAt.tuple_none p1 hu0
    | bl k => cases h'; cases r'; rw [peq] at e; cases e; exact SeqAt.EqAt.tuple_bool k p1 hu0
    | int k => cases h'; obtain ⟨t, rfl⟩ := r'; rw [peq] at e; cases e; exact SeqAt.EqAt.tuple_int k t p1 hu0
    | str k => cases h'; obtain ⟨t, rfl⟩ := r'; rw [peq] at e; cases e; exact SeqAt.EqAt.tuple_str k t p1 hu0
    | _ => simp [peq] at e
  | .lst xs, y, v, v', u, u', A, b, hu, h, h', r, r', e => by
    have hu0 : A.units < cLine := Nat.lt_of_le_of_lt (Nat.le_add_right _ _) hu
    have h0 := h
    obtain ⟨a, vs, rfl, sq, rs⟩ := h
    obtain rfl : u = Value.ref a := r
    obtain ⟨its, r1, p1, _⟩ := I.list sq.sq
    cases y with
    | lst ys =>
      have h0' := h'
      obtain ⟨a', vs', rfl, sq', rs'⟩ := h'
      obtain rfl : u' = Value.ref a' := r'
      by_cases ea : a = a'
      · subst ea
        rw [rep_inj I h0 h0' e]
        exact SeqAt.EqAt.same _
      · obtain ⟨its', r2, p2, _⟩ := I.list sq'.sq
        have hd : (PV.lst xs).depth = pdepths xs + 1 := by rw [PV.depth]
        have e4 : its.toArray.size = xs.length := by rw [List.size_toArray, ← r1.length, rs.len]
        have e5 : its'.toArray.size = ys.length := by rw [List.size_toArray, ← r2.length, rs'.len]
        refine SeqAt.EqAt.of_refs ea ?_
        rw [peq] at e
        by_cases hl : xs.length = ys.length
        · rw [if_pos hl] at e
          have q := SeqAt.RcAt.lists (A := A) (e := eAt xs ys) p1.isList p2.isList (by rw [e4, e5, hl]) (by omega) fun j h1 h2 => by
            have h1' : j < its.length := by simpa using h1
            have h2' : j < its'.length := by simpa using h2
            have := eqps I (A := A.in1) (j := j) (by show A.units + 1 + pdepths xs < cLine; omega) rs rs' r1 r2 e (List.getElem?_eq_getElem h1') (List.getElem?_eq_getElem h2')
            simpa using this
          have q2 := peqs_all e
          rw [hl, Nat.min_self, beq_self_eq_true, Bool.and_true] at q2
          rw [e4, hl, q2] at q
          exact q
        · rw [if_neg hl] at e
          cases e
          exact SeqAt.RcAt.lists_lengths p1.isList p2.isList (by rw [e4, e5]; simpa using hl) hu0
    | tup ys =>
      obtain ⟨a', vs', rfl, sq', rs'⟩ := h'
      obtain rfl : u' = Value.ref a' := r'
      obtain ⟨its', r2, p2, _⟩ := I.tuple sq'
      rw [peq] at e; cases e
      exact SeqAt.EqAt.list_tuple p1.isList p2 hu0
    | non => cases h'; cases r'; rw [peq] at e; cases e; exact SeqAt.EqAt.list_none p1.isList hu0
    | bl k => cases h'; cases r'; rw [peq] at e; cases e; exact SeqAt.EqAt.list_bool k p1.isList hu0
    | int k => cases h'; obtain ⟨t, rfl⟩ := r'; rw [peq] at e; cases e; exact SeqAt.EqAt.list_int k t p1.isList hu0
    | str k => cases h'; obtain ⟨t, rfl⟩ := r'; rw [peq] at e; cases e; exact SeqAt.EqAt.list_str k t p1.isList hu0
    | _ => simp [peq] at e
  | .non, y, v, v', u, u', A, b, hu, h, h', r, r', e => by
    have hu0 : A.units < cLine := Nat.lt_of_le_of_lt (Nat.le_add_right _ _) hu
    cases h
    cases r
    cases y with
    | non => cases h'; cases r'; rw [peq] at e; cases e; exact SeqAt.EqAt.same _
    | bl k => cases h'; cases r'; rw [peq] at e; cases e; exact SeqAt.EqAt.none_bool k
    | int k => cases h'; obtain ⟨t, rfl⟩ := r'; rw [peq] at e; cases e; exact SeqAt.EqAt.none_int k t
    | str k => cases h'; obtain ⟨t, rfl⟩ := r'; rw [peq] at e; cases e; exact SeqAt.EqAt.none_str k t
    | tup ys =>
      obtain ⟨a', vs', rfl, sq', rs'⟩ := h'
      obtain rfl : u' = Value.ref a' := r'
      obtain ⟨its', r2, p2, _⟩ := I.tuple sq'
      rw [peq] at e; cases e
      exact SeqAt.EqAt.none_tuple p2 hu0
    | lst ys =>
      obtain ⟨a', vs', rfl, sq', rs'⟩ := h'
      obtain rfl : u' = Value.ref a' := r'
      obtain ⟨its', r2, p2, _⟩ := I.list sq'.sq
      rw [peq] at e; cases e
      exact SeqAt.EqAt.none_list p2.isList hu0
    | _ => simp [peq] at e
  | .bl k0, y, v, v', u, u', A, b, hu, h, h', r, r', e => by
    have hu0 : A.units < cLine := Nat.lt_of_le_of_lt (Nat.le_add_right _ _) hu
    cases h
    cases r
    cases y with
    | non => cases h'; cases r'; rw [peq] at e; cases e; exact SeqAt.EqAt.bool_none k0
    | bl k => cases h'; cases r'; rw [peq] at e; cases e; exact SeqAt.EqAt.bool_bool k0 k
    | int k => cases h'; obtain ⟨t, rfl⟩ := r'; rw [peq] at e; cases e; exact SeqAt.EqAt.bool_int k0 k t
    | str k => cases h'; obtain ⟨t, rfl⟩ := r'; rw [peq] at e; cases e; exact SeqAt.EqAt.bool_str k0 k t
    | tup ys =>
      obtain ⟨a', vs', rfl, sq', rs'⟩ := h'
      obtain rfl : u' = Value.ref a' := r'
      obtain ⟨its', r2, p2, _⟩ := I.tuple sq'
      rw [peq] at e; cases e
      exact SeqAt.EqAt.bool_tuple k0 p2 hu0
    | lst ys =>
      obtain ⟨a', vs', rfl, sq', rs'⟩ := h'
      obtain rfl : u' = Value.ref a' := r'
      obtain ⟨its', r2, p2, _⟩ := I.list sq'.sq
      rw [peq] at e; cases e
      exact SeqAt.EqAt.bool_list k0 p2.isList hu0
    | _ => simp [peq] at e
  | .int k0, y, v, v', u, u', A, b, hu, h, h', r, r', e => by
    have hu0 : A.units < cLine := Nat.lt_of_le_of_lt (Nat.le_add_right _ _) hu
    cases h
    obtain ⟨t0, rfl⟩ := r
    cases y with
    | non => cases h'; cases r'; rw [peq] at e; cases e; exact SeqAt.EqAt.int_none k0 t0
    | bl k => cases h'; cases r'; rw [peq] at e; cases e; exact SeqAt.EqAt.int_bool k0 t0 k
    | int k => cases h'; obtain ⟨t, rfl⟩ := r'; rw [peq] at e; cases e; exact SeqAt.EqAt.int_int k0 t0 k t
    | str k => cases h'; obtain ⟨t, rfl⟩ := r'; rw [peq] at e; cases e; exact SeqAt.EqAt.int_str k0 t0 k t
    | tup ys =>
      obtain ⟨a', vs', rfl, sq', rs'⟩ := h'
      obtain rfl : u' = Value.ref a' := r'
      obtain ⟨its', r2, p2, _⟩ := I.tuple sq'
      rw [peq] at e; cases e
      exact SeqAt.EqAt.int_tuple k0 t0 p2 hu0
    | lst ys =>
      obtain ⟨a', vs', rfl, sq', rs'⟩ := h'
      obtain rfl : u' = Value.ref a' := r'
      obtain ⟨its', r2, p2, _⟩ := I.list sq'.sq
      rw [peq] at e; cases e
      exact SeqAt.EqAt.int_list k0 t0 p2.isList hu0
    | _ => simp [peq] at e
  | .str k0, y, v, v', u, u', A, b, hu, h, h', r, r', e => by
    have hu0 : A.units < cLine := Nat.lt_of_le_of_lt (Nat.le_add_right _ _) hu
    cases h
    obtain ⟨t0, rfl⟩ := r
    cases y with
    | non => cases h'; cases r'; rw [peq] at e; cases e; exact SeqAt.EqAt.str_none k0 t0
    | bl k => cases h'; cases r'; rw [peq] at e; cases e; exact SeqAt.EqAt.str_bool k0 t0 k
    | int k => cases h'; obtain ⟨t, rfl⟩ := r'; rw [peq] at e; cases e; exact SeqAt.EqAt.str_int k0 t0 k t
    | str k => cases h'; obtain ⟨t, rfl⟩ := r'; rw [peq] at e; cases e; exact SeqAt.EqAt.str_str k0 t0 k t
    | tup ys =>
      obtain ⟨a', vs', rfl, sq', rs'⟩ := h'
      obtain rfl : u' = Value.ref a' := r'
      obtain ⟨its', r2, p2, _⟩ := I.tuple sq'
      rw [peq] at e; cases e
      exact SeqAt.EqAt.str_tuple k0 t0 p2 hu0
    | lst ys =>
      obtain ⟨a', vs', rfl, sq', rs'⟩ := h'
      obtain rfl : u' = Value.ref a' := r'
      obtain ⟨its', r2, p2, _⟩ := I.list sq'.sq
      rw [peq] at e; cases e
      exact SeqAt.EqAt.str_list k0 t0 p2.isList hu0
    | _ => simp [peq] at e
  | .obj k xs, y, v, v', u, u', A, b, hu, h, h', r, r', e => by
    cases y <;> simp [peq] at e
  | .dic k xs, y, v, v', u, u', A, b, hu, h, h', r, r', e => by
    cases y <;> simp [peq] at e
  | .dit k xs, y, v, v', u, u', A, b, hu, h, h', r, r', e => by
    cases y <;> simp [peq] at e
  | .clo k xs, y, v, v', u, u', A, b, hu, h, h', r, r', e => by
    cases y <;> simp [peq] at e
theorem eqps (I : Inv X pins σ H s) : ∀ {xs ys : List PV} {vs vs' : List V} {us us' : List Value} {A : Around} {j : Nat} {u u' : Value} {b : Bool}, A.units + pdepths xs < cLine → Reps X.K G H A0 xs vs → Reps X.K G H A0 ys vs' → Vals vs us → Vals vs' us' → peqs xs ys = some b →
    us[j]? = some u → us'[j]? = some u' → SeqAt.EqAt A s u u' (eAt xs ys j)
  | [], ys, vs, vs', us, us', A, j, u, u', b, hu, h, h', r, r', e, q, q' => by
    have h : vs = [] := h
    subst h; cases r
    simp at q
  | x :: xs, [], vs, vs', us, us', A, j, u, u', b, hu, h, h', r, r', e, q, q' => by
    have h' : vs' = [] := h'
    subst h'; cases r'
    simp at q'
  | x :: xs, y :: ys, vs, vs', us, us', A, j, u, u', b, hu, h, h', r, r', e, q, q' => by
    obtain ⟨v, t, rfl, h1, h2⟩ := h
    obtain ⟨v', t', rfl, h1', h2'⟩ := h'
    obtain ⟨a, c, e1, e2, rfl⟩ := peqs_cons e
    have hd : pdepths (x :: xs) = max x.depth (pdepths xs) := by rw [pdepths]
    cases r with
    | cons rx rt =>
      cases r' with
      | cons rx' rt' =>
        cases j with
        | zero =>
          simp at q q'
          subst q; subst q'
          have : eAt (x :: xs) (y :: ys) 0 = a := by show (peq x y).getD false = a; rw [e1]; rfl
          rw [this]
          exact eqp I (by omega) h1 h1' rx rx' e1
        | succ j => exact eqps I (j := j) (by omega) h2 h2' rt rt' e2 (by simpa using q) (by simpa using q')
end
theorem rcp (I : Inv X pins σ H s) : ∀ {x y : PV} {v v' : V} {u u' : Value} {A : Around} {b : Bool}, A.units + x.depth < cLine → RepB X.K G H A0 x v → RepB X.K G H A0 y v' → RelV v u → RelV v' u' → peq x y = some b → SeqAt.RcAt A s u u' b := by
  intro x y v v' u u' A b hu h h' r r' e
  have hu0 : A.units < cLine := Nat.lt_of_le_of_lt (Nat.le_add_right _ _) hu
  cases x with
  | tup xs =>
    obtain ⟨a, vs, rfl, sq, rs⟩ := h.tup
    obtain rfl : u = Value.ref a := r
    obtain ⟨its, r1, p1, _⟩ := I.tuple sq
    cases y with
    | tup ys =>
      obtain ⟨a', vs', rfl, sq', rs'⟩ := h'.tup
      obtain rfl : u' = Value.ref a' := r'
      obtain ⟨its', r2, p2, _⟩ := I.tuple sq'
      rw [peq] at e
      have hd : (PV.tup xs).depth = pdepths xs + 1 := by rw [PV.depth]
      have e4 : its.toArray.size = xs.length := by rw [List.size_toArray, ← r1.length, rs.len]
      have e5 : its'.toArray.size = ys.length := by rw [List.size_toArray, ← r2.length, rs'.len]
      have q := SeqAt.RcAt.tuples (A := A) (s := s) (e := eAt xs ys) p1 p2 (by omega) fun j h1 h2 => by
          have h1' : j < its.length := by simpa using h1
          have h2' : j < its'.length := by simpa using h2
          have := eqps I (A := A.in1) (j := j) (by show A.units + 1 + pdepths xs < cLine; omega) rs rs' r1 r2 e (List.getElem?_eq_getElem h1') (List.getElem?_eq_getElem h2')
          simpa using this
      rw [e4, e5, peqs_all e] at q
      exact q
    | lst ys =>
      obtain ⟨a', vs', rfl, sq', rs'⟩ := h'.lst
      obtain rfl : u' = Value.ref a' := r'
      obtain ⟨its', r2, p2, _⟩ := I.list sq'
      rw [peq] at e
      cases e
      exact SeqAt.RcAt.tuple_list p1 p2.isList hu0
    | non => rw [h'.non] at r'; cases r'; rw [peq] at e; cases e; exact SeqAt.RcAt.tuple_none p1 hu0
    | bl k => rw [h'.bl] at r'; cases r'; rw [peq] at e; cases e; exact SeqAt.RcAt.tuple_bool k p1 hu0
    | int k => rw [h'.int] at r'; obtain ⟨t, rfl⟩ := r'; rw [peq] at e; cases e; exact SeqAt.RcAt.tuple_int k t p1 hu0
    | str k => rw [h'.str] at r'; obtain ⟨t, rfl⟩ := r'; rw [peq] at e; cases e; exact SeqAt.RcAt.tuple_str k t p1 hu0
    | _ => simp [peq] at e
  | lst xs =>
    obtain ⟨a, vs, rfl, sq, rs⟩ := h.lst
    obtain rfl : u = Value.ref a := r
    obtain ⟨its, r1, p1, _⟩ := I.list sq
    cases y with
    | tup ys =>
      obtain ⟨a', vs', rfl, sq', rs'⟩ := h'.tup
      obtain rfl : u' = Value.ref a' := r'
      obtain ⟨its', r2, p2, _⟩ := I.tuple sq'
      rw [peq] at e
      cases e
      exact SeqAt.RcAt.list_tuple p1.isList p2 hu0
    | lst ys =>
      obtain ⟨a', vs', rfl, sq', rs'⟩ := h'.lst
      obtain rfl : u' = Value.ref a' := r'
      obtain ⟨its', r2, p2, _⟩ := I.list sq'
      rw [peq] at e
      have hd : (PV.lst xs).depth = pdepths xs + 1 := by rw [PV.depth]
      have e4 : its.toArray.size = xs.length := by rw [List.size_toArray, ← r1.length, rs.len]
      have e5 : its'.toArray.size = ys.length := by rw [List.size_toArray, ← r2.length, rs'.len]
      by_cases hl : xs.length = ys.length
      · rw [if_pos hl] at e
        have q := SeqAt.RcAt.lists (A := A) (s := s) (e := eAt xs ys) p1.isList p2.isList (by rw [e4, e5, hl]) (by omega) fun j h1 h2 => by
            have h1' : j < its.length := by simpa using h1
            have h2' : j < its'.length := by simpa using h2
            have := eqps I (A := A.in1) (j := j) (by show A.units + 1 + pdepths xs < cLine; omega) rs rs' r1 r2 e (List.getElem?_eq_getElem h1') (List.getElem?_eq_getElem h2')
            simpa using this
        have q2 := peqs_all e
        rw [hl, Nat.min_self, beq_self_eq_true, Bool.and_true] at q2
        rw [e4, hl, q2] at q
        exact q
      · rw [if_neg hl] at e
        cases e
        exact SeqAt.RcAt.lists_lengths p1.isList p2.isList (by rw [e4, e5]; simpa using hl) hu0
    | non => rw [h'.non] at r'; cases r'; rw [peq] at e; cases e; exact SeqAt.RcAt.list_none p1.isList hu0
    | bl k => rw [h'.bl] at r'; cases r'; rw [peq] at e; cases e; exact SeqAt.RcAt.list_bool k p1.isList hu0
    | int k => rw [h'.int] at r'; obtain ⟨t, rfl⟩ := r'; rw [peq] at e; cases e; exact SeqAt.RcAt.list_int k t p1.isList hu0
    | str k => rw [h'.str] at r'; obtain ⟨t, rfl⟩ := r'; rw [peq] at e; cases e; exact SeqAt.RcAt.list_str k t p1.isList hu0
    | _ => simp [peq] at e
  | non =>
    rw [h.non] at r
    cases r
    cases y with
    | non => rw [h'.non] at r'; cases r'; rw [peq] at e; cases e; exact SeqAt.RcAt.none_none
    | bl k => rw [h'.bl] at r'; cases r'; rw [peq] at e; cases e; exact SeqAt.RcAt.none_bool k
    | int k => rw [h'.int] at r'; obtain ⟨t, rfl⟩ := r'; rw [peq] at e; cases e; exact SeqAt.RcAt.none_int k t
    | str k => rw [h'.str] at r'; obtain ⟨t, rfl⟩ := r'; rw [peq] at e; cases e; exact SeqAt.RcAt.none_str k t
    | tup ys =>
      obtain ⟨a', vs', rfl, sq', rs'⟩ := h'.tup
      obtain rfl : u' = Value.ref a' := r'
      obtain ⟨its', r2, p2, _⟩ := I.tuple sq'
      rw [peq] at e; cases e
      exact SeqAt.RcAt.none_tuple p2 hu0
    | lst ys =>
      obtain ⟨a', vs', rfl, sq', rs'⟩ := h'.lst
      obtain rfl : u' = Value.ref a' := r'
      obtain ⟨its', r2, p2, _⟩ := I.list sq'
      rw [peq] at e; cases e
      exact SeqAt.RcAt.none_list p2.isList hu0
    | _ => simp [peq] at e
  | bl k0 =>
    rw [h.bl] at r
    cases r
    cases y with
    | non => rw [h'.non] at r'; cases r'; rw [peq] at e; cases e; exact SeqAt.RcAt.bool_none k0
    | bl k => rw [h'.bl] at r'; cases r'; rw [peq] at e; cases e; exact SeqAt.RcAt.bool_bool k0 k
    | int k => rw [h'.int] at r'; obtain ⟨t, rfl⟩ := r'; rw [peq] at e; cases e; exact SeqAt.RcAt.bool_int k0 k t
    | str k => rw [h'.str] at r'; obtain ⟨t, rfl⟩ := r'; rw [peq] at e; cases e; exact SeqAt.RcAt.bool_str k0 k t
    | tup ys =>
      obtain ⟨a', vs', rfl, sq', rs'⟩ := h'.tup
      obtain rfl : u' = Value.ref a' := r'
      obtain ⟨its', r2, p2, _⟩ := I.tuple sq'
      rw [peq] at e; cases e
      exact SeqAt.RcAt.bool_tuple k0 p2 hu0
    | lst ys =>
      obtain ⟨a', vs', rfl, sq', rs'⟩ := h'.lst
      obtain rfl : u' = Value.ref a' := r'
      obtain ⟨its', r2, p2, _⟩ := I.list sq'
      rw [peq] at e; cases e
      exact SeqAt.RcAt.bool_list k0 p2.isList hu0
    | _ => simp [peq] at e
  | int k0 =>
    rw [h.int] at r
    obtain ⟨t0, rfl⟩ := r
    cases y with
    | non => rw [h'.non] at r'; cases r'; rw [peq] at e; cases e; exact SeqAt.RcAt.int_none k0 t0
    | bl k => rw [h'.bl] at r'; cases r'; rw [peq] at e; cases e; exact SeqAt.RcAt.int_bool k0 t0 k
    | int k => rw [h'.int] at r'; obtain ⟨t, rfl⟩ := r'; rw [peq] at e; cases e; exact SeqAt.RcAt.int_int k0 t0 k t
    | str k => rw [h'.str] at r'; obtain ⟨t, rfl⟩ := r'; rw [peq] at e; cases e; exact SeqAt.RcAt.int_str k0 t0 k t
    | tup ys =>
      obtain ⟨a', vs', rfl, sq', rs'⟩ := h'.tup
      obtain rfl : u' = Value.ref a' := r'
      obtain ⟨its', r2, p2, _⟩ := I.tuple sq'
      rw [peq] at e; cases e
      exact SeqAt.RcAt.int_tuple k0 t0 p2 hu0
    | lst ys =>
      obtain ⟨a', vs', rfl, sq', rs'⟩ := h'.lst
      obtain rfl : u' = Value.ref a' := r'
      obtain ⟨its', r2, p2, _⟩ := I.list sq'
      rw [peq] at e; cases e
      exact SeqAt.RcAt.int_list k0 t0 p2.isList hu0
    | _ => simp [peq] at e
  | str k0 =>
    rw [h.str] at r
    obtain ⟨t0, rfl⟩ := r
    cases y with
    | non => rw [h'.non] at r'; cases r'; rw [peq] at e; cases e; exact SeqAt.RcAt.str_none k0 t0
    | bl k => rw [h'.bl] at r'; cases r'; rw [peq] at e; cases e; exact SeqAt.RcAt.str_bool k0 t0 k
    | int k => rw [h'.int] at r'; obtain ⟨t, rfl⟩ := r'; rw [peq] at e; cases e; exact SeqAt.RcAt.str_int k0 t0 k t
    | str k => rw [h'.str] at r'; obtain ⟨t, rfl⟩ := r'; rw [peq] at e; cases e; exact SeqAt.RcAt.str_str k0 t0 k t
    | tup ys =>
      obtain ⟨a', vs', rfl, sq', rs'⟩ := h'.tup
      obtain rfl : u' = Value.ref a' := r'
      obtain ⟨its', r2, p2, _⟩ := I.tuple sq'
      rw [peq] at e; cases e
      exact SeqAt.RcAt.str_tuple k0 t0 p2 hu0
    | lst ys =>
      obtain ⟨a', vs', rfl, sq', rs'⟩ := h'.lst
      obtain rfl : u' = Value.ref a' := r'
      obtain ⟨its', r2, p2, _⟩ := I.list sq'
      rw [peq] at e; cases e
      exact SeqAt.RcAt.str_list k0 t0 p2.isList hu0
    | _ => simp [peq] at e
  | obj _ _ => cases y <;> simp [peq] at e
  | dic _ _ => cases y <;> simp [peq] at e
  | dit _ _ => cases y <;> simp [peq] at e
  | clo _ _ => cases y <;> simp [peq] at e
theorem rnp (I : Inv X pins σ H s) : ∀ {x y : PV} {v v' : V} {u u' : Value} {A : Around} {b : Bool}, A.units + x.depth < cLine → RepB X.K G H A0 x v → RepB X.K G H A0 y v' → RelV v u → RelV v' u' → peq x y = some b → SeqAt.RcNeAt A s u u' (!b) := by
  intro x y v v' u u' A b hu h h' r r' e
  have hu0 : A.units < cLine := Nat.lt_of_le_of_lt (Nat.le_add_right _ _) hu
  cases x with
  | tup xs =>
    obtain ⟨a, vs, rfl, sq, rs⟩ := h.tup
    obtain rfl : u = Value.ref a := r
    obtain ⟨its, r1, p1, _⟩ := I.tuple sq
    cases y with
    | tup ys =>
      obtain ⟨a', vs', rfl, sq', rs'⟩ := h'.tup
      obtain rfl : u' = Value.ref a' := r'
      obtain ⟨its', r2, p2, _⟩ := I.tuple sq'
      rw [peq] at e
      have hd : (PV.tup xs).depth = pdepths xs + 1 := by rw [PV.depth]
      have e4 : its.toArray.size = xs.length := by rw [List.size_toArray, ← r1.length, rs.len]
      have e5 : its'.toArray.size = ys.length := by rw [List.size_toArray, ← r2.length, rs'.len]
      have q := SeqAt.RcNeAt.tuples (A := A) (s := s) (e := eAt xs ys) p1 p2 (by omega) fun j h1 h2 => by
          have h1' : j < its.length := by simpa using h1
          have h2' : j < its'.length := by simpa using h2
          have := eqps I (A := A.in1) (j := j) (by show A.units + 1 + pdepths xs < cLine; omega) rs rs' r1 r2 e (List.getElem?_eq_getElem h1') (List.getElem?_eq_getElem h2')
          simpa using this
      rw [e4, e5, peqs_all e] at q
      exact q
    | lst ys =>
      obtain ⟨a', vs', rfl, sq', rs'⟩ := h'.lst
      obtain rfl : u' = Value.ref a' := r'
      obtain ⟨its', r2, p2, _⟩ := I.list sq'
      rw [peq] at e
      cases e
      exact SeqAt.RcNeAt.tuple_list p1 p2.isList hu0
    | non => rw [h'.non] at r'; cases r'; rw [peq] at e; cases e; exact SeqAt.RcNeAt.tuple_none p1 hu0
    | bl k => rw [h'.bl] at r'; cases r'; rw [peq] at e; cases e; exact SeqAt.RcNeAt.tuple_bool k p1 hu0
    | int k => rw [h'.int] at r'; obtain ⟨t, rfl⟩ := r'; rw [peq] at e; cases e; exact SeqAt.RcNeAt.tuple_int k t p1 hu0
    | str k => rw [h'.str] at r'; obtain ⟨t, rfl⟩ := r'; rw [peq] at e; cases e; exact SeqAt.RcNeAt.tuple_str k t p1 hu0
    | _ => simp [peq] at e
  | lst xs =>
    obtain ⟨a, vs, rfl, sq, rs⟩ := h.lst
    obtain rfl : u = Value.ref a := r
    obtain ⟨its, r1, p1, _⟩ := I.list sq
    cases y with
    | tup ys =>
      obtain ⟨a', vs', rfl, sq', rs'⟩ := h'.tup
      obtain rfl : u' = Value.ref a' := r'
      obtain ⟨its', r2, p2, _⟩ := I.tuple sq'
      rw [peq] at e
      cases e
      exact SeqAt.RcNeAt.list_tuple p1.isList p2 hu0
    | lst ys =>
      obtain ⟨a', vs', rfl, sq', rs'⟩ := h'.lst
      obtain rfl : u' = Value.ref a' := r'
      obtain ⟨its', r2, p2, _⟩ := I.list sq'
      rw [peq] at e
      have hd : (PV.lst xs).depth = pdepths xs + 1 := by rw [PV.depth]
      have e4 : its.toArray.size = xs.length := by rw [List.size_toArray, ← r1.length, rs.len]
      have e5 : its'.toArray.size = ys.length := by rw [List.size_toArray, ← r2.length, rs'.len]
      by_cases hl : xs.length = ys.length
      · rw [if_pos hl] at e
        have q := SeqAt.RcNeAt.lists (A := A) (s := s) (e := eAt xs ys) p1.isList p2.isList (by rw [e4, e5, hl]) (by omega) fun j h1 h2 => by
            have h1' : j < its.length := by simpa using h1
            have h2' : j < its'.length := by simpa using h2
            have := eqps I (A := A.in1) (j := j) (by show A.units + 1 + pdepths xs < cLine; omega) rs rs' r1 r2 e (List.getElem?_eq_getElem h1') (List.getElem?_eq_getElem h2')
            simpa using this
        have q2 := peqs_all e
        rw [hl, Nat.min_self, beq_self_eq_true, Bool.and_true] at q2
        rw [e4, hl, q2] at q
        exact q
      · rw [if_neg hl] at e
        cases e
        exact SeqAt.RcNeAt.lists_lengths p1.isList p2.isList (by rw [e4, e5]; simpa using hl) hu0
    | non => rw [h'.non] at r'; cases r'; rw [peq] at e; cases e; exact SeqAt.RcNeAt.list_none p1.isList hu0
    | bl k => rw [h'.bl] at r'; cases r'; rw [peq] at e; cases e; exact SeqAt.RcNeAt.list_bool k p1.isList hu0
    | int k => rw [h'.int] at r'; obtain ⟨t, rfl⟩ := r'; rw [peq] at e; cases e; exact SeqAt.RcNeAt.list_int k t p1.isList hu0
    | str k => rw [h'.str] at r'; obtain ⟨t, rfl⟩ := r'; rw [peq] at e; cases e; exact SeqAt.RcNeAt.list_str k t p1.isList hu0
    | _ => simp [peq] at e
  | non =>
    rw [h.non] at r
    cases r
    cases y with
    | non => rw [h'.non] at r'; cases r'; rw [peq] at e; cases e; exact SeqAt.RcNeAt.none_none
    | bl k => rw [h'.bl] at r'; cases r'; rw [peq] at e; cases e; exact SeqAt.RcNeAt.none_bool k
    | int k => rw [h'.int] at r'; obtain ⟨t, rfl⟩ := r'; rw [peq] at e; cases e; exact SeqAt.RcNeAt.none_int k t
    | str k => rw [h'.str] at r'; obtain ⟨t, rfl⟩ := r'; rw [peq] at e; cases e; exact SeqAt.RcNeAt.none_str k t
    | tup ys =>
      obtain ⟨a', vs', rfl, sq', rs'⟩ := h'.tup
      obtain rfl : u' = Value.ref a' := r'
      obtain ⟨its', r2, p2, _⟩ := I.tuple sq'
      rw [peq] at e; cases e
      exact SeqAt.RcNeAt.none_tuple p2 hu0
    | lst ys =>
      obtain ⟨a', vs', rfl, sq', rs'⟩ := h'.lst
      obtain rfl : u' = Value.ref a' := r'
      obtain ⟨its', r2, p2, _⟩ := I.list sq'
      rw [peq] at e; cases e
      exact SeqAt.RcNeAt.none_list p2.isList hu0
    | _ => simp [peq] at e
  | bl k0 =>
    rw [h.bl] at r
    cases r
    cases y with
    | non => rw [h'.non] at r'; cases r'; rw [peq] at e; cases e; exact SeqAt.RcNeAt.bool_none k0
    | bl k => rw [h'.bl] at r'; cases r'; rw [peq] at e; cases e; exact SeqAt.RcNeAt.bool_bool k0 k
    | int k => rw [h'.int] at r'; obtain ⟨t, rfl⟩ := r'; rw [peq] at e; cases e; exact SeqAt.RcNeAt.bool_int k0 k t
    | str k => rw [h'.str] at r'; obtain ⟨t, rfl⟩ := r'; rw [peq] at e; cases e; exact SeqAt.RcNeAt.bool_str k0 k t
    | tup ys =>
      obtain ⟨a', vs', rfl, sq', rs'⟩ := h'.tup
      obtain rfl : u' = Value.ref a' := r'
      obtain ⟨its', r2, p2, _⟩ := I.tuple sq'
      rw [peq] at e; cases e
      exact SeqAt.RcNeAt.bool_tuple k0 p2 hu0
    | lst ys =>
      obtain ⟨a', vs', rfl, sq', rs'⟩ := h'.lst
      obtain rfl : u' = Value.ref a' := r'
      obtain ⟨its', r2, p2, _⟩ := I.list sq'
      rw [peq] at e; cases e
      exact SeqAt.RcNeAt.bool_list k0 p2.isList hu0
    | _ => simp [peq] at e
  | int k0 =>
    rw [h.int] at r
    obtain ⟨t0, rfl⟩ := r
    cases y with
    | non => rw [h'.non] at r'; cases r'; rw [peq] at e; cases e; exact SeqAt.RcNeAt.int_none k0 t0
    | bl k => rw [h'.bl] at r'; cases r'; rw [peq] at e; cases e; exact SeqAt.RcNeAt.int_bool k0 t0 k
    | int k => rw [h'.int] at r'; obtain ⟨t, rfl⟩ := r'; rw [peq] at e; cases e; exact SeqAt.RcNeAt.int_int k0 t0 k t
    | str k => rw [h'.str] at r'; obtain ⟨t, rfl⟩ := r'; rw [peq] at e; cases e; exact SeqAt.RcNeAt.int_str k0 t0 k t
    | tup ys =>
      obtain ⟨a', vs', rfl, sq', rs'⟩ := h'.tup
      obtain rfl : u' = Value.ref a' := r'
      obtain ⟨its', r2, p2, _⟩ := I.tuple sq'
      rw [peq] at e; cases e
      exact SeqAt.RcNeAt.int_tuple k0 t0 p2 hu0
    | lst ys =>
      obtain ⟨a', vs', rfl, sq', rs'⟩ := h'.lst
      obtain rfl : u' = Value.ref a' := r'
      obtain ⟨its', r2, p2, _⟩ := I.list sq'
      rw [peq] at e; cases e
      exact SeqAt.RcNeAt.int_list k0 t0 p2.isList hu0
    | _ => simp [peq] at e
  | str k0 =>
    rw [h.str] at r
    obtain ⟨t0, rfl⟩ := r
    cases y with
    | non => rw [h'.non] at r'; cases r'; rw [peq] at e; cases e; exact SeqAt.RcNeAt.str_none k0 t0
    | bl k => rw [h'.bl] at r'; cases r'; rw [peq] at e; cases e; exact SeqAt.RcNeAt.str_bool k0 t0 k
    | int k => rw [h'.int] at r'; obtain ⟨t, rfl⟩ := r'; rw [peq] at e; cases e; exact SeqAt.RcNeAt.str_int k0 t0 k t
    | str k => rw [h'.str] at r'; obtain ⟨t, rfl⟩ := r'; rw [peq] at e; cases e; exact SeqAt.RcNeAt.str_str k0 t0 k t
    | tup ys =>
      obtain ⟨a', vs', rfl, sq', rs'⟩ := h'.tup
      obtain rfl : u' = Value.ref a' := r'
      obtain ⟨its', r2, p2, _⟩ := I.tuple sq'
      rw [peq] at e; cases e
      exact SeqAt.RcNeAt.str_tuple k0 t0 p2 hu0
    | lst ys =>
      obtain ⟨a', vs', rfl, sq', rs'⟩ := h'.lst
      obtain rfl : u' = Value.ref a' := r'
      obtain ⟨its', r2, p2, _⟩ := I.list sq'
      rw [peq] at e; cases e
      exact SeqAt.RcNeAt.str_list k0 t0 p2.isList hu0
    | _ => simp [peq] at e
  | obj _ _ => cases y <;> simp [peq] at e
  | dic _ _ => cases y <;> simp [peq] at e
  | dit _ _ => cases y <;> simp [peq] at e
  | clo _ _ => cases y <;> simp [peq] at e
/-! ### == and != -/
def fEq (x y : PV) : Rx PV := if x.depth < 100 then (match peq x y with | some b => .ok (.bl b) | none => .bad) else .bad
def fNe (x y : PV) : Rx PV := if x.depth < 100 then (match peq x y with | some b => .ok (.bl (!b)) | none => .bad) else .bad
def rEqP (K : PySem.W.Frag) (G : Pg) (neg : Bool) : R2 := fun v u H Q => ∃ A x y b, x.depth < 100 ∧ RepB K G H A x v ∧ RepB K G H A y u ∧ peq x y = some b ∧ Q (.bl (if neg then !b else b)) H
theorem op_eqP (hu : X.A.units + 100 < cLine) : OpR X (compareOp .Eq) (rEqP X.K G false) := by
  intro pins s σ H v u v' u' Q I rx ry h
  obtain ⟨A, x, y, b, hd, h1, h2, e, q⟩ := h
  exact rcp I (by omega) h1 h2 rx ry e X.prog X.w _ _ ⟨.bl b, H, I, rfl, q⟩
theorem op_neP (hu : X.A.units + 100 < cLine) : OpR X (compareOp .NotEq) (rEqP X.K G true) := by
  intro pins s σ H v u v' u' Q I rx ry h
  obtain ⟨A, x, y, b, hd, h1, h2, e, q⟩ := h
  exact rnp I (by omega) h1 h2 rx ry e X.prog X.w _ _ ⟨.bl (!b), H, I, rfl, q⟩
theorem o2_eq {K : PySem.W.Frag} : Op2 K G fEq (rEqP K G false) := by
  intro H A x y w v u Q hu e r1 r2 q
  unfold fEq at e
  split at e
  · rename_i hd
    split at e
    · rename_i b hb; cases e; exact ⟨A, x, y, b, hd, r1, r2, hb, q _ H (Same.refl H) rfl⟩
    · cases e
  · cases e
theorem o2_ne {K : PySem.W.Frag} : Op2 K G fNe (rEqP K G true) := by
  intro H A x y w v u Q hu e r1 r2 q
  unfold fNe at e
  split at e
  · rename_i hd
    split at e
    · rename_i b hb; cases e; exact ⟨A, x, y, b, hd, r1, r2, hb, q _ H (Same.refl H) rfl⟩
    · cases e
  · cases e
section
variable {e a b : Expr} {da db : DP} {pos : Pos}
theorem hu100 {A : Around} {k : Nat} (hr : Room k A) : A.units + 100 < cLine := by have := hr.un; omega
theorem p_eq {k : Nat} (hr : Room k X.A) (ha : JB X G a da) (hb : JB X G b db) : JP X G (.Compare a [.Eq] [b] pos) (d2 fEq da db) := p_cmp (op_eqP (hu100 hr)) o2_eq ha hb (nomark _)
theorem t_eq {k : Nat} (hr : Room k X.A) (ha : JB X G a da) (hb : JB X G b db) : JT X G (.Compare a [.Eq] [b] pos) (dTr (d2 fEq da db)) := t_cmp (op_eqP (hu100 hr)) o2_eq ha hb (nomark _)
theorem t_ne {k : Nat} (hr : Room k X.A) (ha : JB X G a da) (hb : JB X G b db) : JT X G (.Compare a [.NotEq] [b] pos) (dTr (d2 fNe da db)) := t_cmp (op_neP (hu100 hr)) o2_ne ha hb (nomark _)
/-! ### in, not in, over lists and tuples of flat items -/
def flv : PV → V
  | .non => .non | .bl b => .bl b | .int i => .int i | .str x => .str x | _ => .ref 0
theorem rep_flat {K : PySem.W.Frag} {H : Hp} {A : Av} {x : PV} {v : V} (r : RepB K G H A x v) (f : isF x = true) : v = flv x ∧ flatV v = true := by
  cases x <;> first | (rw [r.non]; exact ⟨rfl, rfl⟩) | (rw [r.bl]; exact ⟨rfl, rfl⟩) | (rw [r.int]; exact ⟨rfl, rfl⟩) | (rw [r.str]; exact ⟨rfl, rfl⟩) | cases f
theorem reps_flat {K : PySem.W.Frag} {H : Hp} {A : Av} : ∀ {xs : List PV} {vs : List V}, Reps K G H A xs vs → xs.all isF = true → vs = xs.map flv ∧ vs.all flatV = true
  | [], vs, h, _ => by have h : vs = [] := h; subst h; exact ⟨rfl, rfl⟩
  | x :: xs, vs, h, f => by
    obtain ⟨v, r, rfl, h1, h2⟩ := h
    rw [List.all_cons, Bool.and_eq_true] at f
    obtain ⟨e1, f1⟩ := rep_flat (.inl h1) f.1
    obtain ⟨e2, f2⟩ := reps_flat h2 f.2
    exact ⟨by rw [e1, e2]; rfl, by rw [List.all_cons, f1, f2]; rfl⟩
end
end
end DN
end
section
set_option Elab.async false
set_option linter.all false
set_option maxRecDepth 100000
set_option maxHeartbeats 4000000
namespace DN
open PySem PySem.Spec PyProof.Rows L2
/-! ### tables -/
section
variable {P : Program} {w : World} {K : PySem.W.Frag} {mg : Str → Option Value} {base : Bs} {G : Pg} {n : Nat} {m f : Str} {ms : List Bool}
theorem look_cons {α : Type} {c c' : Nat} {x y : α} {l : List (Nat × α)} (h : List.lookup c' ((c, x) :: l) = some y) : (c' = c ∧ y = x) ∨ l.lookup c' = some y := by
  rw [List.lookup_cons] at h
  by_cases e : c' = c
  · subst e
    simp at h
    exact .inl ⟨rfl, h.symm⟩
  · have : (c' == c) = false := by simpa using e
    rw [this] at h
    exact .inr h
theorem mt_nil {g : Nat → List PV → Rx PV} : MtOk P w K mg base G n m ms [] g := ⟨fun c f h => by simp at h⟩
theorem mt_cons {g : Nat → List PV → Rx PV} {c fi : Nat} {l : List (Nat × Nat)} (h : MethAt P w K mg base CX0 n (G.cA c) m (spG K G (false :: ms) (g fi))) (hm : m ∉ G.fN c) (r : MtOk P w K mg base G n m ms l g) : MtOk P w K mg base G n m ms ((c, fi) :: l) g :=
  ⟨fun c' f' e => by
    rcases look_cons e with ⟨rfl, rfl⟩ | e
    · exact ⟨h, hm⟩
    · exact r.all c' f' e⟩
theorem fl_nil : FldOk K G f [] := ⟨fun c j h => by simp at h⟩
theorem fl_cons {c j : Nat} {l : List (Nat × Nat)} (h1 : Cls K (G.cA c)) (h2 : NoAttr K (G.cA c) f) (h3 : (G.fN c).Nodup) (h4 : (G.fN c)[j]? = some f) (r : FldOk K G f l) : FldOk K G f ((c, j) :: l) :=
  ⟨fun c' f' e => by
    rcases look_cons e with ⟨rfl, rfl⟩ | e
    · exact ⟨h1, h2, h3, h4⟩
    · exact r.all c' f' e⟩
theorem is_nil {cv : Value} : IsiOk K G cv [] := ⟨fun c j h => by simp at h, fun c j h => by simp at h, fun b h => by simp at h⟩
theorem is_cons {cv : Value} {q : Nat} {b : Bool} {l : List (Nat × Bool)} (h1 : PySem.W.kitOne K (tyOfKd G q) cv = some b) (h2 : q < 9) (r : IsiOk K G cv l) : IsiOk K G cv ((q, b) :: l) :=
  ⟨fun c' f' e => by
    rcases look_cons e with ⟨rfl, rfl⟩ | e
    · exact h1
    · exact r.kit c' f' e, fun c' f' e => by
    rcases look_cons e with ⟨z, rfl⟩ | e
    · omega
    · exact r.cls c' f' e, fun b e => by
    rcases look_cons e with ⟨z, rfl⟩ | e
    · omega
    · exact r.n9 b e⟩
theorem is_consC {cv : Value} {c : Nat} {b : Bool} {l : List (Nat × Bool)} (h1 : PySem.W.kitOne K (.ref (G.cA c)) cv = some b) (h2 : ClsTy K (G.cA c)) (r : IsiOk K G cv l) : IsiOk K G cv ((c + 10, b) :: l) :=
  ⟨fun c' f' e => by
    rcases look_cons e with ⟨rfl, rfl⟩ | e
    · exact h1
    · exact r.kit c' f' e, fun c' f' e => by
    rcases look_cons e with ⟨z, rfl⟩ | e
    · have : c' = c := by omega
      subst this; exact h2
    · exact r.cls c' f' e, fun b e => by
    rcases look_cons e with ⟨z, rfl⟩ | e
    · omega
    · exact r.n9 b e⟩
theorem clsTy {C : Addr} (h : ClsF K C) : ClsTy K C := fun H a dx fs e => h.ty e
theorem ref_only {a : Addr} : ∀ u, RelV (V.ref a) u → u = Value.ref a := fun _ h => h
theorem spG_none {f : Addr} {fd : FuncData} {ps : List Str} {g : List PV → Rx PV} (h : ∀ ws, g ws = .bad) : FnOk P w K mg base CX0 n f fd ps (spG K G ms g) := fn_none fun vs H Q E ⟨A, ws, w, u, r, e, q⟩ => by rw [h] at e; cases e
end
/-! ### the law -/
theorem law_sp {K : PySem.W.Frag} {G : Pg} {H : Hp} {a : Addr} {ns : List Int} {g : List PV → Rx PV} (hO : Only H) (hS : SqL K H a (ns.map V.int)) (hg : g [.lst (ns.map PV.int)] = .ok (.bl true)) : spG K G [false] g [.ref a] H (fun v _ => v = .bl true) fun _ _ _ => False := by
  refine ⟨fun _ => False, [.lst (ns.map PV.int)], .bl true, fun a z => z.elim, ⟨_, _, _, _, rfl, rfl, ?_, rfl, rfl⟩, hg, fun v H' s r => r⟩
  rw [if_neg Bool.false_ne_true]
  refine ⟨a, _, rfl, ?_, Reps.ints ns⟩
  rcases hS with (h | ⟨o, h⟩) | h
  · exact .inl ⟨h, fun z => z⟩
  · exact .inr (.inl ⟨o, h⟩)
  · exact .inr (.inr h)
end DN
end
section
set_option Elab.async false
set_option linter.all false
set_option maxRecDepth 100000
set_option maxHeartbeats 4000000
namespace DN
open PySem PySem.Spec PyProof.Rows L2
section
variable {X : Cx} {G : Pg} {e a b o tg : Expr} {es : List Expr} {da db : DP} {d : DA} {pos p apos cpos : Pos} {x m : Str} {k i : Nat}
/-! ### TUPLE.index(e), the tuple one of the top -/
def idx : List PV → PV → Nat → Option Nat
  | [], _, _ => none
  | y :: ys, x, n => if eqV (flv y) (flv x) = true then some n else idx ys x (n + 1)
theorem idx_of : ∀ {ys : List PV} {x : PV} {n j : Nat}, idx ys x n = some j → n ≤ j ∧ (∃ y, ys[j - n]? = some y ∧ eqV (flv y) (flv x) = true) ∧ ∀ i y, i < j - n → ys[i]? = some y → eqV (flv y) (flv x) = false
  | [], x, n, j, h => by cases h
  | y :: ys, x, n, j, h => by
    unfold idx at h
    split at h
    · rename_i he
      cases h
      refine ⟨Nat.le_refl _, ⟨y, by simp, he⟩, fun i z hi => absurd hi (by omega)⟩
    · rename_i he
      obtain ⟨h1, ⟨z, h2, h3⟩, h4⟩ := idx_of h
      have hj : j - n = (j - (n + 1)) + 1 := by omega
      refine ⟨by omega, ⟨z, by rw [hj]; simpa using h2, h3⟩, fun i w hi e => ?_⟩
      cases i with
      | zero => simp at e; subst e; simpa using he
      | succ i => exact h4 i w (by omega) (by simpa using e)
def dIndex (ws : List PV) (d : DP) : DP := fun ps => (d ps).bind fun x => if isF x = true then (match idx ws x 0 with | some j => .ok (.int j) | none => .bad) else .bad
theorem p_index {x : Str} {t : Addr} {ws : List PV} {vs : List V} {pos' : Pos} (T : TopT X.K t vs) (hg : Gl X x) (hm : X.mg x = some (.ref t)) (hr : ∀ H A, Reps X.K G H A ws vs) (hf : ws.all isF = true) (he : JP X G e da) (hd : (x == ("__debug__" : Str)) = false := by decide)
    (hbase : attributeBase (.Name x pos') "index" X.env (eval (.Name x pos') X.env) = eval (.Name x pos') X.env := by rfl)
    (hfew : ((backTo cpos (starEach [e] X.env)).all (fun x => !x.1) && (backToKw cpos (keywordEach [] X.env)).all (fun x => x.1.isSome) && decide (([e] : List Expr).length + ([] : List Keyword).length + (if ([] : List Keyword).isEmpty then 0 else 1) < 30)) = true := by rfl)
    (hline : (apos.endLine == cpos.line) = true := by rfl) (hst : starEach [e] X.env = (false, eval e X.env) :: starEach [] X.env := by rfl) (hpl : (backTo cpos (starEach ([] : List Expr) X.env)).any (·.1) = false := by rfl) :
    JP X G (.Call (.Attribute (.Name x pos') "index" apos) [e] [] cpos) (dIndex ws da) :=
  imp (pe_bm PySem.F.plainAttrs_tuple PySem.F.slot_tuple_index PySem.F.type_tuple_index mt_indexT (pe_globR hg hm hd) (pa_cons he pa_nil hst) hbase hfew hline hst hpl) fun σ H Q ⟨c, ow, ps, w, R, e, q⟩ => by
    obtain ⟨y, e1, e2⟩ := bind_ok e
    split at e2
    · rename_i hy
      split at e2
      · rename_i j hj
        cases e2
        refine ⟨T.ty H, c, ow, ps, y, R, e1, fun v H' s r => ?_⟩
        obtain ⟨ev, fv⟩ := rep_flat (G := G) (.inl r) hy
        obtain ⟨evs, fvs⟩ := reps_flat (hr H' (av c ow)) hf
        obtain ⟨_, ⟨z, h2, h3⟩, h4⟩ := idx_of hj
        rw [Nat.sub_zero] at h2 h4
        refine ⟨t, vs, v, j, flv z, rfl, rfl, T.sq H', fv, fvs, by rw [evs, List.getElem?_map, h2]; rfl, by rw [ev]; exact h3, fun i u hi hu => ?_, q _ H' s rfl⟩
        rw [evs, List.getElem?_map] at hu
        cases q : ws[i]? with
        | none => rw [q] at hu; cases hu
        | some y' => rw [q] at hu; cases hu; rw [ev]; exact h4 i y' hi q
      · cases e2
    · cases e2
end
/-! ### the law's promise, whatever the classes' addresses -/
def spL (K : PySem.W.Frag) (fN : Nat → List Str) (nF : Nat → Nst) (g : List PV → Rx PV) : Sp := fun vs H Q E => ∀ cA, spG K ⟨cA, fN, nF⟩ [false] g vs H Q E
theorem law_of {P : Program} {w : World} {K : PySem.W.Frag} {mg : Str → Option Value} {k : Nat} {fa : Addr} {x : Str} {fN : Nat → List Str} {nF : Nat → Nst} {g : List PV → Rx PV} {ts : List Addr}
    (h : ∃ (cA : Nat → Addr) (fd : FuncData), (∀ (s : Shared) (v : Value), BindsTo s fd ⟨[v], []⟩ [(x, v)]) ∧ ∀ base : Bs, K.In base → base.Ns mainGlobals mg → base.tabs = ts → FnOk P w K mg base CX0 k fa fd [x] (spG K ⟨cA, fN, nF⟩ [false] g)) :
    ∃ fd : FuncData, (∀ (s : Shared) (v : Value), BindsTo s fd ⟨[v], []⟩ [(x, v)]) ∧ ∀ base : Bs, K.In base → base.Ns mainGlobals mg → base.tabs = ts → FnOk P w K mg base CX0 k fa fd [x] (spL K fN nF g) := by
  obtain ⟨cA, fd, h1, h2⟩ := h
  exact ⟨fd, h1, fun base k1 k2 k3 => (h2 base k1 k2 k3).imp fun vs H Q E q => q cA⟩
end DN
end
section
set_option Elab.async false
set_option linter.all false
set_option maxRecDepth 100000
set_option maxHeartbeats 4000000
namespace DN
open PySem L2
/-! ### the mirrors' parts as equations -/
def fin : Rs → Rx PV
  | .ret w => .ok w
  | .retn xs => .ok (.lst xs)
  | .nx _ => .ok .non
  | .exc c => .exc c
  | _ => .bad
theorem runD_eq (ms : List Bool) (n : Nat) (d : DS) (ws : List PV) : runD ms n d ws = if ws.length = ms.length then fin (d (inP ms n ws)) else .bad := by
  unfold runD fin
  split
  · cases d (inP ms n ws) <;> rfl
  · rfl
theorem runD_of {ms : List Bool} {n : Nat} {d : DS} {ws : List PV} (h : ws.length = ms.length) : runD ms n d ws = fin (d (inP ms n ws)) := by rw [runD_eq, if_pos h]
@[simp] theorem fin_ret (w : PV) : fin (.ret w) = .ok w := rfl
@[simp] theorem fin_retn (xs : List PV) : fin (.retn xs) = .ok (.lst xs) := rfl
def finW : Rs → Rx PV
  | .retn xs => .ok (.lst xs)
  | .exc c => .exc c
  | _ => .bad
@[simp] theorem finW_retn (xs : List PV) : finW (.retn xs) = .ok (.lst xs) := rfl
@[simp] theorem finW_exc (c : Nat) : finW (.exc c) = .exc c := rfl
@[simp] theorem fin_nx (ps : PSt) : fin (.nx ps) = .ok .non := rfl
@[simp] theorem fin_exc (c : Nat) : fin (.exc c) = .exc c := rfl
def isiK (l : List (Nat × Bool)) (q : Nat) : Rx PV := match l.lookup q with | some b => .ok (.bl b) | none => .bad
def isiP (l : List (Nat × Bool)) (x : PV) : Rx PV := isiK l (kd x)
@[simp] theorem isiP_non (l : List (Nat × Bool)) : isiP l .non = isiK l 0 := rfl
@[simp] theorem isiP_bl (l : List (Nat × Bool)) (b : Bool) : isiP l (.bl b) = isiK l 1 := rfl
@[simp] theorem isiP_int (l : List (Nat × Bool)) (b : Int) : isiP l (.int b) = isiK l 2 := rfl
@[simp] theorem isiP_str (l : List (Nat × Bool)) (b : Str) : isiP l (.str b) = isiK l 3 := rfl
@[simp] theorem isiP_tup (l : List (Nat × Bool)) (b : List PV) : isiP l (.tup b) = isiK l 4 := rfl
@[simp] theorem isiP_lst (l : List (Nat × Bool)) (b : List PV) : isiP l (.lst b) = isiK l 5 := rfl
@[simp] theorem isiP_obj (l : List (Nat × Bool)) (k : Nat) (b : List PV) : isiP l (.obj k b) = isiK l (k + 10) := rfl
/-! what follows is taken up only when the way is known -/
def Rs.next (x : Rs) (r : DS) : Rs := match x with | .nx ps' => r ps' | y => y
def ifR (x : Rx Bool) (s r : DS) (ps : PSt) : Rs := x.st fun b => if b = true then s ps else r ps
def andR (x : Rx Bool) (u : DT) (ps : PSt) : Rx Bool := x.bind fun b => if b = true then u ps else .ok false
def orR (x : Rx Bool) (u : DT) (ps : PSt) : Rx Bool := x.bind fun b => if b = true then .ok true else u ps
def andVR (x : Rx PV) (b : DP) (ps : PSt) : Rx PV := x.bind fun y => match y with | .bl true => b ps | .bl false => .ok (.bl false) | _ => .bad
def orVR (x : Rx PV) (b : DP) (ps : PSt) : Rx PV := x.bind fun y => match y with | .bl true => .ok (.bl true) | .bl false => b ps | _ => .bad
def ifVR (x : Rx Bool) (a b : DP) (ps : PSt) : Rx PV := x.bind fun y => if y = true then a ps else b ps
def bind2 (x y : Rx PV) (f : PV → PV → Rx PV) : Rx PV := x.bind fun u => y.bind fun v => f u v
def consR (x : Rx PV) (xs : Rx (List PV)) : Rx (List PV) := x.bind fun u => xs.bind fun us => .ok (u :: us)
section
variable (ps : PSt) (i : Nat) (a b : DP) (d : DA) (t u : DT) (s r : DS) (f : PV → PV → Rx PV)
@[simp] theorem next_nx : (Rs.nx ps).next r = r ps := rfl
@[simp] theorem next_ret (w : PV) : (Rs.ret w).next r = .ret w := rfl
@[simp] theorem next_retn (xs : List PV) : (Rs.retn xs).next r = .retn xs := rfl
@[simp] theorem next_reti (w : PV) (x : Ow) : (Rs.reti w x).next r = .reti w x := rfl
@[simp] theorem next_brk : (Rs.brk ps).next r = .brk ps := rfl
@[simp] theorem next_cnt : (Rs.cnt ps).next r = .cnt ps := rfl
@[simp] theorem next_exc (c : Nat) : (Rs.exc c).next r = .exc c := rfl
@[simp] theorem ifR_t : ifR (.ok true) s r ps = s ps := rfl
@[simp] theorem ifR_f : ifR (.ok false) s r ps = r ps := rfl
@[simp] theorem ifR_x (c : Nat) : ifR (.exc c) s r ps = .exc c := rfl
@[simp] theorem andR_t : andR (.ok true) t ps = t ps := rfl
@[simp] theorem andR_f : andR (.ok false) t ps = .ok false := rfl
@[simp] theorem orR_t : orR (.ok true) t ps = .ok true := rfl
@[simp] theorem orR_f : orR (.ok false) t ps = t ps := rfl
@[simp] theorem andVR_t : andVR (.ok (.bl true)) b ps = b ps := rfl
@[simp] theorem andVR_f : andVR (.ok (.bl false)) b ps = .ok (.bl false) := rfl
@[simp] theorem orVR_t : orVR (.ok (.bl true)) b ps = .ok (.bl true) := rfl
@[simp] theorem orVR_f : orVR (.ok (.bl false)) b ps = b ps := rfl
@[simp] theorem ifVR_t : ifVR (.ok true) a b ps = a ps := rfl
@[simp] theorem ifVR_f : ifVR (.ok false) a b ps = b ps := rfl
@[simp] theorem bind2_ok (x y : PV) : bind2 (.ok x) (.ok y) f = f x y := rfl
@[simp] theorem consR_ok (x : PV) (xs : List PV) : consR (.ok x) (.ok xs) = .ok (x :: xs) := rfl
@[simp] theorem e_var : dVar i ps = match ps[i]? with | some (.v w) => .ok w | _ => .bad := rfl
@[simp] theorem e_see : dSee i ps = match ps[i]? with | some (.v w) => .ok w | some (.own x) => .ok x.pv | some (.bor w) => .ok w | _ => .bad := rfl
@[simp] theorem e_C (w : PV) : dC w ps = .ok w := rfl
@[simp] theorem e_2 : d2 f a b ps = bind2 (a ps) (b ps) f := rfl
@[simp] theorem e_Tr : dTr a ps = (a ps).bind fun x => match x with | .bl b => .ok b | _ => .bad := rfl
@[simp] theorem e_andT : dAndT t u ps = andR (t ps) u ps := rfl
@[simp] theorem e_orT : dOrT t u ps = orR (t ps) u ps := rfl
@[simp] theorem e_notT : dNotT t ps = (t ps).bind fun x => .ok (!x) := rfl
@[simp] theorem e_andV : dAndV a b ps = andVR (a ps) b ps := rfl
@[simp] theorem e_orV : dOrV a b ps = orVR (a ps) b ps := rfl
@[simp] theorem e_notV : dNotV a ps = (a ps).bind fun x => match x with | .bl k => .ok (.bl (!k)) | _ => .bad := rfl
@[simp] theorem e_neg : dNeg a ps = (a ps).bind fun x => match x with | .int i => .ok (.int (-i)) | _ => .bad := rfl
@[simp] theorem e_ifV : dIfV t a b ps = ifVR (t ps) a b ps := rfl
@[simp] theorem e_isN : dIsN a ps = (a ps).bind fun x => .ok (.bl (isN x)) := rfl
@[simp] theorem e_notN : dNotN a ps = (a ps).bind fun x => .ok (.bl (!isN x)) := rfl
@[simp] theorem e_nil : dNil ps = .ok [] := rfl
@[simp] theorem e_cons : dCons a d ps = consR (a ps) (d ps) := rfl
@[simp] theorem e_tup : dTup d ps = (d ps).bind fun ws => .ok (.tup ws) := rfl
@[simp] theorem e_ofN : dOfN d ps = (d ps).bind fun ws => .ok (.lst ws) := rfl
@[simp] theorem e_call (g : List PV → Rx PV) : dCall g d ps = (d ps).bind g := rfl
@[simp] theorem e_callN (g : List PV → Rx (List PV)) : dCallN g d ps = (d ps).bind g := rfl
@[simp] theorem e_new (c : Nat) : dNew c d ps = (d ps).bind fun ws => .ok (.obj c ws) := rfl
@[simp] theorem e_items : dItems a ps = (a ps).bind fun x => match x with | .lst xs => .ok xs | _ => .bad := rfl
@[simp] theorem e_itemsT : dItemsT a ps = (a ps).bind fun x => match x with | .tup xs => .ok xs | _ => .bad := rfl
@[simp] theorem e_isi (l : List (Nat × Bool)) : dIsi l a ps = (a ps).bind (isiP l) := rfl
@[simp] theorem e_cut (dl dh : PSt → Rx (Option Int)) : dCut a dl dh ps = (a ps).bind fun x => (dl ps).bind fun lo => (dh ps).bind fun hi => match x with | .lst xs => .ok (cutP xs lo hi) | _ => .bad := rfl
@[simp] theorem e_O0 : dO0 ps = .ok none := rfl
@[simp] theorem e_O1 : dO1 a ps = (a ps).bind fun x => match x with | .int i => .ok (some i) | _ => .bad := rfl
@[simp] theorem e_catL : dCatL a b ps = (a ps).bind fun x => (b ps).bind fun y => match x, y with | .lst xs, .lst ys => if xs.length + ys.length ≤ sizeLine then .ok (xs ++ ys) else .bad | _, _ => .bad := rfl
@[simp] theorem e_next : sNext ps = .nx ps := rfl
@[simp] theorem e_brk : sBrk ps = .brk ps := rfl
@[simp] theorem e_cnt : sCnt ps = .cnt ps := rfl
@[simp] theorem e_seq : sSeq s r ps = (s ps).next r := rfl
@[simp] theorem e_set : sSet i a ps = (a ps).st fun w => .nx (ps.set i (.v w)) := rfl
@[simp] theorem e_setM (m : DM) : sSetM i m ps = (m ps).st fun w => .nx (w.2.set i (.v w.1)) := rfl
@[simp] theorem e_own : sOwn i d ps = (d ps).st fun ws => if i < ps.length then .nx (ps.set i (.own (.lst ws))) else .bad := rfl
@[simp] theorem e_asg (g : DG) : sAsg g a ps = (a ps).st fun w => (g w ps).st fun ps' => .nx ps' := rfl
@[simp] theorem e_expr (m : DM) : sExpr m ps = (m ps).st fun w => .nx w.2 := rfl
@[simp] theorem e_retW : sRetW d ps = (d ps).st fun xs => .retn xs := rfl
@[simp] theorem e_retO : sRetO i ps = match ps[i]? with | some (.own (.lst xs)) => .retn xs | _ => .bad := rfl
@[simp] theorem e_ret : sRet a ps = (a ps).st fun w => .ret w := rfl
@[simp] theorem e_retM (m : DM) : sRetM m ps = (m ps).st fun w => .ret w.1 := rfl
@[simp] theorem e_retN : sRetN ps = .ret .non := rfl
@[simp] theorem e_if : sIf t s r ps = ifR (t ps) s r ps := rfl
@[simp] theorem e_for (g : DG) : sFor d g s ps = (d ps).st fun ws => forD g s ws ps := rfl
@[simp] theorem e_lift : dLift a ps = (a ps).bind fun w => .ok (w, ps) := rfl
@[simp] theorem e_mnil : mNil ps = .ok ([], ps) := rfl
@[simp] theorem e_mcons (m : DM) (n : DMA) : mCons m n ps = (m ps).bind fun x => (n x.2).bind fun y => .ok (x.1 :: y.1, y.2) := rfl
@[simp] theorem e_mtup (n : DMA) : mTup n ps = (n ps).bind fun x => if x.1.length ≤ 1000 then .ok (.tup x.1, x.2) else .bad := rfl
@[simp] theorem e_mcall (n : DMA) (g : List PV → Rx PV) : mCall g n ps = (n ps).bind fun x => (g x.1).bind fun w => .ok (w, x.2) := rfl
@[simp] theorem e_frz : mFrz i ps = match ps[i]? with | some (.own y) => .ok (y.pv, ps.set i (.v y.pv)) | some (.v w) => .ok (w, ps) | _ => .bad := rfl
@[simp] theorem e_pop : mPop i ps = match ps[i]? with | some (.own (.lst xs)) => (match xs.getLast? with | some w => .ok (w, ps.set i (.own (.lst xs.dropLast))) | none => .bad) | _ => .bad := rfl
@[simp] theorem e_app (m : DM) : mApp i m ps = match ps[i]? with
  | some (.own (.lst _)) => (m ps).bind fun x => (match x.2[i]? with | some (.own (.lst xs)) => if xs.length < sizeLine then .ok (.non, x.2.set i (.own (.lst (xs ++ [x.1])))) else .bad | _ => .bad)
  | _ => .bad := rfl
@[simp] theorem e_gset (w : PV) : gSet i w ps = .ok (ps.set i (.v w)) := rfl
@[simp] theorem e_gnil : gNilD [] ps = .ok ps := rfl
@[simp] theorem e_gcons (g : DG) (gs : List PV → PSt → Rx PSt) (w : PV) (ws : List PV) : gConsD g gs (w :: ws) ps = (g w ps).bind fun ps' => gs ws ps' := rfl
@[simp] theorem e_gtup (n : Nat) (gs : List PV → PSt → Rx PSt) (ws : List PV) : gTupD n gs (.tup ws) ps = if ws.length = n then gs ws ps else .bad := rfl
@[simp] theorem e_fIi (g : Int → Int → PV) (x y : Int) : fI g (.int x) (.int y) = .ok (g x y) := rfl
@[simp] theorem e_fIc (C : Int → Int → Prop) [∀ i j, Decidable (C i j)] (g : Int → Int → PV) (x y : Int) : fIc C g (.int x) (.int y) = if C x y then .ok (g x y) else .bad := rfl
@[simp] theorem e_eqI (x y : Int) : fEq (.int x) (.int y) = .ok (.bl (x == y)) := rfl
@[simp] theorem e_eqS (x y : Str) : fEq (.str x) (.str y) = .ok (.bl (x == y)) := rfl
@[simp] theorem e_eqB (x y : Bool) : fEq (.bl x) (.bl y) = .ok (.bl (x == y)) := rfl
@[simp] theorem e_neI (x y : Int) : fNe (.int x) (.int y) = .ok (.bl (!(x == y))) := rfl
@[simp] theorem e_neS (x y : Str) : fNe (.str x) (.str y) = .ok (.bl (!(x == y))) := rfl
@[simp] theorem e_neB (x y : Bool) : fNe (.bl x) (.bl y) = .ok (.bl (!(x == y))) := rfl
@[simp] theorem e_ixL (xs : List PV) (j : Int) : fIx (.lst xs) (.int j) = match atI xs j with | some w => .ok w | none => .bad := rfl
@[simp] theorem e_ixT (xs : List PV) (j : Int) : fIx (.tup xs) (.int j) = match atI xs j with | some w => .ok w | none => .bad := rfl
@[simp] theorem e_lenL (xs : List PV) : bLen [.lst xs] = .ok (.int xs.length) := rfl
@[simp] theorem e_lenT (xs : List PV) : bLen [.tup xs] = .ok (.int xs.length) := rfl
@[simp] theorem e_fornil (g : DG) : forD g s [] ps = .nx ps := rfl
end
/-- a method of an object -/
def callM (tab : List (Nat × Nat)) (g : Nat → List PV → Rx PV) (x : PV) (ws : List PV) : Rx PV := match x with
  | .obj c xs => (match tab.lookup c with | some f => g f (.obj c xs :: ws) | none => .bad)
  | _ => .bad
def callD (tab : List (Nat × Nat)) (g : Nat → List PV → Rx PV) (x : PV) (m : Rx (List PV)) : Rx PV := match x with
  | .obj c xs => (match tab.lookup c with | some f => m.bind fun ws => g f (.obj c xs :: ws) | none => .bad)
  | _ => .bad
@[simp] theorem callD_ok (tab : List (Nat × Nat)) (g : Nat → List PV → Rx PV) (x : PV) (ws : List PV) : callD tab g x (.ok ws) = callM tab g x ws := rfl
@[simp] theorem e_meth (tab : List (Nat × Nat)) (g : Nat → List PV → Rx PV) (a : DP) (d : DA) (ps : PSt) : dMeth tab g a d ps = (a ps).bind fun x => callD tab g x (d ps) := rfl
def fldP (l : List (Nat × Nat)) (x : PV) : Rx PV := match x with
  | .obj k xs => (match l.lookup k with | some j => (match xs[j]? with | some w => .ok w | none => .bad) | none => .bad)
  | _ => .bad
@[simp] theorem e_fld (l : List (Nat × Nat)) (a : DP) (ps : PSt) : dFld l a ps = (a ps).bind (fldP l) := rfl
end DN
end
section
set_option Elab.async false
set_option linter.all false
set_option maxRecDepth 100000
set_option maxHeartbeats 4000000
namespace DN
open PySem PySem.Spec PyProof.Rows L2
section
variable {X : Cx} {G : Pg} {e a b o tg : Expr} {es : List Expr} {da db : DP} {d : DA} {pos p p2 apos cpos : Pos} {x m : Str} {k i : Nat}
def dLRng (d : DA) : DA := fun ps => (d ps).bind fun ws => match ws with | [.int j] => if -(2 ^ 62) ≤ j ∧ j ≤ 2 ^ 24 then .ok (rngP 0 j.toNat) else .bad | _ => .bad
end
@[simp] theorem e_lrng (ps : PSt) (d : DA) : dLRng d ps = (d ps).bind fun ws => match ws with | [.int j] => if -(2 ^ 62) ≤ j ∧ j ≤ 2 ^ 24 then .ok (rngP 0 j.toNat) else .bad | _ => .bad := rfl
/-! ### isinstance(x, (C, D)) -/
def dIsiT (l m : List (Nat × Bool)) (d : DP) : DP := fun ps => (d ps).bind fun x => match l.lookup (kd x), m.lookup (kd x) with | some a, some b => .ok (.bl (a || b)) | _, _ => .bad
section
variable {X : Cx} {G : Pg} {e c1 c2 : Expr} {da : DP} {pos p : Pos}
theorem kit2 {K : PySem.W.Frag} {t a b : Value} {x y : Bool} (h1 : PySem.W.kitOne K t a = some x) (h2 : PySem.W.kitOne K t b = some y) : PySem.W.kitAny K t [a, b] = some (x || y) := by
  unfold PySem.W.kitAny
  rw [h1]
  cases x with
  | true => rfl
  | false =>
    show PySem.W.kitAny K t [b] = some y
    unfold PySem.W.kitAny
    rw [h2]
    cases y <;> rfl
theorem call_isiT (C D : Addr) (l m : List (Nat × Bool)) (ok : IsiOk X.K G (.ref C) l) (ok2 : IsiOk X.K G (.ref D) m) : CallR X (.builtin "isinstance") (fun xs H Q => ∃ A w v tp a b, xs = [v, .ref tp] ∧ H tp = some (.tup [.ref C, .ref D]) ∧ RepB X.K G H A w v ∧ l.lookup (kd w) = some a ∧ m.lookup (kd w) = some b ∧ Q (.bl (a || b)) H) := by
  intro pins s σ H xs us Q I r h
  obtain ⟨A, w, v, tp, a, b, rfl, hT, rw', hl, hm, q⟩ := h
  obtain ⟨u, u', rfl, ru, rc⟩ := vals2 r
  obtain rfl : u' = Value.ref tp := rc
  have k1 := ok.kit _ _ hl
  have k2 := ok2.kit _ _ hm
  have kit := kit2 k1 k2
  obtain ⟨its, ri, ⟨⟨tc, tdd, td, tsl⟩, h1, h2, n, h3⟩, _⟩ := I.tuple (SqT.of hT)
  simp only at h2 h3
  subst h2 h3
  have ei : its = [.ref C, .ref D] := by
    cases ri with
    | cons r1 rr =>
      cases rr with
      | cons r2 rr =>
        cases rr
        rw [show _ = Value.ref C from r1, show _ = Value.ref D from r2]
  subst ei
  have fin : ∀ tk, EP X pins σ Q (.bool (a || b)) { s with toks := tk } := fun tk => ⟨.bl _, H, I.tok tk, rfl, q⟩
  cases w with
  | non => rw [rw'.non] at ru; cases (show u = Value.none from ru); exact PySem.W.kia_tup PySem.W.kitx_none I.kIn True.intro h1 kit (fun z => nomatch z) fin
  | bl k => rw [rw'.bl] at ru; cases (show u = Value.bool k from ru); exact PySem.W.kia_tup PySem.W.kitx_bool I.kIn True.intro h1 kit (fun z => nomatch z) fin
  | int i => rw [rw'.int] at ru; obtain ⟨t, q⟩ := (show ∃ t, u = Value.int i t from ru); cases q; exact PySem.W.kia_tup PySem.W.kitx_int I.kIn True.intro h1 kit (fun z => nomatch z) fin
  | str i => rw [rw'.str] at ru; obtain ⟨t, q⟩ := (show ∃ t, u = Value.str i t from ru); cases q; exact PySem.W.kia_tup PySem.W.kitx_str I.kIn True.intro h1 kit (fun z => nomatch z) fin
  | tup ws =>
    obtain ⟨a, vs, rfl, sq, rs⟩ := rw'.tup
    cases (show u = Value.ref a from ru)
    obtain ⟨its, _, p, _⟩ := I.tuple sq
    obtain ⟨o, h1', h2', _⟩ := p
    exact PySem.W.kia_tup PySem.W.kitx_tuple I.kIn ⟨o, h1', h2'⟩ h1 kit (fun z => nomatch z) fin
  | lst ws =>
    obtain ⟨a, vs, rfl, sq, rs⟩ := rw'.lst
    cases (show u = Value.ref a from ru)
    obtain ⟨its, _, ⟨o, n, h1', h2', _⟩, _⟩ := I.list sq
    exact PySem.W.kia_tup PySem.W.kitx_list I.kIn ⟨o, h1', h2'⟩ h1 kit (fun z => nomatch z) fin
  | clo f ws => exact absurd hl (ok.n9 _)
  | dit ks ws => exact absurd hl (ok.n9 _)
  | dic ks ws =>
    obtain ⟨a, vs, rfl, hH, _, rs⟩ := rw'.dic
    cases (show u = Value.ref a from ru)
    obtain ⟨_, _, vs, _, p⟩ := (show ObjOk X.prog X.w H s.heap a (.dK _) from I.hok a _ hH)
    obtain ⟨o, es, ep, h1', h2', _⟩ := p
    exact PySem.W.kia_tup PySem.W.kitx_dict I.kIn ⟨o, h1', h2'.1⟩ h1 kit (fun z => nomatch z) fin
  | obj k ws =>
    obtain ⟨a, dx, vs, rfl, hH, _, rs⟩ := rw'.obj
    cases (show u = Value.ref a from ru)
    have ty := ok.cls k _ hl H a dx _ hH
    cases ty with
    | ins ea cl ha hn htk hm =>
      obtain ⟨mA, O, _⟩ := ins_get I.hok ea
      obtain ⟨od, J, _⟩ := O.look
      exact PySem.W.kia_tup (PySem.W.kitx_own (cl.get _) cl.hd ha hn htk hm) I.kIn J h1 kit (fun z => nomatch z) fin
theorem p_isiT {C D : Addr} {l m : List (Nat × Bool)} {k : Nat} {pt : Pos} (hg : Gl X "isinstance") (hm : X.mg "isinstance" = none) (ok : IsiOk X.K G (.ref C) l) (ok2 : IsiOk X.K G (.ref D) m) (ha : JB X G e da) (h1 : PE X c1 (tC (.ref C))) (h2 : PE X c2 (tC (.ref D)))
    (he : starEach [e, .Tuple [c1, c2] k pt] X.env = (false, eval e X.env) :: starEach [.Tuple [c1, c2] k pt] X.env := by rfl) (he2 : starEach [.Tuple [c1, c2] k pt] X.env = (false, eval (.Tuple [c1, c2] k pt) X.env) :: starEach [] X.env := by rfl)
    (he3 : starEach [c1, c2] X.env = (false, eval c1 X.env) :: starEach [c2] X.env := by rfl) (he4 : starEach [c2] X.env = (false, eval c2 X.env) :: starEach [] X.env := by rfl) (hpl : (backTo pos (starEach [.Tuple [c1, c2] k pt] X.env)).any (·.1) = false := by rfl) :
    JP X G (.Call (.Name "isinstance" p) [e, .Tuple [c1, c2] k pt] [] pos) (dIsiT l m da) :=
  imp (pe_callB (call_isiT C D l m ok ok2) hg hm boot_isinstance (pa_cons ha (pa_cons (pe_tup (pa_cons h1 (pa_cons h2 pa_nil he4) he3)) pa_nil he2) he) (by decide) (by decide) he hpl) fun σ H Q ⟨c, ow, ps, w, R, e, q⟩ => by
    obtain ⟨x, e1, e2⟩ := bind_ok e
    refine ⟨c, ow, ps, x, R, e1, fun v H' s r => ⟨by show 2 ≤ sizeLine; decide, fun tp htp => ?_⟩⟩
    have s2 := same_upd htp (.tup [.ref C, .ref D])
    split at e2
    · rename_i a b hl hm
      cases e2
      exact ⟨_, x, v, tp, a, b, rfl, upd_same, r.same s2, hl, hm, q _ _ (s.trans s2) rfl⟩
    · cases e2
end
def isiP2 (l m : List (Nat × Bool)) (x : PV) : Rx PV := match l.lookup (kd x), m.lookup (kd x) with | some a, some b => .ok (.bl (a || b)) | _, _ => .bad
@[simp] theorem e_isiT (l m : List (Nat × Bool)) (a : DP) (ps : PSt) : dIsiT l m a ps = (a ps).bind (isiP2 l m) := rfl
end DN
end
section
set_option Elab.async false
set_option linter.all false
set_option maxRecDepth 100000
set_option maxHeartbeats 4000000
namespace DN
open PySem L2
/-- by place: k is the number of the turn -/
theorem forD_at {g : DG} {body : DS} (P : Nat → PSt → Prop) (ws : List PV) (ps : PSt) (h : P 0 ps) (f : ∀ k w ps, ws[k]? = some w → P k ps → ∃ ps1 ps2, g w ps = .ok ps1 ∧ (body ps1 = .nx ps2 ∨ body ps1 = .cnt ps2) ∧ P (k + 1) ps2) :
    ∃ ps', forD g body ws ps = .nx ps' ∧ P ws.length ps' := by
  have gen : ∀ (post : List PV) (k : Nat) (ps : PSt), ws.drop k = post → P k ps → ∃ ps', forD g body post ps = .nx ps' ∧ P (k + post.length) ps' := by
    intro post
    induction post with
    | nil => intro k ps _ h; exact ⟨ps, rfl, h⟩
    | cons w r ih =>
      intro k ps e h
      have hk : ws[k]? = some w := by
        have := congrArg (fun l : List PV => l[0]?) e
        simpa using this
      have er : ws.drop (k + 1) = r := by
        have := congrArg List.tail e
        simpa using this
      obtain ⟨ps1, ps2, e1, e2, p2⟩ := f k w ps hk h
      obtain ⟨ps', e3, p3⟩ := ih (k + 1) ps2 er p2
      refine ⟨ps', ?_, by rw [List.length_cons, show k + (r.length + 1) = k + 1 + r.length by omega]; exact p3⟩
      rw [forD, e1, ok_st]
      rcases e2 with e2 | e2 <;> (rw [e2]; exact e3)
  have := gen ws 0 ps (by simp) h
  simpa using this
theorem while_rel {t : DT} {body : DS} (P : Nat → PSt → Prop) (R : PSt → Prop) (f : ∀ m ps, P m ps → (t ps = .ok false ∧ R ps) ∨ (t ps = .ok true ∧ ∃ ps2 m', (body ps = .nx ps2 ∨ body ps = .cnt ps2) ∧ m' < m ∧ P m' ps2)) :
    ∀ (m : Nat) (ps : PSt), P m ps → ∃ ps', sWhile t body ps = .nx ps' ∧ R ps' := by
  intro m
  induction m using Nat.strongRecOn with
  | ind m ih =>
    intro ps h
    rw [while_eq]
    rcases f m ps h with ⟨e, r⟩ | ⟨e, ps2, m', e2, hm, p2⟩
    · exact ⟨ps, by rw [e]; rfl, r⟩
    · obtain ⟨ps', e3, r⟩ := ih m' hm ps2 p2
      refine ⟨ps', ?_, r⟩
      rw [e, ok_st, if_pos rfl]
      rcases e2 with e2 | e2 <;> (rw [e2]; exact e3)
theorem last_app (xs : List PV) (x : PV) : (xs ++ [x]).getLast? = some x := by simp
theorem drop_app (xs : List PV) (x : PV) : (xs ++ [x]).dropLast = xs := by simp
end DN
end
section
set_option Elab.async false
set_option linter.all false
set_option maxRecDepth 100000
set_option maxHeartbeats 4000000
namespace L2
open PySem PySem.Spec PyProof.Rows
section
variable {X : Cx} {tg : Expr}
end
end L2
namespace DN
open PySem PySem.Spec PyProof.Rows L2
def sgP (x : Str) : List PV := x.cps.toList.map fun c => PV.str ⟨#[c]⟩
section
variable {X : Cx} {G : Pg} {e a b o tg iter : Expr} {es : List Expr} {body : List Stmt} {da db dk dv : DP} {d : DA} {ds : DS} {pos pos' p apos : Pos} {x m : Str} {k i : Nat} {ms : List Bool}
def dItemsS (d : DP) : DA := fun ps => (d ps).bind fun x => match x with | .str y => .ok (sgP y) | _ => .bad
@[simp] theorem e_itemsS (d : DP) (ps : PSt) (y : Str) (h : d ps = .ok (.str y)) : dItemsS d ps = .ok (sgP y) := by unfold dItemsS; rw [h]; rfl
/-! ### a dict of one's own -/
def keyP : PV → Option Key
  | .int i => some (.inl i)
  | .str y => some (.inr y)
  | _ => none
def inK (ks : List Key) (k : Key) : Bool := ks.any fun k' => decide (k' = k)
end
end DN
end
section
set_option Elab.async false
set_option linter.all false
set_option maxRecDepth 100000
set_option maxHeartbeats 4000000
namespace DN
open PySem PySem.Spec PyProof.Rows L2
section
variable {K : PySem.W.Frag} {G : Pg} {H : Hp} {A : Av}
end
section
variable {X : Cx} {G : Pg} {e a b o i f value : Expr} {es : List Expr} {da db dd dk dv : DP} {d : DA} {dm : DM} {pos pos' p apos cpos tpos : Pos} {x : Str} {j : Nat}
end
end DN
end
section
set_option Elab.async false
set_option linter.all false
set_option maxRecDepth 100000
set_option maxHeartbeats 4000000
namespace L2
open PySem PySem.Spec PyProof.Rows
end L2
namespace DN
open PySem PySem.Spec PyProof.Rows L2
section
variable {X : Cx} {G : Pg} {e a b o tg : Expr} {es : List Expr} {da db : DP} {d : DA} {dm : DM} {ds du : DS} {pos p apos cpos : Pos} {x m : Str} {k i : Nat} {ms : List Bool}
/-! ### for k, x in enumerate(xs) -/
def enumFrom : Nat → List PV → List PV
  | _, [] => []
  | k, w :: ws => .tup [.int (k : Int), w] :: enumFrom (k + 1) ws
def dEnum (d : DP) : DA := fun ps => (d ps).bind fun x => match x with | .lst xs => .ok (enumFrom 0 xs) | _ => .bad
def sForE (d : DP) (g : DG) (body : DS) : DS := sFor (dEnum d) g body
/-! ### xs.extend(a new list), xs.clear(), xs.reverse() -/
def mExt (i : Nat) (d : DA) : DM := fun ps => match ps[i]? with
  | some (.own (.lst xs)) => (d ps).bind fun ys => if xs.length + ys.length ≤ sizeLine then .ok (.non, ps.set i (.own (.lst (xs ++ ys)))) else .bad
  | _ => .bad
def mClr (i : Nat) : DM := fun ps => match ps[i]? with
  | some (.own (.lst _)) => .ok (.non, ps.set i (.own (.lst [])))
  | _ => .bad
theorem Reps.reverse {K : PySem.W.Frag} {H : Hp} {A : Av} : ∀ {ws : List PV} {vs : List V}, Reps K G H A ws vs → Reps K G H A ws.reverse vs.reverse
  | [], vs, h => by have h : vs = [] := h; subst h; rfl
  | w :: ws, vs, h => by
    obtain ⟨v, r, rfl, h1, h2⟩ := h
    rw [List.reverse_cons, List.reverse_cons]
    exact (Reps.reverse h2).snoc h1
def mRev (i : Nat) : DM := fun ps => match ps[i]? with
  | some (.own (.lst xs)) => .ok (.non, ps.set i (.own (.lst xs.reverse)))
  | _ => .bad
/-! ### tuples: a slice, + -/
def dCutT (d : DP) (dl dh : PSt → Rx (Option Int)) : DP := fun ps => (d ps).bind fun x => (dl ps).bind fun lo => (dh ps).bind fun hi => match x with
  | .tup xs => if HT.sIx xs.length 0 lo = 0 ∧ HT.sIx xs.length xs.length hi = xs.length then .bad else .ok (.tup (cutP xs lo hi))
  | _ => .bad
def fCatT : PV → PV → Rx PV
  | .tup xs, .tup ys => if xs ≠ [] ∧ xs.length + ys.length ≤ sizeLine then .ok (.tup (xs ++ ys)) else .bad
  | _, _ => .bad
/-! ### a new list times an int -/
def dRep (d : DA) (b : DP) : DA := fun ps => (d ps).bind fun xs => (b ps).bind fun y => match y with
  | .int k => if 0 ≤ k ∧ k < 2 ^ 62 ∧ xs.length * k.toNat ≤ sizeLine then .ok (List.replicate k.toNat xs).flatten else .bad
  | _ => .bad
theorem Reps.rep {K : PySem.W.Frag} {H : Hp} {A : Av} {ws : List PV} {vs : List V} (h : Reps K G H A ws vs) : ∀ n : Nat, Reps K G H A (List.replicate n ws).flatten (List.replicate n vs).flatten
  | 0 => rfl
  | n + 1 => by
    rw [List.replicate_succ, List.flatten_cons, List.replicate_succ, List.flatten_cons]
    exact h.app (Reps.rep h n)
/-! ### a def that hands out a new list -/
def dCallW (g : List PV → Rx PV) (d : DA) : DA := fun ps => (d ps).bind fun ws => (g ws).bind fun w => match w with | .lst xs => .ok xs | _ => .bad
/-! ### equations -/
variable (ps : PSt)
@[simp] theorem e_ext : mExt i d ps = match ps[i]? with
  | some (.own (.lst xs)) => (d ps).bind fun ys => if xs.length + ys.length ≤ sizeLine then .ok (.non, ps.set i (.own (.lst (xs ++ ys)))) else .bad
  | _ => .bad := rfl
@[simp] theorem e_clr : mClr i ps = match ps[i]? with
  | some (.own (.lst _)) => .ok (.non, ps.set i (.own (.lst [])))
  | _ => .bad := rfl
@[simp] theorem e_rev : mRev i ps = match ps[i]? with
  | some (.own (.lst xs)) => .ok (.non, ps.set i (.own (.lst xs.reverse)))
  | _ => .bad := rfl
@[simp] theorem e_forE (g : DG) : sForE da g ds ps = (dEnum da ps).st fun ws => forD g ds ws ps := rfl
@[simp] theorem e_enum : dEnum da ps = (da ps).bind fun x => match x with | .lst xs => .ok (enumFrom 0 xs) | _ => .bad := rfl
@[simp] theorem e_cutT (dl dh : PSt → Rx (Option Int)) : dCutT da dl dh ps = (da ps).bind fun x => (dl ps).bind fun lo => (dh ps).bind fun hi => match x with
  | .tup xs => if HT.sIx xs.length 0 lo = 0 ∧ HT.sIx xs.length xs.length hi = xs.length then .bad else .ok (.tup (cutP xs lo hi))
  | _ => .bad := rfl
@[simp] theorem e_catT (xs ys : List PV) : fCatT (.tup xs) (.tup ys) = if xs ≠ [] ∧ xs.length + ys.length ≤ sizeLine then .ok (.tup (xs ++ ys)) else .bad := rfl
@[simp] theorem e_rep : dRep d db ps = (d ps).bind fun xs => (db ps).bind fun y => match y with
  | .int k => if 0 ≤ k ∧ k < 2 ^ 62 ∧ xs.length * k.toNat ≤ sizeLine then .ok (List.replicate k.toNat xs).flatten else .bad
  | _ => .bad := rfl
@[simp] theorem e_callW (g : List PV → Rx PV) : dCallW g d ps = (d ps).bind fun ws => (g ws).bind fun w => match w with | .lst xs => .ok xs | _ => .bad := rfl
end
end DN
end
section
set_option Elab.async false
set_option linter.all false
set_option maxRecDepth 100000
set_option maxHeartbeats 4000000
namespace L2
open PySem PySem.Spec PyProof.Rows
section
variable {X : Cx} {pins : List (Addr × Obj)} {σ : St} {H : Hp} {s s1 : Shared} {scope : Scope} {own : List Str} {caps : List (Str × Nat)} {fp : List Addr}
end
end L2
namespace DN
open PySem PySem.Spec PyProof.Rows L2
section
variable {X : Cx} {G : Pg} {e a b o tg : Expr} {es : List Expr} {da db : DP} {d : DA} {dm : DM} {ds du : DS} {pos p apos cpos : Pos} {x m : Str} {k i : Nat} {ms : List Bool}
mutual
def PV.data : PV → Bool
  | .obj _ _ => false
  | .dic _ _ => false
  | .clo _ _ => false
  | .tup xs => pdata xs
  | .lst xs => pdata xs
  | .dit _ _ => false
  | _ => true
def pdata : List PV → Bool
  | [] => true
  | x :: xs => x.data && pdata xs
end
end
end DN
end
section
set_option Elab.async false
set_option linter.all false
set_option maxRecDepth 100000
set_option maxHeartbeats 4000000
namespace DN
open PySem PySem.Spec PyProof.Rows L2
/-! ### instances that are made by an __init__ with a body of its own -/
theorem putF_new {f : Str} {v : V} : ∀ {ns : List Str} {vs : List V}, f ∉ ns → ns.length = vs.length → putF f v (ns.zip vs) = (ns ++ [f]).zip (vs ++ [v])
  | [], [], _, _ => rfl
  | [], _ :: _, _, h => by simp at h
  | _ :: _, [], _, h => by simp at h
  | n :: ns, u :: vs, h, l => by
    have h1 : n ≠ f := fun z => h (by rw [z]; exact List.mem_cons_self)
    rw [List.zip_cons_cons]
    show (if n = f then _ else _) = _
    rw [if_neg h1, putF_new (fun z => h (List.mem_cons_of_mem _ z)) (by simpa using l)]
    rfl
theorem zip_at {f : Str} : ∀ {ns : List Str} {vs : List V} {j : Nat} {v : V}, ns.Nodup → ns[j]? = some f → vs[j]? = some v → (ns.zip vs).lookup f = some v
  | [], _, _, _, _, h, _ => by simp at h
  | _ :: _, [], _, _, _, _, h => by simp at h
  | n :: ns, u :: vs, 0, v, nd, h1, h2 => by
    simp at h1 h2
    subst h1; subst h2
    rw [List.zip_cons_cons, List.lookup_cons]; simp
  | n :: ns, u :: vs, j + 1, v, nd, h1, h2 => by
    have h1 : ns[j]? = some f := by simpa using h1
    have h2 : vs[j]? = some v := by simpa using h2
    have hne : f ≠ n := fun z => (List.nodup_cons.mp nd).1 (by rw [← z]; exact List.mem_of_getElem? h1)
    have hb : (f == n) = false := by simpa using hne
    rw [List.zip_cons_cons, List.lookup_cons, hb]
    exact zip_at (List.nodup_cons.mp nd).2 h1 h2
theorem putF_at {f : Str} {v : V} : ∀ {ns : List Str} {vs : List V} {j : Nat}, ns.Nodup → ns[j]? = some f → ns.length = vs.length → putF f v (ns.zip vs) = ns.zip (vs.set j v)
  | [], _, _, _, h, _ => by simp at h
  | _ :: _, [], _, _, _, h => by simp at h
  | n :: ns, u :: vs, 0, nd, h1, l => by
    simp at h1
    subst h1
    rw [List.zip_cons_cons]
    show (if n = n then _ else _) = _
    rw [if_pos rfl]; rfl
  | n :: ns, u :: vs, j + 1, nd, h1, l => by
    have h1 : ns[j]? = some f := by simpa using h1
    have hne : n ≠ f := fun z => (List.nodup_cons.mp nd).1 (by rw [z]; exact List.mem_of_getElem? h1)
    rw [List.zip_cons_cons]
    show (if n = f then _ else _) = _
    rw [if_neg hne, putF_at (List.nodup_cons.mp nd).2 h1 (by simpa using l)]; rfl
section
variable {X : Cx} {G : Pg} {e a b o tg : Expr} {es : List Expr} {da db : DP} {d : DA} {dm : DM} {ds du : DS} {pos p apos cpos : Pos} {x m : Str} {k i : Nat} {ms : List Bool}
def fldO (l : List (Nat × Nat)) (k : Nat) (xs : List PV) : Rx PV := match l.lookup k with | some j => (match xs[j]? with | some w => .ok w | none => .bad) | none => .bad
/-- x.f, x a name: a thing of one's own, lent, or being made -/
def dFldI (l : List (Nat × Nat)) (i : Nat) : DP := fun ps => match ps[i]? with
  | some (.ino (.obj k xs)) => fldO l k xs
  | some (.own (.obj k xs)) => fldO l k xs
  | some (.bor (.obj k xs)) => fldO l k xs
  | some (.ini k xs) => fldO l k xs
  | some (.v (.obj k xs)) => fldO l k xs
  | _ => .bad
theorem fldO_ok {l : List (Nat × Nat)} {k : Nat} {xs : List PV} {w : PV} (h : fldO l k xs = .ok w) : ∃ j, l.lookup k = some j ∧ xs[j]? = some w := by
  unfold fldO at h
  split at h
  · rename_i j hj
    split at h
    · rename_i w' hw; cases h; exact ⟨j, hj, hw⟩
    · cases h
  · cases h
theorem p_fldI {f : Str} {l : List (Nat × Nat)} (i : Nat) (ok : FldOk X.K G f l) (hN : X.N[i]? = some x := by rfl) (hv : Vis X.env.scope x := by first | exact Or.inl rfl | exact Or.inr (Or.inl rfl) | exact Or.inr (Or.inr rfl)) (hd : (x == ("__debug__" : Str)) = false := by decide)
    (hcd : (x == ("__classdict__" : Str)) = false := by decide) (hb : attributeBase (.Name x p) f X.env (eval (.Name x p) X.env) = eval (.Name x p) X.env := by rfl) : JP X G (.Attribute (.Name x p) f pos) (dFldI l i) :=
  imp (pe_fld (pe_var hN hv hd hcd) hb) fun σ H Q ⟨c, ow, ps, w, R, e, q⟩ => by
    have full : ∀ {k : Nat} {xs : List PV} {p : Addr} {dx : Addr} {vs : List V}, fldO l k xs = .ok w → σ[i]? = some (some (.ref p)) → H p = some (.ins (G.cA k) dx ((G.fN k).zip vs)) → Reps X.K G H (av c ow) xs vs → tFld X.K (tVar i) f σ H Q := fun {k xs p dx vs} h hσ hH rs => by
      obtain ⟨j, hj, hw⟩ := fldO_ok h
      obtain ⟨c1, c2, c3, c4⟩ := ok.all k j hj
      obtain ⟨v, hv, rv⟩ := rs.get hw
      exact ⟨.ref p, hσ, p, _, dx, _, v, rfl, hH, c1, c2, zip_at c3 c4 hv, q v H (Same.refl H) rv⟩
    unfold dFldI at e
    split at e
    · rename_i k xs hx
      obtain ⟨o', eo, _, _, pp, e2, _, dx, vs, hH, hl, rs⟩ := R.get hx
      rw [e2] at eo
      exact full e eo hH rs
    · rename_i k xs hx
      obtain ⟨pp, e1, e2, dx, vs, hH, hl, rs⟩ := R.getO hx
      exact full e e2 hH rs
    · rename_i k xs hx
      obtain ⟨o', eo, _, v, e2, r⟩ := R.get hx
      rw [e2] at eo
      have rb : RepB X.K G H (av c ow) (.obj k xs) v := by
        rcases r with r | ⟨y, pp, z1, z2, z3, _⟩
        · exact .inl r
        · exact .inr ⟨y, pp, z1, z2, z3⟩
      obtain ⟨aa, dx, vs, rfl, hH, hl, rs⟩ := rb.obj
      exact full e eo hH rs
    · rename_i k xs hx
      obtain ⟨o', eo, _, _, pp, e2, _, dx, vs, hH, hl, rs⟩ := R.get hx
      rw [e2] at eo
      obtain ⟨j, hj, hw⟩ := fldO_ok e
      obtain ⟨c1, c2, c3, c4⟩ := ok.all k j hj
      obtain ⟨v, hv, rv⟩ := rs.get hw
      have hlt : j < xs.length := (List.getElem?_eq_some_iff.mp hw).1
      have c4' : ((G.fN k).take xs.length)[j]? = some f := by rw [List.getElem?_take_of_lt hlt]; exact c4
      exact ⟨.ref pp, eo, pp, _, dx, _, v, rfl, hH, c1, c2, zip_at (c3.sublist (List.take_sublist _ _)) c4' hv, q v H (Same.refl H) rv⟩
    · rename_i k xs hx
      obtain ⟨v, ev, aa, dx, vs, rfl, hH, hl, na, rs⟩ := R.getV hx
      exact full e ev hH rs
    · cases e
/-- self.f = e in an __init__, the j-th attribute -/
def sIni (k j : Nat) (d : DP) : DS := fun ps => match ps[(0 : Nat)]? with
  | some (.ini k' xs) => if k' = k ∧ xs.length = j then (d ps).st fun w => .nx (ps.set 0 (.ini k (xs ++ [w]))) else .bad
  | _ => .bad
theorem s_ini {f : Str} {j : Nat} (k : Nat) (cl : Cls X.K (G.cA k)) (na : NoAttr X.K (G.cA k) f) (nd : (G.fN k).Nodup) (hf : (G.fN k)[j]? = some f) (hsm : (G.fN k).length < 1000) (he : JP X G e da) (hN : X.N[0]? = some x := by rfl) (hv : Vis X.env.scope x := by first | exact Or.inl rfl | exact Or.inr (Or.inl rfl) | exact Or.inr (Or.inr rfl))
    (hd : (x == ("__debug__" : Str)) = false := by decide) (hcd : (x == ("__classdict__" : Str)) = false := by decide) (hs : swapsWith e (some (.Attribute (.Name x p) f apos)) pos.line X.env = pure false := by rfl) :
    JS X G (.Assign [.Attribute (.Name x p) f apos] e pos) (sIni k j da) := impS (ps_fld (pe_var hN hv hd hcd) he hs) fun D σ H ⟨c, ow, ps, R, q⟩ => by
  unfold sIni at q
  split at q
  · rename_i k' xs hx
    split at q
    · rename_i hk
      obtain ⟨rfl, rfl⟩ := hk
      obtain ⟨w, e1, q⟩ := ends_st q
      refine ⟨c, ow, ps, w, R, e1, fun v H1 s1 r1 => ?_⟩
      have R1 := R.grow s1
      obtain ⟨o', eo, z1, z2, pp, e2, el, dx, vs, hH, hl, rs⟩ := R1.get hx
      rw [e2] at eo
      have hlt : xs.length < (G.fN k').length := (List.getElem?_eq_some_iff.mp hf).1
      have hlen : ((G.fN k').take xs.length).length = vs.length := by rw [List.length_take, ← rs.len]; omega
      have hfe : (G.fN k')[xs.length] = f := by
        have := List.getElem?_eq_getElem hlt
        rw [this] at hf
        exact Option.some.inj hf
      have htk : (G.fN k').take (xs.length + 1) = (G.fN k').take xs.length ++ [f] := by rw [List.take_succ_eq_append_getElem hlt, hfe]
      have hnot : f ∉ (G.fN k').take xs.length := fun z => by
        have nd' := nd.sublist (List.take_sublist (xs.length + 1) (G.fN k'))
        rw [htk] at nd'
        exact (List.nodup_append.mp nd').2.2 f z f (by simp) rfl
      have hput := putF_new (v := v) hnot hlen
      refine ⟨.ref pp, eo, pp, _, dx, _, rfl, hH, cl, na, ?_, ?_⟩
      · rw [List.length_zip, hlen, Nat.min_self, ← rs.len]; omega
      · have mD : Mt (HO.ins (G.cA k') dx (((G.fN k').take xs.length).zip vs)) := And.intro (fun _ z => by cases z) (fun _ _ z => by cases z)
        have k0 : Kp X.K G H1 (av c ow) (upd H1 pp (.ins (G.cA k') dx (putF f v (((G.fN k').take xs.length).zip vs)))) (av c ow) := Kp.own (.inl (R1.lent pp el).1) hH mD
        have := R1.chgL (s' := .ini k' (xs ++ [w])) (u := .ins (G.cA k') dx (putF f v (((G.fN k').take xs.length).zip vs))) hx el hH mD fun v' hv' => by
          rw [eo] at hv'
          cases hv'
          refine ⟨z1, rfl, pp, rfl, el, dx, vs ++ [v], ?_, ?_, k0.reps (rs.snoc r1)⟩
          · rw [upd_same, hput, List.length_append, List.length_singleton, htk]
          · rw [List.length_append, List.length_singleton]; omega
        exact q _ _ ow this.1 ((Kp.of_same s1).trans this.2)
    · exact q.elim
  · exact q.elim
end
/-! ### the __init__ as a function of its arguments -/
def inI (k : Nat) (ms : List Bool) (n : Nat) (ws : List PV) : PSt := .ini k [] :: inP ms (n - 1) ws
def runI (k nf : Nat) (ms : List Bool) (n : Nat) (d : DS) (ws : List PV) : Rx PV := if ws.length = ms.length then (match d (inI k ms n ws) with
  | .nx ps => (match ps[(0 : Nat)]? with | some (.ini k' fs) => if k' = k ∧ fs.length = nf then .ok (.obj k fs) else .bad | _ => .bad)
  | .exc c => .exc c
  | _ => .bad) else .bad
def spIn (K : PySem.W.Frag) (G : Pg) (k : Nat) (ms : List Bool) (g : List PV → Rx PV) : Sp := fun vs H Q _ => ∃ (A : Av) (H1 : Hp) (ws : List PV) (x dx : Addr) (us : List V) (fs : List PV), vs = .ref x :: us ∧ H x = some (.ins (G.cA k) dx []) ∧ H1 x = none ∧ Same H1 H ∧ Used H1 A ∧ RepM K G H1 A ms ws us ∧ g ws = .ok (.obj k fs) ∧
  ∀ H' dx' vs', Same H1 H' → H' x = some (.ins (G.cA k) dx' ((G.fN k).zip vs')) → (G.fN k).length = vs'.length → Reps K G H' (fun a => A a ∨ a = x) fs vs' → Q .non H'
theorem RepF.keep {K : PySem.W.Frag} {G : Pg} {H H' : Hp} {A A' B : Av} {ps : PSt} {σ : L2.St} (R : RepF K G B H A ps σ) (k : Kp K G H A H' A') (e : ∀ p, B p → H' p = H p) : RepF K G B H' A' ps σ := by
  refine ⟨R.len, fun i s o h1 h2 => ?_⟩
  have q := R.slot i s o h1 h2
  cases s with
  | no => exact True.intro
  | v w => obtain ⟨v, e, r⟩ := q; exact ⟨v, e, k.rep r⟩
  | own x => exact q.elim
  | ino x => exact q.elim
  | ini k xs => exact q.elim
  | dol ks xss => exact q.elim
  | als d j => exact q.elim
  | bor w =>
    obtain ⟨v, e1, r⟩ := q
    refine ⟨v, e1, ?_⟩
    rcases r with r | ⟨x, p, e1, e2, r, n⟩
    · exact .inl (k.rep r)
    · exact .inr ⟨x, p, e1, e2, r.keep k (e p n), n⟩
theorem RepF.cons {K : PySem.W.Frag} {G : Pg} {H : Hp} {A B : Av} {ps : PSt} {σ : L2.St} {s : Sl} {v : V} {x : Addr} (R : RepF K G B H A ps σ) (u : Used H A) (ub : ∀ a, B a → H a ≠ none ∧ a ≠ x) (hx : A x) (hs : SlAt K G ⟨H, A, B, some x⟩ (ps.length + 1) H (av ⟨H, A, B, some x⟩ ow0) ow0 0 s (some v)) : RepS K G ⟨H, A, B, some x⟩ H ow0 (s :: ps) (some v :: σ) := by
  refine ⟨by simp [R.len], SmL.of (Same.refl H), (fun p e => ?_), u, (fun a z => ⟨(ub a z).1, fun e => (ub a z).2 (Option.some.inj e).symm⟩), (fun i p e => (nomatch e)), (fun i j p e => (nomatch e)), (fun _ _ e => (nomatch e)), fun i s' o e1 e2 => ?_⟩
  · cases e; exact ⟨hx, u x hx⟩
  · cases i with
    | zero => simp at e1 e2; subst e1; subst e2; exact hs
    | succ i =>
      have q := R.slot i s' o (by simpa using e1) (by simpa using e2)
      have k : Kp K G H A H (av ⟨H, A, B, some x⟩ ow0) := Kp.weak fun a z => av0 a z
      cases s' with
      | no => rfl
      | v w => obtain ⟨v, e, r⟩ := q; exact ⟨rfl, v, e, k.rep r⟩
      | own x => exact q.elim
      | ino x => exact q.elim
      | ini k xs => exact q.elim
      | dol ks xss => exact q.elim
      | als d j => exact q.elim
      | bor w =>
        obtain ⟨v, e, r⟩ := q
        refine ⟨rfl, v, e, ?_⟩
        rcases r with r | ⟨x, p, e1, e2, r, n⟩
        · exact .inl (k.rep r)
        · exact .inr ⟨x, p, e1, e2, r.keep k rfl, n⟩
theorem start_cons {N : List Str} {v : V} {us : List V} (h : 0 < N.length) : L2.start N (v :: us) = some v :: L2.start N.tail us := by
  unfold L2.start
  cases N with
  | nil => simp at h
  | cons n N => simp
theorem fn_okI {P : Program} {w : World} {K : PySem.W.Frag} {mg : Str → Option Value} {base : Bs} {G : Pg} {x qual : Str} {st : Stmt} {f : Addr} {fd : FuncData} {N ps : List Str} {k c nf : Nat} {ms : List Bool} {d : DS} (F : Fun K x qual st f fd) (S : FnScope N ps (defScope st)) (hm : ms.length + 1 = ps.length) (hn : 0 < N.length) (hnf : (G.fN c).length = nf)
    (hb : ∀ (cdv : Value) (A : Around) (outer : List Env) (s : Shared) (H : Hp) (E : XK), Room k (A.deeper (envOfC qual (defScope st) s.heap.objs.size f cdv)) → JSs (cxOf CX0 P w K mg base N qual (defScope st) f cdv A outer s H E).nox G (defBody st) d) :
    FnOk P w K mg base CX0 (k + 1) f fd ps (spIn K G c ms (runI c nf ms N.length d)) := by
  refine F.ok S (fun vs H Q E h => ?_) (fun cdv A outer s H vs Q E hr h => ?_)
  · obtain ⟨A, H1, ws, xa, dx, us, fs, rfl, _, _, _, _, r, _⟩ := h
    rw [List.length_cons, r.len.2, hm]
  · obtain ⟨A', H1, ws, xa, dx, us, fs, rfl, hx, hx1, sm, u, r, e, q⟩ := h
    refine ⟨_, hb cdv A outer s H E hr, ?_⟩
    have hlen : N.tail.length = N.length - 1 := List.length_tail
    have F0 := in_rep (N := N.tail) r
    rw [hlen] at F0
    have nx : ∀ a, H1 a ≠ none → a ≠ xa := fun a z y => z (by rw [y]; exact hx1)
    have kp : Kp K G H1 A' H (fun a => A' a ∨ a = xa) := Kp.take hx1 sm fun a z => z.symm
    have F1 : RepF K G (fun p => H1 p ≠ none) H (fun a => A' a ∨ a = xa) (inP ms (N.length - 1) ws) (L2.start N.tail us) := F0.keep kp fun p hp => by
      cases e1 : H1 p with
      | none => exact absurd e1 hp
      | some o => exact sm _ _ e1
    have us' : Used H (fun a => A' a ∨ a = xa) := fun a z => by
      rcases z with z | z
      · cases e1 : H1 a with
        | none => exact absurd e1 (u a z)
        | some o => rw [sm _ _ e1]; simp
      · rw [z, hx]; simp
    have S0 := F1.cons (s := .ini c []) (v := .ref xa) (x := xa) us' (fun a z => ⟨by
      cases e1 : H1 a with
      | none => exact absurd e1 z
      | some o => rw [sm _ _ e1]; simp, nx a z⟩) (.inr rfl) ⟨rfl, rfl, xa, rfl, rfl, dx, [], by rw [hx]; rfl, Nat.zero_le _, rfl⟩
    rw [start_cons hn]
    refine ⟨_, ow0, inI c ms N.length ws, S0, ?_⟩
    unfold runI at e
    rw [if_pos r.len.1] at e
    cases ed : d (inI c ms N.length ws) with
    | nx ps' =>
      rw [ed] at e
      have e : (match ps'[(0 : Nat)]? with | some (.ini k' fs) => if k' = c ∧ fs.length = nf then Rx.ok (PV.obj c fs) else .bad | _ => .bad) = .ok (.obj c fs) := e
      split at e
      · rename_i k' fs' hp0
        split at e
        · rename_i hk
          cases e
          obtain ⟨rfl, hfl⟩ := hk
          intro σ' H' ow' R' _
          obtain ⟨o', eo, z1, z2, pp, e2, el, dx', vs', hH, hl, rs⟩ := R'.get hp0
          cases el
          refine q H' dx' vs' (fun a o h => ?_) ?_ ?_ ((Kp.weak fun a z => Or.inl z).reps rs)
          · exact R'.same a o (sm _ _ h) (fun z => nx a (by rw [h]; simp) (Option.some.inj z).symm)
          · rw [hH, List.take_of_length_le (by rw [hfl, hnf]; exact Nat.le_refl _)]
          · rw [hnf, ← hfl, rs.len]
        · cases e
      · cases e
    | ret w2 => rw [ed] at e; cases e
    | retn xs => rw [ed] at e; cases e
    | reti w x => rw [ed] at e; cases e
    | brk _ => rw [ed] at e; cases e
    | cnt _ => rw [ed] at e; cases e
    | bad => rw [ed] at e; cases e
    | exc _ => rw [ed] at e; cases e
/-! ### C(..) -/
structure NewI (P : Program) (w : World) (K : PySem.W.Frag) (mg : Str → Option Value) (base : Bs) (G : Pg) (k : Nat) (x : Str) (c : Nat) (ms : List Bool) (g : List PV → Rx PV) : Prop where
  glob : mg x = some (.ref (G.cA c))
  cl : Cls K (G.cA c)
  ex : ∃ (f : Addr) (fd : FuncData) (ps : List Str), Mk K (G.cA c) f ∧ FnOk P w K mg base CX0 k f fd ps (spIn K G c ms g) ∧ Binds K fd ps []
section
variable {X : Cx} {G : Pg} {e a b o tg : Expr} {es : List Expr} {da db : DP} {d : DA} {pos p : Pos} {x : Str} {k i c : Nat} {ms : List Bool} {g : List PV → Rx PV}
theorem pe_newI {t : TA} (h : NewI X.prog X.w X.K X.mg X.base G k x c ms g) (hr : Room (k + 1) X.A) (hg : Gl X x) (ha : PA X (e :: es) t) (hdb : (x == ("__debug__" : Str)) = false := by decide)
    (he : starEach (e :: es) X.env = (false, eval e X.env) :: starEach es X.env := by rfl) (hpl : (backTo pos (starEach es X.env)).any (·.1) = false := by rfl) : PE X (.Call (.Name x p) (e :: es) [] pos) (tMake (G.cA c) (spIn X.K G c ms g) [] E0 t) := by
  obtain ⟨f, fd, ps, M, F, hb⟩ := h.ex
  exact pe_make M F hr hg h.glob hb .nil pass0 ha hdb he hpl
theorem newI_of {H : Hp} {Q : VK} {cf : Fr} {ow : Ows} {ps : PSt} {σ : L2.St} {ws : List PV} {vs : List V} {fs : List PV} (R : RepS X.K G cf H ow ps σ) (r : RepM X.K G H (av cf ow) ms ws vs) (e : g ws = .ok (.obj c fs))
    (q : ∀ x dx us H', Same H H' → H x = none → H' x = some (.ins (G.cA c) dx ((G.fN c).zip us)) → (G.fN c).length = us.length → Reps X.K G H' (fun a => av cf ow a ∨ a = x) fs us → Q (.ref x) H') :
    ∀ x dx, H x = none → H dx = none → dx ≠ x → spIn X.K G c ms g (.ref x :: (vs ++ [])) (upd (upd H dx (.own x)) x (.ins (G.cA c) dx [])) (fun v H2 => v = .non ∧ Q (.ref x) H2) E0 := by
  intro x dx n1 n2 ne
  have sn : Same H (upd (upd H dx (.own x)) x (.ins (G.cA c) dx [])) := fun b o h => by rw [upd_ne (ne_of_none h n1), upd_ne (ne_of_none h n2)]; exact h
  exact ⟨av cf ow, H, ws, x, dx, vs, fs, by rw [List.append_nil], upd_same, n1, sn, R.used, r, e, fun H' dx' vs' s h1 h2 h3 => ⟨rfl, q x dx' vs' H' s n1 h1 h2 h3⟩⟩
theorem runI_obj {k nf n : Nat} {ms : List Bool} {d : DS} {ws : List PV} {w : PV} (h : runI k nf ms n d ws = .ok w) : ∃ fs, w = .obj k fs := by
  unfold runI at h
  split at h
  · split at h
    · split at h
      · split at h
        · cases h; exact ⟨_, rfl⟩
        · cases h
      · cases h
    · cases h
    · cases h
  · cases h
theorem spIn_none {P : Program} {w : World} {K : PySem.W.Frag} {mg : Str → Option Value} {base : Bs} {n : Nat} {f : Addr} {fd : FuncData} {ps : List Str} {g : List PV → Rx PV} (h : ∀ ws, g ws = .bad) : FnOk P w K mg base CX0 n f fd ps (spIn K G c ms g) :=
  fn_none fun vs H Q E ⟨A, H1, ws, x, dx, us, fs, _, _, _, _, _, _, e, _⟩ => by rw [h] at e; cases e
variable (ps : PSt)
@[simp] theorem e_ini (k j : Nat) : sIni k j da ps = match ps[(0 : Nat)]? with
  | some (.ini k' xs) => if k' = k ∧ xs.length = j then (da ps).st fun w => .nx (ps.set 0 (.ini k (xs ++ [w]))) else .bad
  | _ => .bad := rfl
@[simp] theorem e_fldI (l : List (Nat × Nat)) (i : Nat) : dFldI l i ps = match ps[i]? with
  | some (.ino (.obj k xs)) => fldP l (.obj k xs)
  | some (.own (.obj k xs)) => fldP l (.obj k xs)
  | some (.bor (.obj k xs)) => fldP l (.obj k xs)
  | some (.ini k xs) => fldP l (.obj k xs)
  | some (.v (.obj k xs)) => fldP l (.obj k xs)
  | _ => .bad := rfl
end
end DN
end
section
set_option Elab.async false
set_option linter.all false
set_option maxRecDepth 100000
set_option maxHeartbeats 4000000
namespace DN
open PySem PySem.Spec PyProof.Rows L2
/-- all but what stands at p stays -/
def SameX (p : Addr) (H H' : Hp) : Prop := ∀ a o, H a = some o → a ≠ p → H' a = some o
section
variable {K : PySem.W.Frag} {G : Pg} {H H' : Hp} {A A' : Av} {c : Fr} {ow : Ows} {ps : PSt} {σ : L2.St}
theorem Kp.sameX {p : Addr} {o : HO} (s : SameX p H H') (hA : A p) (hp : H p = some o) (m : Mt o) : Kp K G H A H' A :=
  ⟨fun a x h n => s a x h fun z => n (z ▸ hA), fun a vs h => s a _ h fun z => m.1 vs (by subst z; rw [hp] at h; exact Option.some.inj h), fun a o' u h => s a _ h fun z => m.2 o' u (by subst z; rw [hp] at h; exact Option.some.inj h), fun a _ h => h⟩
theorem RepS.extO (R : RepS K G c H ow ps σ) {i : Nat} {x y : Ow} {p : Addr} (e : ps[i]? = some (.own x)) (ep : ow i = some p) (s : SameX p H H') (r : RepO K G H' (av c ow) y p) :
    RepS K G c H' ow (ps.set i (.own y)) σ ∧ Kp K G H (av c ow) H' (av c ow) := by
  obtain ⟨p', e1, e2, r1⟩ := R.getO e
  rw [ep] at e1; cases e1
  obtain ⟨o, eo, m⟩ := r1.at
  have k : Kp K G H (av c ow) H' (av c ow) := Kp.sameX s (.inr ⟨i, ep⟩) eo m
  have np0 := R.fresh i p ep
  have sm : SmL c H' := fun b o' h n => s b o' (R.same b o' h n) (by intro z; subst z; rw [np0] at h; cases h)
  have npl : ∀ q, c.lx = some q → q ≠ p := fun q h z => by
    subst z
    exact absurd np0 (R.a0 q (R.lent q h).1)
  have keepAt : ∀ {q : Addr} {o' : HO}, H q = some o' → q ≠ p → H' q = H q := fun {q o'} h n => by rw [s q o' h n, h]
  have us : ∀ j q, j ≠ i → ow j = some q → H' q = H q := fun j q hj h => by
    cases e5 : H q with
    | none => exact absurd e5 (R.used q (.inr ⟨j, h⟩))
    | some o' => exact s q o' e5 (by intro z; subst z; exact hj (R.inj j i q h ep))
  have ul : ∀ q, c.lx = some q → H' q = H q := fun q h => by
    cases e5 : H q with
    | none => exact absurd e5 (R.lent q h).2
    | some o' => exact s q o' e5 (npl q h)
  have hl : i < ps.length := (List.getElem?_eq_some_iff.mp e).1
  refine ⟨⟨by simp [R.len], sm, fun q h => ⟨(R.lent q h).1, by rw [ul q h]; exact (R.lent q h).2⟩, R.a0, R.b0, R.fresh, R.inj, fun j q h => ?_, fun j z o' h1 h2 => ?_⟩, k⟩
  · rw [List.length_set]
    by_cases hj : j = i
    · left; rw [hj]; exact hl
    · rcases R.out j q h with z | z
      · exact .inl z
      · right; rw [us j q hj h]; exact z
  · rw [List.length_set]
    by_cases hj : j = i
    · subst hj
      rw [List.getElem?_set_self hl] at h1
      cases h1
      rw [e2] at h2; cases h2
      exact ⟨p, ep, rfl, r⟩
    · rw [List.getElem?_set_ne (fun z => hj z.symm)] at h1
      exact (R.slot j z o' h1 h2).keep R.b0 R.same sm k rfl (fun _ _ _ h => h) (fun q h => us j q hj h) (fun jj q _ h => us _ q (by unfold vx; omega) h) ul
theorem RepS.extL (R : RepS K G c H ow ps σ) {s s' : Sl} {p : Addr} {o : HO} (e : ps[0]? = some s) (hl : c.lx = some p) (hp : H p = some o) (m : Mt o) (sx : SameX p H H') (hp' : H' p ≠ none) (r : ∀ v, σ[0]? = some v → SlAt K G c ps.length H' (av c ow) ow 0 s' v) :
    RepS K G c H' ow (ps.set 0 s') σ ∧ Kp K G H (av c ow) H' (av c ow) := by
  have hA := (R.lent p hl).1
  have k : Kp K G H (av c ow) H' (av c ow) := Kp.sameX sx (.inl hA) hp m
  have sm : SmL c H' := fun b o' h n => sx b o' (R.same b o' h n) (by intro z; subst z; exact n hl)
  have us : ∀ j q, ow j = some q → H' q = H q := fun j q h => by
    cases e5 : H q with
    | none => exact absurd e5 (R.used q (.inr ⟨j, h⟩))
    | some o' => exact sx q o' e5 (by intro z; subst z; exact absurd (R.fresh j q h) (R.a0 q hA))
  refine ⟨⟨by simp [R.len], sm, fun q h => ⟨(R.lent q h).1, ?_⟩, R.a0, R.b0, R.fresh, R.inj, fun j q h => ?_, fun j z o' h1 h2 => ?_⟩, k⟩
  · rw [hl] at h; cases h; exact hp'
  · rw [List.length_set]
    rcases R.out j q h with z | z
    · exact .inl z
    · right; rw [us j q h]; exact z
  · rw [List.length_set]
    by_cases hj : j = 0
    · subst hj
      have hlt : 0 < ps.length := (List.getElem?_eq_some_iff.mp e).1
      rw [List.getElem?_set_self hlt] at h1
      cases h1
      exact r o' h2
    · rw [List.getElem?_set_ne (fun z => hj z.symm)] at h1
      have q := R.slot j z o' h1 h2
      cases z with
      | no => exact q
      | v w' => obtain ⟨z, v', e3, r'⟩ := q; exact ⟨z, v', e3, k.rep r'⟩
      | own y' => obtain ⟨p', e3, e4, r'⟩ := q; exact ⟨p', e3, e4, r'.keep k (us j p' e3)⟩
      | bor w => obtain ⟨z, v', e3, r'⟩ := q; exact ⟨z, v', e3, bor_keep R.b0 R.same sm k r'⟩
      | ino y => exact absurd q.2.1 hj
      | ini kk xs => exact absurd q.2.1 hj
      | dol ks xss =>
        obtain ⟨p', qs, e1, e2, hp', l1, l2, l3, h⟩ := q
        refine ⟨p', qs, e1, e2, by rw [us j p' e1]; exact hp', l1, l2, l3, fun jj q xs h1 h2 => ?_⟩
        obtain ⟨h3, h4⟩ := h jj q xs h1 h2
        exact ⟨h3, h4.keep k (us _ q h3)⟩
      | als d jj => exact q
end
/-! ### defs that change the instance they are lent -/
def spO (K : PySem.W.Frag) (G : Pg) (ms : List Bool) (g : List PV → Rx PV) : Sp := fun vs H Q _ => ∃ (A : Av) (H1 : Hp) (p : Addr) (k : Nat) (xs ws : List PV) (us : List V) (w : PV) (k' : Nat) (xs' : List PV), vs = .ref p :: us ∧ A p ∧ H1 p = none ∧ Same H1 H ∧ Used H A ∧ RepO K G H A (.obj k xs) p ∧ RepM K G H1 A ms ws us ∧
  g (.obj k xs :: ws) = .ok (.tup [w, .obj k' xs']) ∧ ∀ v H', SameX p H H' → RepO K G H' A (.obj k' xs') p → Rep K G H' A w v → Q v H'
def inO (x : Ow) (ms : List Bool) (n : Nat) (ws : List PV) : PSt := .ino x :: inP ms (n - 1) ws
def finO : Rs → Rx PV
  | .reti w x => .ok (.tup [w, x.pv])
  | .nx ps => (match ps[(0 : Nat)]? with | some (.ino x) => .ok (.tup [.non, x.pv]) | _ => .bad)
  | .exc c => .exc c
  | _ => .bad
def runO (ms : List Bool) (n : Nat) (d : DS) : List PV → Rx PV
  | .obj k xs :: ws => if ws.length = ms.length then finO (d (inO (.obj k xs) ms n ws)) else .bad
  | _ => .bad
theorem pv_obj {x : Ow} {k : Nat} {xs : List PV} (h : x.pv = .obj k xs) : x = .obj k xs := by
  cases x <;> cases h; rfl
theorem fn_okO {P : Program} {w : World} {K : PySem.W.Frag} {mg : Str → Option Value} {base : Bs} {G : Pg} {x qual : Str} {st : Stmt} {f : Addr} {fd : FuncData} {N ps : List Str} {k : Nat} {ms : List Bool} {d : DS} (F : Fun K x qual st f fd) (S : FnScope N ps (defScope st)) (hm : ms.length + 1 = ps.length) (hn : 0 < N.length)
    (hb : ∀ (cdv : Value) (A : Around) (outer : List Env) (s : Shared) (H : Hp) (E : XK), Room k (A.deeper (envOfC qual (defScope st) s.heap.objs.size f cdv)) → JSs (cxOf CX0 P w K mg base N qual (defScope st) f cdv A outer s H E).nox G (defBody st) d) :
    FnOk P w K mg base CX0 (k + 1) f fd ps (spO K G ms (runO ms N.length d)) := by
  refine F.ok S (fun vs H Q E h => ?_) (fun cdv A outer s H vs Q E hr h => ?_)
  · obtain ⟨A, H1, p, k0, xs, ws, us, w, k', xs', rfl, _, _, _, _, _, r, _⟩ := h
    rw [List.length_cons, r.len.2, hm]
  · obtain ⟨A', H1, p, k0, xs, ws, us, w', k', xs', rfl, hA, hp1, sm, u, ro, r, e, q⟩ := h
    refine ⟨_, hb cdv A outer s H E hr, ?_⟩
    have hlen : N.tail.length = N.length - 1 := List.length_tail
    have F0 := in_rep (N := N.tail) r
    rw [hlen] at F0
    have F1 : RepF K G (fun p => H1 p ≠ none) H A' (inP ms (N.length - 1) ws) (L2.start N.tail us) := F0.keep (Kp.of_same sm) fun p hp => by
      cases e1 : H1 p with
      | none => exact absurd e1 hp
      | some o => exact sm _ _ e1
    have S0 := F1.cons (s := .ino (.obj k0 xs)) (v := .ref p) (x := p) u (fun a z => ⟨by
      cases e1 : H1 a with
      | none => exact absurd e1 z
      | some o => rw [sm _ _ e1]; simp, fun y => z (by rw [y]; exact hp1)⟩) hA ⟨rfl, rfl, p, rfl, rfl, ro.keep (Kp.weak fun a z => av0 a z) rfl⟩
    rw [start_cons hn]
    refine ⟨_, ow0, inO (.obj k0 xs) ms N.length ws, S0, ?_⟩
    have e : (if ws.length = ms.length then finO (d (inO (.obj k0 xs) ms N.length ws)) else .bad) = .ok (.tup [w', .obj k' xs']) := e
    rw [if_pos r.len.1] at e
    have sx : ∀ {H' : Hp}, SmL ⟨H, A', fun p => H1 p ≠ none, some p⟩ H' → SameX p H H' := fun {H'} s a o h n => s a o h fun z => n (Option.some.inj z).symm
    cases ed : d (inO (.obj k0 xs) ms N.length ws) with
    | reti w2 x2 =>
      rw [ed] at e
      have e : Rx.ok (PV.tup [w2, x2.pv]) = .ok (.tup [w', .obj k' xs']) := e
      injection e with e
      injection e with e
      injection e with e1 e2
      injection e2 with e2 _
      subst e1
      have := pv_obj e2
      subst this
      intro v H' pp s hl ro' rw'
      cases hl
      exact q v H' (sx s) ro' rw'
    | nx ps' =>
      rw [ed] at e
      have e : (match ps'[(0 : Nat)]? with | some (.ino x) => Rx.ok (PV.tup [.non, x.pv]) | _ => .bad) = .ok (.tup [w', .obj k' xs']) := e
      split at e
      · rename_i x2 hp0
        injection e with e
        injection e with e
        injection e with e1 e2
        injection e2 with e2 _
        subst e1
        have := pv_obj e2
        subst this
        intro σ' H' ow' R' _
        obtain ⟨o', eo, z1, z2, pp, e2, el, ro'⟩ := R'.get hp0
        cases el
        exact q .non H' (sx R'.same) (ro'.keep (Kp.weak fun a z => Or.inl z) rfl) rfl
      · cases e
    | ret w2 => rw [ed] at e; cases e
    | retn xs => rw [ed] at e; cases e
    | brk _ => rw [ed] at e; cases e
    | cnt _ => rw [ed] at e; cases e
    | bad => rw [ed] at e; cases e
    | exc _ => rw [ed] at e; cases e
theorem spO_none {P : Program} {w : World} {K : PySem.W.Frag} {mg : Str → Option Value} {base : Bs} {G : Pg} {ms : List Bool} {n : Nat} {f : Addr} {fd : FuncData} {ps : List Str} {g : List PV → Rx PV} (h : ∀ ws, g ws = .bad) : FnOk P w K mg base CX0 n f fd ps (spO K G ms g) :=
  fn_none fun vs H Q E ⟨A, H1, p, k, xs, ws, us, w, k', xs', _, _, _, _, _, _, _, e, _⟩ => by rw [h] at e; cases e
structure MtO (P : Program) (w : World) (K : PySem.W.Frag) (mg : Str → Option Value) (base : Bs) (G : Pg) (k : Nat) (m : Str) (ms : List Bool) (tab : List (Nat × Nat)) (g : Nat → List PV → Rx PV) : Prop where
  all : ∀ c f, tab.lookup c = some f → MethAt P w K mg base CX0 k (G.cA c) m (spO K G ms (g f)) ∧ m ∉ G.fN c
section
variable {X : Cx} {G : Pg} {e a b o tg : Expr} {es : List Expr} {da db : DP} {d : DA} {dm : DM} {dma : DMA} {ds du : DS} {dt : DT} {pos p apos cpos : Pos} {x m : Str} {k i : Nat} {ms : List Bool}
def objAt (ps : PSt) (i : Nat) : Option (Nat × List PV) := match ps[i]? with
  | some (.own (.obj k xs)) => some (k, xs)
  | some (.ino (.obj k xs)) => some (k, xs)
  | _ => none
def putO (ps : PSt) (i k : Nat) (xs : List PV) : PSt := match ps[i]? with
  | some (.own _) => ps.set i (.own (.obj k xs))
  | _ => ps.set i (.ino (.obj k xs))
def resO (ps : PSt) (i : Nat) : PV → Rx (PV × PSt)
  | .tup [w, .obj k xs] => .ok (w, putO ps i k xs)
  | _ => .bad
/-- x.m(..), x a name in slot i -/
def mMethO (tab : List (Nat × Nat)) (g : Nat → List PV → Rx PV) (i : Nat) (d : DA) : DM := fun ps => match objAt ps i with
  | some (k, xs) => (match tab.lookup k with | some f => (d ps).bind fun ws => (g f (.obj k xs :: ws)).bind (resO ps i) | none => .bad)
  | none => .bad
theorem objAt_get {c : Fr} {ow : Ows} {ps : PSt} {σ : L2.St} {H : Hp} {k : Nat} {xs : List PV} (R : RepS X.K G c H ow ps σ) (h : objAt ps i = some (k, xs)) : ∃ p, σ[i]? = some (some (.ref p)) ∧ av c ow p ∧ RepO X.K G H (av c ow) (.obj k xs) p ∧
    ∀ H' k' xs', SameX p H H' → RepO X.K G H' (av c ow) (.obj k' xs') p → RepS X.K G c H' ow (putO ps i k' xs') σ ∧ Kp X.K G H (av c ow) H' (av c ow) := by
  unfold objAt at h
  split at h
  · rename_i k0 xs0 hx
    cases h
    obtain ⟨p, e1, e2, r⟩ := R.getO hx
    refine ⟨p, e2, .inr ⟨i, e1⟩, r, fun H' k' xs' s r' => ?_⟩
    have := R.extO hx e1 s r'
    unfold putO
    rw [hx]
    exact this
  · rename_i k0 xs0 hx
    cases h
    obtain ⟨o', eo, z1, z2, p, e2, el, r⟩ := R.get hx
    subst z2
    rw [e2] at eo
    obtain ⟨o5, e5, m5⟩ := r.at
    refine ⟨p, eo, .inl (R.lent p el).1, r, fun H' k' xs' s r' => ?_⟩
    obtain ⟨o6, e6, _⟩ := r'.at
    have := R.extL (s' := .ino (.obj k' xs')) hx el e5 m5 s (by rw [e6]; simp) fun v hv => by
      rw [eo] at hv; cases hv
      exact ⟨z1, rfl, p, rfl, el, r'⟩
    unfold putO
    rw [hx]
    exact this
  · cases h
theorem methO_of {tab : List (Nat × Nat)} {g : Nat → List PV → Rx PV} (h : MtO X.prog X.w X.K X.mg X.base G k m ms tab g) (hms : ms.all (! ·) = true) {σ : L2.St} {H : Hp} {Q : VK} (hq : tMv X.K G (mMethO tab g i d) σ H Q) :
    tMethD (ι := { q : Nat × Nat // tab.lookup q.1 = some q.2 }) (fun i => G.cA i.1.1) m (fun i => spO X.K G ms (g i.1.2)) E0 (tVar i) (tPa X.K G ms d) σ H Q := by
  obtain ⟨c, ow, ps, w, ps', R, e, q⟩ := hq
  unfold mMethO at e
  split at e
  · rename_i k0 xs hx
    split at e
    · rename_i f hf
      obtain ⟨ws, e1, e⟩ := bind_ok e
      obtain ⟨r, e2, e3⟩ := bind_ok e
      obtain ⟨p, hσ, hA, ro, _⟩ := objAt_get R hx
      obtain ⟨dx, vs, hH, hl, rs⟩ := ro
      refine ⟨.ref p, hσ, ⟨(k0, f), hf⟩, p, dx, _, rfl, hH, zip_none (h.all k0 f hf).2, c, ow, ps, ws, R, e1, fun us H2 s2 rm => ?_⟩
      have R2 := R.grow s2
      obtain ⟨p', hσ', hA', ro', upd'⟩ := objAt_get R2 hx
      rw [hσ] at hσ'
      cases hσ'
      unfold resO at e3
      split at e3
      · rename_i w0 k' xs'
        cases e3
        obtain ⟨o5, e5, m5⟩ := ro'.at
        let H1 : Hp := fun a => if a = p then none else H2 a
        have s12 : Same H1 H2 := fun a o ha => by
          by_cases z : a = p
          · have : H1 a = none := if_pos z
            rw [this] at ha; cases ha
          · have : H1 a = H2 a := if_neg z
            rw [this] at ha; exact ha
        have sx : SameX p H2 H1 := fun a o ha n => by
          have : H1 a = H2 a := if_neg n
          rw [this]; exact ha
        have kp : Kp X.K G H2 (av c ow) H1 (av c ow) := Kp.sameX sx hA' e5 m5
        have rm1 : RepM X.K G H1 (av c ow) ms ws us := RepM.weak (kp.reps (rm.reps' hms)) rm.len.1
        exact ⟨av c ow, H1, p, k0, xs, ws, us, w, k', xs', rfl, hA', if_pos rfl, s12, R2.used, ro', rm1, e2, fun v H' sx' ro'' rv => by
          obtain ⟨R3, k3⟩ := upd' H' k' xs' sx' ro''
          exact q v H' ow R3 ((Kp.of_same s2).trans k3) rv⟩
      · cases e3
    · cases e
  · cases e
theorem m_methO {tab : List (Nat × Nat)} {g : Nat → List PV → Rx PV} {pl : Sem Bool} (i : Nat) (h : MtO X.prog X.w X.K X.mg X.base G k m ms tab g) (hr : Room k X.A) (ha : JA X G ms (e :: es) d) (hms : ms.all (! ·) = true := by rfl) (hN : X.N[i]? = some x := by rfl) (hv : Vis X.env.scope x := by first | exact Or.inl rfl | exact Or.inr (Or.inl rfl) | exact Or.inr (Or.inr rfl))
    (hd : (x == ("__debug__" : Str)) = false := by decide) (hcd : (x == ("__classdict__" : Str)) = false := by decide)
    (hst : starEach (e :: es) X.env = (false, eval e X.env) :: starEach es X.env := by rfl) (hpl : (backTo pos (starEach es X.env)).any (·.1) = false := by rfl)
    (ht : eval (.Call (.Attribute (.Name x p) m apos) (e :: es) [] pos) X.env = (do
      let ov ← eval (.Name x p) X.env
      standAt apos.atName
      let (f, first) ← holding [ov] (getMethod ov m pl)
      callWith pos f first (backTo pos (starEach (e :: es) X.env)) (backToKw pos (keywordEach [] X.env))) := by rfl) : JM X G (.Call (.Attribute (.Name x p) m apos) (e :: es) [] pos) (mMethO tab g i d) :=
  imp (pe_methD (ι := { q : Nat × Nat // tab.lookup q.1 = some q.2 }) (pl := pl) (pe_var hN hv hd hcd) (fun i => (h.all i.1.1 i.1.2 i.2).1) hr pass0 ha hst hpl ht) fun _ _ _ => methO_of h hms
theorem m_methO0 {tab : List (Nat × Nat)} {g : Nat → List PV → Rx PV} {pl : Sem Bool} (i : Nat) (h : MtO X.prog X.w X.K X.mg X.base G k m [] tab g) (hr : Room k X.A) (hN : X.N[i]? = some x := by rfl) (hv : Vis X.env.scope x := by first | exact Or.inl rfl | exact Or.inr (Or.inl rfl) | exact Or.inr (Or.inr rfl))
    (hd : (x == ("__debug__" : Str)) = false := by decide) (hcd : (x == ("__classdict__" : Str)) = false := by decide)
    (ht : eval (.Call (.Attribute (.Name x p) m apos) [] [] pos) X.env = (do
      let ov ← eval (.Name x p) X.env
      standAt apos.atName
      let (f, first) ← holding [ov] (getMethod ov m pl)
      callWith pos f first (backTo pos (starEach [] X.env)) (backToKw pos (keywordEach [] X.env))) := by rfl) : JM X G (.Call (.Attribute (.Name x p) m apos) [] [] pos) (mMethO tab g i dNil) :=
  imp (pe_methD0 (ι := { q : Nat × Nat // tab.lookup q.1 = some q.2 }) (pl := pl) (pe_var hN hv hd hcd) (fun i => (h.all i.1.1 i.1.2 i.2).1) hr pass0 ht) fun σ H Q hq => by
    obtain ⟨v, e1, ii, a, dx, fs, e2, e3, e4, c', ow', ps', ws, R', e5, f2⟩ := methO_of h rfl hq
    have : ws = [] := by cases e5; rfl
    subst this
    exact ⟨v, e1, ii, a, dx, fs, e2, e3, e4, f2 [] H (Same.refl H) ⟨rfl, rfl⟩⟩
end
end DN
end
section
set_option Elab.async false
set_option linter.all false
set_option maxRecDepth 100000
set_option maxHeartbeats 4000000
namespace DN
open PySem PySem.Spec PyProof.Rows L2
section
variable {X : Cx} {G : Pg} {e a b o tg : Expr} {es : List Expr} {da db : DP} {d : DA} {dm : DM} {dma : DMA} {ds du : DS} {dt : DT} {pos p apos cpos : Pos} {x m : Str} {k i : Nat} {ms : List Bool}
/-! ### return, where the lent instance goes along -/
def withI (w : PV) (ps : PSt) : Rs := match ps[(0 : Nat)]? with | some (.ino x) => .reti w x | _ => .bad
theorem withI_ok {K : PySem.W.Frag} {c : Fr} {H H' : Hp} {ow : Ows} {A : Av} {ps : PSt} {σ : L2.St} {D : Ends} {w : PV} {v : V} (R : RepS K G c H' ow ps σ) (r : Rep K G H' (av c ow) w v) (q : EndsAt K G c H A D (withI w ps)) : D.rt v H' := by
  unfold withI at q
  split at q
  · rename_i y hy
    obtain ⟨o', eo, z1, z2, p, e2, el, ro⟩ := R.get hy
    exact q v H' p R.same el (ro.keep (Kp.weak fun a z => Or.inl z) rfl) ((Kp.weak fun a z => Or.inl z).rep r)
  · exact q.elim
def sRetI (d : DP) : DS := fun ps => (d ps).st fun w => withI w ps
theorem s_retI (he : JP X G e da) : JS X G (.Return (some e) pos) (sRetI da) := impS (ps_ret he) fun D σ H ⟨c, ow, ps, R, q⟩ => by
  obtain ⟨w, e1, q⟩ := ends_st q
  exact ⟨c, ow, ps, w, R, e1, fun v H' s r => withI_ok (R.grow s) r q⟩
def sRetIM (d : DM) : DS := fun ps => (d ps).st fun r => withI r.1 r.2
theorem s_retIM (he : JM X G e dm) : JS X G (.Return (some e) pos) (sRetIM dm) := impS (ps_ret he) fun D σ H ⟨c, ow, ps, R, q⟩ => by
  obtain ⟨⟨w, ps'⟩, e1, q⟩ := ends_st q
  exact ⟨c, ow, ps, w, ps', R, e1, fun v H' ow' R' k r => withI_ok R' r q⟩
/-! ### x.f += e -/
def sFldAugI (l : List (Nat × Nat)) (i : Nat) (f : Int → Int → Int) (d : DP) : DS := fun ps => match objAt ps i with
  | some (k, xs) => (match l.lookup k with
    | some j => (match xs[j]? with
      | some (.int y) => (d ps).st fun w => (match w with | .int z => .nx (putO ps i k (xs.set j (.int (f y z)))) | _ => .bad)
      | _ => .bad)
    | none => .bad)
  | none => .bad
theorem s_fldAugI {op : Operator} {f : Str} {l : List (Nat × Nat)} {fi : Int → Int → Int} (i : Nat) (ok : FldOk X.K G f l) (hsm : ∀ k, (G.fN k).length < 1000) (ho : InOp X op (fun x y H Q => ∃ i j, x = .int i ∧ y = .int j ∧ Q (.int (fi i j)) H)) (he : JP X G e da)
    (hN : X.N[i]? = some x := by rfl) (hv : Vis X.env.scope x := by first | exact Or.inl rfl | exact Or.inr (Or.inl rfl) | exact Or.inr (Or.inr rfl)) (hd : (x == ("__debug__" : Str)) = false := by decide) (hcd : (x == ("__classdict__" : Str)) = false := by decide) :
    JS X G (.AugAssign (.Attribute (.Name x p) f apos) op e pos) (sFldAugI l i fi da) := impS (ps_fldaug (pe_var hN hv hd hcd) he ho) fun D σ H ⟨c, ow, ps, R, q⟩ => by
  unfold sFldAugI at q
  split at q
  · rename_i k0 xs hx
    split at q
    · rename_i j hj
      split at q
      · rename_i y hy
        obtain ⟨w, e1, q⟩ := ends_st q
        obtain ⟨c1, c2, c3, c4⟩ := ok.all k0 j hj
        obtain ⟨p, hσ, hA, ro, _⟩ := objAt_get R hx
        obtain ⟨dx, vs, hH, hl, rs⟩ := ro
        obtain ⟨v, hv', rv⟩ := rs.get hy
        obtain rfl : v = V.int y := rv
        refine ⟨.ref p, hσ, p, _, dx, _, _, rfl, hH, c1, c2, zip_at c3 c4 hv', c, ow, ps, w, R, e1, fun u H1 s1 r1 => ?_⟩
        split at q
        · rename_i z
          obtain rfl : u = V.int z := r1
          have R1 := R.grow s1
          obtain ⟨p', hσ', hA', ro', upd'⟩ := objAt_get R1 hx
          rw [hσ] at hσ'
          cases hσ'
          have hH1 := s1 _ _ hH
          refine ⟨y, z, rfl, rfl, dx, _, hH1, ?_, ?_⟩
          · rw [List.length_zip]; have := hsm k0; omega
          · have hput := putF_at (v := V.int (fi y z)) c3 c4 hl
            have sx : SameX p H1 (upd H1 p (.ins (G.cA k0) dx (putF f (V.int (fi y z)) ((G.fN k0).zip vs)))) := fun b o' h n => by rw [upd_ne n]; exact h
            have mD : Mt (HO.ins (G.cA k0) dx ((G.fN k0).zip vs)) := And.intro (fun _ z => by cases z) (fun _ _ z => by cases z)
            have k1 : Kp X.K G H1 (av c ow) (upd H1 p (.ins (G.cA k0) dx (putF f (V.int (fi y z)) ((G.fN k0).zip vs)))) (av c ow) := Kp.sameX sx hA' hH1 mD
            obtain ⟨R2, k2⟩ := upd' _ k0 (xs.set j (.int (fi y z))) sx ⟨dx, vs.set j (V.int (fi y z)), by rw [upd_same, hput], by rw [List.length_set]; exact hl, (k1.reps (rs.same s1)).set j rfl⟩
            exact q _ _ ow R2 ((Kp.of_same s1).trans k2)
        · exact q.elim
      · exact q.elim
    · exact q.elim
  · exact q.elim
/-! ### tests that change things -/
abbrev DTM := PSt → Rx (Bool × PSt)
def tMt (K : PySem.W.Frag) (G : Pg) (d : DTM) : TT := fun σ H Q => ∃ (c : Fr) (ow : Ows) (ps : PSt) (b : Bool) (ps' : PSt), RepS K G c H ow ps σ ∧ d ps = .ok (b, ps') ∧ ∀ H' ow', RepS K G c H' ow' ps' σ → Kp K G H (av c ow) H' (av c ow') → Q b H'
abbrev JTM (X : Cx) (G : Pg) (e : Expr) (d : DTM) : Prop := PT X e (tMt X.K G d)
abbrev JWM (X : Cx) (G : Pg) (e : Expr) (d : DTM) : Prop := PW X e (tMt X.K G d)
def mTr (d : DM) : DTM := fun ps => (d ps).bind fun r => match r.1 with | .bl b => .ok (b, r.2) | _ => .bad
theorem tm_val (h : JM X G e dm) (he : ∀ whole, isTrue e X.env whole = (do let v ← whole; standAt e.pos; holding [v] (truthy v)) := by intro _; rfl) : JTM X G e (mTr dm) := impT (pt_val h he) fun σ H Q ⟨c, ow, ps, b, ps', R, e, q⟩ => by
  obtain ⟨⟨w, p1⟩, e1, e2⟩ := bind_ok e
  refine ⟨c, ow, ps, w, p1, R, e1, fun v H' ow' R' k' r => ?_⟩
  cases w <;> try cases e2
  exact ⟨_, r, q H' ow' R' k'⟩
def mOfT (d : DT) : DTM := fun ps => (d ps).bind fun b => .ok (b, ps)
theorem tm_of (h : JT X G e dt) : JTM X G e (mOfT dt) := impT h fun σ H Q ⟨c, ow, ps, b, ps', R, e, q⟩ => by
  obtain ⟨b', e1, e2⟩ := bind_ok e
  cases e2
  exact ⟨c, ow, ps, b, R, e1, fun H' s => q H' ow (R.grow s) (Kp.of_same s)⟩
def mNot (d : DTM) : DTM := fun ps => (d ps).bind fun r => .ok (!r.1, r.2)
theorem tm_not {d1 : DTM} (ha : JTM X G a d1) : JTM X G (.UnaryOp .Not a pos) (mNot d1) := impT (pt_not ha) fun σ H Q ⟨c, ow, ps, b, ps', R, e, q⟩ => by
  obtain ⟨⟨x, p1⟩, e1, e2⟩ := bind_ok e
  cases e2
  exact ⟨c, ow, ps, x, p1, R, e1, fun H' ow' R' k' => q H' ow' R' k'⟩
theorem wm_or1 {d1 : DTM} (ha : JTM X G a d1) : JWM X G (.BoolOp .Or [a] pos) d1 := pw_or1 ha
def mOr (t u : DTM) : DTM := fun ps => (t ps).bind fun r => if r.1 = true then .ok (true, r.2) else u r.2
def mAnd (t u : DTM) : DTM := fun ps => (t ps).bind fun r => if r.1 = true then u r.2 else .ok (false, r.2)
theorem wm_or {rest : List Expr} {d1 d2 : DTM} (ha : JTM X G a d1) (hb : JWM X G (.BoolOp .Or (b :: rest) pos) d2) : JWM X G (.BoolOp .Or (a :: b :: rest) pos) (mOr d1 d2) := impW (pw_or ha hb) fun σ H Q ⟨c, ow, ps, b, ps', R, e, q⟩ => by
  obtain ⟨⟨x, p1⟩, e1, e2⟩ := bind_ok e
  refine ⟨c, ow, ps, x, p1, R, e1, fun H1 ow1 R1 k1 => ?_⟩
  cases x with
  | true => cases e2; exact iteT (q H1 ow1 R1 k1)
  | false => exact iteF ⟨c, ow1, p1, b, ps', R1, e2, fun H2 ow2 R2 k2 => q H2 ow2 R2 (k1.trans k2)⟩
theorem tm_w {d1 : DTM} (h : JWM X G e d1) : JTM X G e d1 := PW.pt h
def sIfM (t : DTM) (a b : DS) : DS := fun ps => (t ps).st fun r => if r.1 = true then a r.2 else b r.2
theorem s_ifM {c : Expr} {a b : List Stmt} {d1 : DTM} (hc : JTM X G c d1) (ha : JSs X G a ds) (hb : JSs X G b du) : JS X G (.If c a b pos) (sIfM d1 ds du) := impS (ps_if hc ha hb) fun D σ H ⟨c, ow, ps, R, q⟩ => by
  obtain ⟨⟨x, p1⟩, e1, q⟩ := ends_st q
  refine ⟨c, ow, ps, x, p1, R, e1, fun H1 ow1 R1 k1 => ?_⟩
  cases x with
  | true => exact iteT ⟨c, ow1, p1, R1, EndsAt.mono q k1⟩
  | false => exact iteF ⟨c, ow1, p1, R1, EndsAt.mono q k1⟩
/-! ### while, by fuel -/
def iterM (t : DTM) (body : DS) : Nat → PSt → Option Rs
  | 0, _ => none
  | n + 1, ps => match t ps with
    | .ok (true, ps1) => (match body ps1 with
      | .nx ps2 => iterM t body n ps2
      | .cnt ps2 => iterM t body n ps2
      | .brk ps2 => some (.nx ps2)
      | r => some r)
    | .ok (false, ps1) => some (.nx ps1)
    | .bad => some .bad
    | .exc c => some (.exc c)
def sWhileM (t : DTM) (body : DS) : DS := fun ps => (iterM t body 100000 ps).getD .bad
theorem s_whileM {ce : Expr} {body : List Stmt} {d1 : DTM} (hp : PassesOwn (model X.prog X.w) X.A X.env X.xe) (hc : JTM X G ce d1) (hb : JSs X G body ds) : JS X G (.While ce body [] pos) (sWhileM d1 ds) := impS (ps_while hp hc hb) fun D σ H ⟨c, ow, ps, R, q⟩ => by
  unfold sWhileM at q
  generalize (100000 : Nat) = n at q
  cases h : iterM d1 ds n ps with
  | none => rw [h] at q; exact q.elim
  | some r =>
    rw [h] at q
    have q : EndsAt X.K G c H (av c ow) D r := q
    refine ⟨fun m σ' H' => ∃ ow' ps', RepS X.K G c H' ow' ps' σ' ∧ iterM d1 ds m ps' = some r ∧ EndsAt X.K G c H' (av c ow') D r, ⟨n, ow, ps, R, h, q⟩, ?_⟩
    rintro m σ' H' ⟨ow', ps', R', h', q'⟩
    cases m with
    | zero => cases h'
    | succ m =>
      rw [iterM] at h'
      cases e : d1 ps' with
      | bad => rw [e] at h'; cases h'; exact q'.elim
      | exc c => rw [e] at h'; cases h'; exact q'.elim
      | ok r1 =>
        obtain ⟨b, p1⟩ := r1
        rw [e] at h'
        refine ⟨c, ow', ps', b, p1, R', e, fun H2 ow2 R2 k2 => ?_⟩
        cases b with
        | false =>
          cases h'
          exact iteF (q' σ' H2 ow2 R2 k2)
        | true =>
          refine iteT ⟨_, fun _ _ h => h, c, ow2, p1, R2, ?_⟩
          have q2 := q'.mono k2
          cases eb : ds p1 with
          | nx ps2 =>
            have h' : iterM d1 ds m ps2 = some r := by simpa only [eb] using h'
            exact fun σ4 H4 ow4 R4 k4 => ⟨m, Nat.lt_succ_self m, ow4, ps2, R4, h', q2.mono k4⟩
          | cnt ps2 =>
            have h' : iterM d1 ds m ps2 = some r := by simpa only [eb] using h'
            exact fun σ4 H4 ow4 R4 k4 => ⟨m, Nat.lt_succ_self m, ow4, ps2, R4, h', q2.mono k4⟩
          | brk ps2 => simp only [eb] at h'; cases h'; exact q2
          | ret w => simp only [eb] at h'; cases h'; exact q2
          | retn xs => simp only [eb] at h'; cases h'; exact q2
          | reti w x => simp only [eb] at h'; cases h'; exact q2
          | bad => simp only [eb] at h'; cases h'; exact q2
          | exc c => simp only [eb] at h'; cases h'; exact q2
/-! ### new instances: their arguments may change things; one's own ones -/
def mNew (c n : Nat) (d : DMA) : DM := fun ps => (d ps).bind fun r => if r.1.length = n then .ok (.obj c r.1, r.2) else .bad
theorem m_new {c n : Nat} (h : NewAt X.prog X.w X.K X.mg X.base x (G.cA c) (G.fN c)) (hr : Room (k + 2) X.A) (hg : Gl X x) (ha : JMA X G (e :: es) dma) (hl : (G.fN c).length = n) (hdb : (x == ("__debug__" : Str)) = false := by decide)
    (he : starEach (e :: es) X.env = (false, eval e X.env) :: starEach es X.env := by rfl) (hpl : (backTo pos (starEach es X.env)).any (·.1) = false := by rfl) : JM X G (.Call (.Name x p) (e :: es) [] pos) (mNew c n dma) :=
  imp (pe_new h hr hg ha hdb he hpl) fun σ H Q ⟨f, ow, ps, w, ps', R, e, q⟩ => by
    obtain ⟨⟨ws, p1⟩, e1, e2⟩ := bind_ok e
    split at e2
    · rename_i hn
      cases e2
      refine ⟨f, ow, ps, ws, p1, R, e1, fun vs H' ow' R' k' r => ⟨by rw [← r.len, hl]; exact hn, fun y dy n1 n2 ne => ?_⟩⟩
      have sn := newI_same (C := G.cA c) (fs := (G.fN c).zip vs) n1 n2
      exact q _ _ ow' (R'.grow sn) (k'.trans (Kp.of_same sn)) ⟨y, dy, vs, rfl, newI_at, by rw [← r.len, hl]; exact hn.symm, fun z => R'.used y z n1, r.same sn⟩
    · cases e2
def sOwnI (i : Nat) (g : List PV → Rx PV) (d : DA) : DS := fun ps => ((d ps).bind g).st fun w => match w with | .obj k fs => if i < ps.length then .nx (ps.set i (.own (.obj k fs))) else .bad | _ => .bad
theorem s_ownI {c : Nat} {g : List PV → Rx PV} {y : Str} {py : Pos} (hN : X.N.Nodup) (hi : X.N[i]? = some y) (hy : Loc X.env.scope y) (h : NewI X.prog X.w X.K X.mg X.base G k x c ms g) (hr : Room (k + 1) X.A) (hg : Gl X x) (ha : JA X G ms (e :: es) d) (hobj : ∀ ws w, g ws = .ok w → ∃ fs, w = .obj c fs) (hdb : (x == ("__debug__" : Str)) = false := by decide)
    (he : starEach (e :: es) X.env = (false, eval e X.env) :: starEach es X.env := by rfl) (hpl : (backTo cpos (starEach es X.env)).any (·.1) = false := by rfl)
    (hs : swapsWith (.Call (.Name x p) (e :: es) [] cpos) (some (.Name y py)) pos.line X.env = pure false := by rfl) (hf : X.fn y = true ∨ X.env.scope.names.lookup y = some .local := by first | exact .inl rfl | exact .inr rfl | assumption) :
    JS X G (.Assign [.Name y py] (.Call (.Name x p) (e :: es) [] cpos) pos) (sOwnI i g d) := impS (ps_set hN hi hy (pe_newI h hr hg ha hdb he hpl) hs hf) fun D σ H ⟨cf, ow, ps, R, q⟩ => by
  obtain ⟨w, e0, q⟩ := ends_st q
  obtain ⟨ws, e1, e2⟩ := bind_ok e0
  obtain ⟨fs, rfl⟩ := hobj ws w e2
  have q : EndsAt X.K G cf H (av cf ow) D (if i < ps.length then .nx (ps.set i (.own (.obj c fs))) else .bad) := q
  split at q
  · rename_i hl
    refine ⟨cf, ow, ps, ws, R, e1, fun vs H' s r => ?_⟩
    refine newI_of (Q := fun x H1 => gName i x σ H1 D.nx) (R.grow s) r e2 fun xx dx us H2 s2 n1 h1 h2 h3 => ?_
    exact q _ _ _ ((R.grow s).setO hl s2 n1 ⟨dx, us, h1, h2, h3⟩) ((Kp.of_same s).trans (Kp.take n1 s2 av_on))
  · exact q.elim
/-! ### texts: split, join, partition, find -/
theorem vals_strs : ∀ (l : List (Str × Tok)), Vals (l.map fun q => V.str q.1) (strValues l)
  | [] => .nil
  | q :: l => .cons ⟨q.2, rfl⟩ (vals_strs l)
end
end DN
end
section
set_option Elab.async false
set_option linter.all false
set_option maxRecDepth 100000
set_option maxHeartbeats 4000000
namespace DN
open PySem PySem.Spec PyProof.Rows L2
/-! ### texts cut at a text: by lists of code points -/
def spg (y : List Nat) : Nat → List Nat → List Nat → List (List Nat)
  | _, cur, [] => [cur.reverse]
  | s + 1, cur, c :: l => spg y s cur l
  | 0, cur, c :: l => if y.isPrefixOf (c :: l) = true then cur.reverse :: spg y (y.length - 1) [] l else spg y 0 (c :: cur) l
def mkS (l : List Nat) : Str := ⟨l.toArray⟩
def spl (x y : Str) : List Str := (spg y.cps.toList 0 [] x.cps.toList).map mkS
/-- the first place of y in l -/
def fst1 (y : List Nat) : List Nat → List Nat → Option (List Nat × List Nat)
  | _, [] => none
  | cur, c :: l => if y.isPrefixOf (c :: l) = true then some (cur.reverse, (c :: l).drop y.length) else fst1 y (c :: cur) l
section
open PySem.StrLaws PySem.Builtin PySem.Builtin.Str
theorem at_iff {x y : Str} {i : Nat} (hw : 1 ≤ y.length) (hi : i ≤ x.length) : At x y x.length i ↔ y.cps.toList.isPrefixOf (x.cps.toList.drop i) = true := by
  have hl : x.length = x.cps.toList.length := by simp [Str.length]
  have hy : y.length = y.cps.toList.length := by simp [Str.length]
  unfold At
  rw [subAt_eq, List.isPrefixOf_iff_prefix, List.prefix_iff_eq_take]
  constructor
  · rintro ⟨h1, h2⟩
    rw [← hy]
    simpa using (beq_iff_eq.mp h2).symm
  · intro h
    rw [← hy] at h
    refine ⟨?_, by rw [← h]; simp⟩
    have := congrArg List.length h
    rw [← hy, List.length_take, List.length_drop] at this
    omega
theorem spg_skip (y : List Nat) : ∀ (s : Nat) (cur l : List Nat), spg y s cur l = spg y 0 cur (l.drop s)
  | 0, cur, l => by simp
  | s + 1, cur, [] => by simp [spg]
  | s + 1, cur, c :: l => by rw [List.drop_succ_cons]; show spg y s cur l = _; exact spg_skip y s cur l
theorem spg_none {x y : Str} (hw : 1 ≤ y.length) : ∀ (n a i : Nat), i + n = x.length → a ≤ i → (∀ k, i ≤ k → ¬ At x y x.length k) → spg y.cps.toList 0 ((x.cps.toList.drop a).take (i - a)).reverse (x.cps.toList.drop i) = [x.cps.toList.drop a]
  | 0, a, i, h, ha, hn => by
    have hl : x.length = x.cps.toList.length := by simp [Str.length]
    rw [List.drop_of_length_le (i := i) (by omega)]
    unfold spg
    rw [List.reverse_reverse, List.take_of_length_le (by rw [List.length_drop]; omega)]
  | n + 1, a, i, h, ha, hn => by
    have hl : x.length = x.cps.toList.length := by simp [Str.length]
    have hi : i < x.cps.toList.length := by omega
    have h0 := hn i (Nat.le_refl _)
    rw [at_iff hw (by omega)] at h0
    rw [List.drop_eq_getElem_cons hi] at h0 ⊢
    unfold spg
    rw [if_neg h0]
    have := spg_none hw n a (i + 1) (by omega) (by omega) fun k hk => hn k (by omega)
    rw [← this]
    congr 1
    rw [show i + 1 - a = (i - a) + 1 from by omega, List.take_succ, List.reverse_append, List.getElem?_drop, show a + (i - a) = i from by omega, List.getElem?_eq_getElem hi]
    rfl
theorem spg_to {x y : Str} (hw : 1 ≤ y.length) : ∀ (n a i : Nat), a ≤ i → At x y x.length (i + n) → (∀ k, i ≤ k → k < i + n → ¬ At x y x.length k) → spg y.cps.toList 0 ((x.cps.toList.drop a).take (i - a)).reverse (x.cps.toList.drop i) = (x.cps.toList.drop a).take (i + n - a) :: spg y.cps.toList 0 [] (x.cps.toList.drop (i + n + y.length))
  | 0, a, i, ha, h1, hn => by
    have hl : x.length = x.cps.toList.length := by simp [Str.length]
    have hy : y.length = y.cps.toList.length := by simp [Str.length]
    have hi : i < x.cps.toList.length := by have := h1.1; omega
    rw [Nat.add_zero] at h1 ⊢
    rw [at_iff hw (by omega)] at h1
    rw [List.drop_eq_getElem_cons hi] at h1 ⊢
    conv => lhs; unfold spg
    rw [if_pos h1, List.reverse_reverse, spg_skip, List.drop_drop, show i + 1 + (y.cps.toList.length - 1) = i + y.length from by omega]
  | n + 1, a, i, ha, h1, hn => by
    have hl : x.length = x.cps.toList.length := by simp [Str.length]
    have hi : i < x.cps.toList.length := by have := h1.1; omega
    have h0 := hn i (Nat.le_refl _) (by omega)
    rw [at_iff hw (by omega)] at h0
    rw [List.drop_eq_getElem_cons hi] at h0 ⊢
    conv => lhs; unfold spg
    rw [if_neg h0]
    have := spg_to hw n a (i + 1) (by omega) (by rw [show i + 1 + n = i + (n + 1) from by omega]; exact h1) fun k hk hk2 => hn k (by omega) (by omega)
    rw [show i + 1 + n = i + (n + 1) from by omega] at this
    rw [← this]
    congr 1
    rw [show i + 1 - a = (i - a) + 1 from by omega, List.take_succ, List.reverse_append, List.getElem?_drop, show a + (i - a) = i from by omega, List.getElem?_eq_getElem hi]
    rfl
theorem sub_mk (x : Str) (a c : Nat) : strSub x a c = mkS ((x.cps.toList.drop a).take (c - a)) := by
  apply PySem.Str.ext'
  rw [← Array.toList_inj, strSub_toList]
  simp [mkS]
theorem spg_parts {x y : Str} (hw : 1 ≤ y.length) : ∀ (cuts : List Nat) (a f : Nat), a ≤ x.length → ChainG x y x.length a cuts f → (∀ k, f ≤ k → ¬ At x y x.length k) → (spg y.cps.toList 0 [] (x.cps.toList.drop a)).map mkS = partsFrom x y.length a cuts
  | [], a, f, ha, h, hn => by
    have hl : x.length = x.cps.toList.length := by simp [Str.length]
    obtain rfl : f = a := h
    have := spg_none hw (x.length - f) f f (by omega) (Nat.le_refl _) hn
    rw [Nat.sub_self, List.take_zero, List.reverse_nil] at this
    rw [this]
    show [mkS _] = [strSub x f x.length]
    rw [sub_mk, List.take_of_length_le (by rw [List.length_drop]; omega)]
  | c :: r, a, f, ha, h, hn => by
    obtain ⟨h1, h2, h3, h4⟩ := h
    have e : a + (c - a) = c := by omega
    have := spg_to hw (c - a) a a (Nat.le_refl _) (by rw [e]; exact h2) (fun k k1 k2 => h3 k k1 (by omega))
    rw [Nat.sub_self, List.take_zero, List.reverse_nil, e] at this
    rw [this]
    show mkS _ :: List.map mkS _ = strSub x a c :: partsFrom x y.length (c + y.length) r
    rw [sub_mk, spg_parts hw r (c + y.length) f h2.1 h4 hn]
theorem split_eq {x y : Str} (hw : 1 ≤ y.length) (hk : strKind y = 1) : Txt.split x y = spl x y := by
  obtain ⟨f, h1, h2⟩ := occ_tight x y hw
  have key := spg_parts hw _ 0 f (Nat.zero_le _) h1 h2
  have hk2 : ∀ z : Str, 1 ≤ strKind z := fun z => by
    unfold Builtin.Str.strKind
    split
    · omega
    · split <;> omega
  rw [List.drop_zero] at key
  unfold spl Txt.split
  rw [key]
  split
  · rename_i h
    rw [Bool.or_eq_true, decide_eq_true_iff, decide_eq_true_iff] at h
    rcases h with h | h
    · cases hc : occurrences x y 0 x.length (x.length + 1) with
      | nil => exact (congrArg (fun z => [z]) (sub_whole x)).symm
      | cons c r => rw [hc] at h1; have := h1.2.1.1; omega
    · have := hk2 x; omega
  · split
    · rename_i h
      rw [List.isEmpty_iff] at h
      rw [h]
      exact (congrArg (fun z => [z]) (sub_whole x)).symm
    · exact partsBetween_eq ..
theorem split_small (x y : Str) (hx : x.length ≤ 1000000) : (partsBetween x (occurrences x y 0 x.length (x.length + 1)) y.length).length ≤ sizeLine := by
  have h := occ_length_le x y 0 x.length (x.length + 1)
  unfold partsBetween
  rw [List.length_map, List.length_zip, List.length_cons, List.length_map]
  have : (1000010 : Nat) ≤ sizeLine := by decide
  omega
end
section
variable {X : Cx} {G : Pg} {e a b o tg : Expr} {es : List Expr} {da db : DP} {d : DA} {pos p apos cpos : Pos} {x m : Str} {k i : Nat} {ms : List Bool}
theorem vals_strs' {l : List (Str × Tok)} {xs : List Str} (h : l.map (·.1) = xs) : Vals (xs.map V.str) (strValues l) := by
  subst h
  rw [List.map_map]
  exact vals_strs l
open PySem.Builtin PySem.Builtin.Str in
theorem mt_split : MtR X "str.split" (fun x xs H Q => ∃ z y, x = .str z ∧ xs = [.str y] ∧ (y.length == 0) = false ∧ z.length ≤ 1000000 ∧ ∀ p, H p = none → Q (.ref p) (upd H p (.lst ((Txt.split z y).map V.str)))) := by
  intro pins s σ H x xs v us Q I rx rs h
  obtain ⟨z, y, rfl, rfl, hy, hz, q⟩ := h
  obtain ⟨t, rfl⟩ := rx
  obtain ⟨u', rfl, u, rfl⟩ := vals1 rs
  have h2 := split_small z y hz
  have hsz : z.length ≤ sizeLine := by
    have : (1000010 : Nat) ≤ sizeLine := by decide
    omega
  have hlen : ((Txt.split z y).map V.str).length ≤ sizeLine := by
    have := split_le z y
    have : (1000010 : Nat) ≤ sizeLine := by decide
    rw [List.length_map]; omega
  cases h1 : (decide (z.length < y.length) || decide (strKind z < strKind y))
  · cases hf : (occurrences z y 0 z.length (z.length + 1)).isEmpty
    · refine call_meets F.slot_str_split (typeIs_str _ _ _) F.entry_str_split (F.args_str_split_2 _ _) (meets_str_split_sep z y t u h1 hy hf hsz h2) ?_
      rw [strsFrom_eq]
      have e : (numbered s.toks (partsBetween z (occurrences z y 0 z.length (z.length + 1)) y.length)).map (·.1) = Txt.split z y := (numbered_texts _ _).trans ((if_neg (ne_true_of_eq_false h1)).trans (if_neg (ne_true_of_eq_false hf))).symm
      exact ⟨.ref _, _, I.lnew (vals_strs' e) hlen, rfl, q _ I.fresh⟩
    · have e : [(z, t)].map (·.1) = Txt.split z y := ((if_neg (ne_true_of_eq_false h1)).trans (if_pos hf)).symm
      exact call_meets F.slot_str_split (typeIs_str _ _ _) F.entry_str_split (F.args_str_split_2 _ _) (meets_str_split_not_found z y t u h1 hy hf)
        ⟨.ref _, _, I.lnew (t' := s.toks) (vals_strs' e) hlen, rfl, q _ I.fresh⟩
  · have e : [(z, t)].map (·.1) = Txt.split z y := (if_pos h1).symm
    exact call_meets F.slot_str_split (typeIs_str _ _ _) F.entry_str_split (F.args_str_split_2 _ _) (meets_str_split_cannot_occur z y t u h1)
      ⟨.ref _, _, I.lnew (t' := s.toks) (vals_strs' e) hlen, rfl, q _ I.fresh⟩
theorem reps_strs {K : PySem.W.Frag} {H : Hp} {A : Av} : ∀ (xs : List Str), Reps K G H A (xs.map PV.str) (xs.map V.str)
  | [] => rfl
  | x :: xs => ⟨_, _, rfl, rfl, reps_strs xs⟩
def goodSep (y : Str) : Bool := y.cps.all (· < 256) && decide (1 ≤ y.cps.toList.length)
theorem goodSep_ok {y : Str} (h : goodSep y = true) : 1 ≤ y.length ∧ Builtin.Str.strKind y = 1 ∧ (y.length == 0) = false := by
  unfold goodSep at h
  rw [Bool.and_eq_true, decide_eq_true_iff] at h
  have h1 : 1 ≤ y.length := by have := h.2; simp [Str.length] at this ⊢; omega
  refine ⟨h1, by unfold Builtin.Str.strKind; rw [if_pos h.1], ?_⟩
  rw [beq_eq_false_iff_ne]; omega
def dSplit (a b : DP) : DA := fun ps => (a ps).bind fun x => (b ps).bind fun y => match x, y with
  | .str x, .str y => if goodSep y = true ∧ x.cps.toList.length ≤ 1000000 then .ok ((spl x y).map .str) else .bad
  | _, _ => .bad
theorem n_split (ho : JP X G o da) (he : JP X G e db)
    (hbase : attributeBase o "split" X.env (eval o X.env) = eval o X.env := by rfl)
    (hfew : ((backTo cpos (starEach [e] X.env)).all (fun x => !x.1) && (backToKw cpos (keywordEach [] X.env)).all (fun x => x.1.isSome) && decide (([e] : List Expr).length + ([] : List Keyword).length + (if ([] : List Keyword).isEmpty then 0 else 1) < 30)) = true := by rfl)
    (hline : (apos.endLine == cpos.line) = true := by rfl) (hst : starEach [e] X.env = (false, eval e X.env) :: starEach [] X.env := by rfl) (hpl : (backTo cpos (starEach ([] : List Expr) X.env)).any (·.1) = false := by rfl) :
    JN X G (.Call (.Attribute o "split" apos) [e] [] cpos) (dSplit da db) :=
  imp (pe_bm PySem.F.plainAttrs_str PySem.F.slot_str_split PySem.F.type_str_split mt_split ho (pa_cons he pa_nil hst) hbase hfew hline hst hpl) fun σ H Q ⟨c, ow, ps, ws, R, e, q⟩ => by
    obtain ⟨w1, e1, e⟩ := bind_ok e
    obtain ⟨w2, e2, e⟩ := bind_ok e
    split at e
    · rename_i x y _
      split at e
      · rename_i hg
        cases e
        obtain ⟨g1, g2, g3⟩ := goodSep_ok hg.1
        refine ⟨c, ow, ps, _, R, e1, fun v H1 s1 r1 => ?_⟩
        obtain rfl : v = V.str x := r1
        refine ⟨rfl, c, ow, ps, _, R.grow s1, e2, fun u H2 s2 r2 => ?_⟩
        obtain rfl : u = V.str y := r2
        refine ⟨x, y, rfl, rfl, g3, by have := hg.2; simpa [Str.length] using this, fun p hp => ?_⟩
        rw [split_eq g1 g2]
        exact q p _ _ ((s1.trans s2).trans (same_upd hp _)) ((s1.trans s2).free hp) upd_same (reps_strs _)
      · cases e
    · cases e
def part (x y : Str) : Str × Str × Str := match fst1 y.cps.toList [] x.cps.toList with
  | some (p, r) => (mkS p, y, mkS r)
  | none => (x, ⟨#[]⟩, ⟨#[]⟩)
end
section
variable {P : Program} {w : World} {K : PySem.W.Frag} {mg : Str → Option Value} {base : Bs} {G : Pg} {n : Nat} {m : Str} {ms : List Bool}
theorem mo_nil {g : Nat → List PV → Rx PV} : MtO P w K mg base G n m ms [] g := ⟨fun c f h => by simp at h⟩
theorem mo_cons {g : Nat → List PV → Rx PV} {c fi : Nat} {l : List (Nat × Nat)} (h : MethAt P w K mg base CX0 n (G.cA c) m (spO K G ms (g fi))) (hm : m ∉ G.fN c) (r : MtO P w K mg base G n m ms l g) : MtO P w K mg base G n m ms ((c, fi) :: l) g :=
  ⟨fun c' f' e => by
    rcases look_cons e with ⟨rfl, rfl⟩ | e
    · exact ⟨h, hm⟩
    · exact r.all c' f' e⟩
end
end DN
end
section
set_option Elab.async false
set_option linter.all false
set_option maxRecDepth 100000
set_option maxHeartbeats 4000000
namespace DN
open PySem PySem.Spec PyProof.Rows L2
@[simp] theorem pv_lst (xs : List PV) : (Ow.lst xs).pv = .lst xs := rfl
@[simp] theorem pv_objO (k : Nat) (xs : List PV) : (Ow.obj k xs).pv = .obj k xs := rfl
@[simp] theorem pv_dic (ks : List Key) (xs : List PV) : (Ow.dic ks xs).pv = .dic ks xs := rfl
end DN
end
section
set_option Elab.async false
set_option linter.all false
set_option maxRecDepth 100000
set_option maxHeartbeats 4000000
namespace DN
open PySem PySem.Spec PyProof.Rows L2
/-! ### functions as values: their promise -/
def spC (K : PySem.W.Frag) (G : Pg) (np : Nat) (g : List PV → Rx PV) : SpN := fun vs cv H Q _ => ∃ A ws cw w, Used H A ∧ RepM K G H A (List.replicate np false) ws vs ∧ Reps K G H A cw cv ∧ g (ws ++ cw) = .ok w ∧ ∀ v H', Same H H' → Rep K G H' A w v → Q v H'
section
variable {P : Program} {w : World} {K : PySem.W.Frag} {mg : Str → Option Value} {base : Bs} {G : Pg} {H : Hp} {A : Av}
theorem RepM.more {cw : List PV} {cv : List V} : ∀ {n : Nat} {ws : List PV} {vs : List V}, RepM K G H A (List.replicate n false) ws vs → Reps K G H A cw cv → RepM K G H A (List.replicate (n + cw.length) false) (ws ++ cw) (vs ++ cv)
  | 0, ws, vs, h, r => by
    obtain ⟨rfl, rfl⟩ := h
    rw [Nat.zero_add]
    exact go r
  | n + 1, ws, vs, h, r => by
    obtain ⟨w, wr, v, vr, rfl, rfl, r1, rr⟩ := h
    rw [Nat.add_right_comm]
    exact ⟨w, wr ++ cw, v, vr ++ cv, rfl, rfl, r1, RepM.more rr r⟩
where go : ∀ {cw : List PV} {cv : List V}, Reps K G H A cw cv → RepM K G H A (List.replicate cw.length false) cw cv
  | [], cv, h => ⟨rfl, h⟩
  | w :: cw, cv, h => by
    obtain ⟨v, r, rfl, r1, r2⟩ := h
    exact ⟨w, cw, v, r, rfl, rfl, by rw [if_neg Bool.false_ne_true]; exact r1, go r2⟩
/-- all of them: their numbers, how many arguments each has -/
structure ClAll (P : Program) (w : World) (K : PySem.W.Frag) (mg : Str → Option Value) (base : Bs) (G : Pg) (k : Nat) (tab : List (Nat × Nat)) (g : Nat → List PV → Rx PV) : Prop where
  all : ∀ f np, tab.lookup f = some np → ClOk P w K mg base CX0 k (G.nF f) (spC K G np (g f))
end
section
variable {X : Cx} {G : Pg} {e a b o : Expr} {es : List Expr} {da db : DP} {d : DA} {ds : DS} {pos p apos : Pos} {x m : Str} {k i : Nat} {ms : List Bool} {tab : List (Nat × Nat)} {g : Nat → List PV → Rx PV}
/-- a function that is held is called -/
def appC (tab : List (Nat × Nat)) (g : Nat → List PV → Rx PV) (x : PV) (m : Rx (List PV)) : Rx PV := match x with
  | .clo f cw => (match tab.lookup f with | some np => m.bind fun ws => if ws.length = np then g f (ws ++ cw) else .bad | none => .bad)
  | _ => .bad
/-- x(..) -/
def dCallV (tab : List (Nat × Nat)) (g : Nat → List PV → Rx PV) (a : DP) (d : DA) : DP := fun ps => (a ps).bind fun y => appC tab g y (d ps)
/-- o.m(..), m an attribute -/
def dCallA (tab : List (Nat × Nat)) (g : Nat → List PV → Rx PV) (l : List (Nat × Nat)) (a : DP) (d : DA) : DP := fun ps => (a ps).bind fun x => (fldP l x).bind fun y => appC tab g y (d ps)
/-! ### a function is made -/
def capV (js : List Nat) (ps : PSt) : Rx (List PV) := match js with
  | [] => .ok []
  | j :: js => match ps[j]? with
    | some (.v w) => (capV js ps).bind fun ws => .ok (w :: ws)
    | _ => .bad
def dLam (f : Nat) (js : List Nat) : DP := fun ps => (capV js ps).bind fun ws => .ok (.clo f ws)
def sDef (i f : Nat) (js : List Nat) : DS := fun ps => (capV js ps).st fun ws => .nx (ps.set i (.v (.clo f ws)))
/-! ### from here on the names that are taken are stored to no more -/
def sSeal (d : DS) : DS := fun ps => match d ps with | .ret w => .ret w | .exc c => .exc c | _ => .bad
end
/-! ### a def that makes functions: its code object is known -/
structure FunT (K : PySem.W.Frag) (fd : FuncData) (c P : Addr) (ts : List Addr) : Prop where
  code : fd.code = .ref c
  hd : PySem.W.codeHdIn K c P = true
  tab : P ∈ ts
section
variable {P : Program} {w : World} {K : PySem.W.Frag} {mg : Str → Option Value} {base : Bs} {G : Pg}
end
/-! ### equations -/
section
variable (ps : PSt) (a : DP) (d : DA) (tab l : List (Nat × Nat)) (g : Nat → List PV → Rx PV)
@[simp] theorem e_callV : dCallV tab g a d ps = (a ps).bind fun y => appC tab g y (d ps) := rfl
@[simp] theorem e_callA : dCallA tab g l a d ps = (a ps).bind fun x => (fldP l x).bind fun y => appC tab g y (d ps) := rfl
@[simp] theorem e_lam (f : Nat) (js : List Nat) : dLam f js ps = (capV js ps).bind fun ws => .ok (.clo f ws) := rfl
@[simp] theorem e_def (i f : Nat) (js : List Nat) : sDef i f js ps = (capV js ps).st fun ws => .nx (ps.set i (.v (.clo f ws))) := rfl
@[simp] theorem e_seal (s : DS) : sSeal s ps = match s ps with | .ret w => .ret w | .exc c => .exc c | _ => .bad := rfl
@[simp] theorem e_capnil : capV [] ps = .ok [] := rfl
@[simp] theorem e_capcons (j : Nat) (js : List Nat) : capV (j :: js) ps = match ps[j]? with | some (.v w) => (capV js ps).bind fun ws => .ok (w :: ws) | _ => .bad := rfl
end
/-! ### where they are written -/
instance : Inhabited Nst := ⟨⟨{ posonlyargs := [], args := [], vararg := none, kwonlyargs := [], kw_defaults := [], kwarg := none, defaults := [] }, .stmts [], { kind := .function, names := [], isGenerator := false, isCoroutine := false }, []⟩⟩
end DN
end
section
set_option Elab.async false
set_option linter.all false
set_option maxRecDepth 100000
set_option maxHeartbeats 4000000
namespace L2
open PySem PySem.Spec PyProof.Rows
end L2
namespace DN
open PySem PySem.Spec PyProof.Rows L2
section
variable {X : Cx} {G : Pg} {e a b o tg : Expr} {es : List Expr} {body : List Stmt} {da db : DP} {d : DA} {ds : DS} {pos p apos cpos : Pos} {x m : Str} {k i : Nat} {ms : List Bool}
end
section
variable (ps : PSt) (a : DP) (d : DA) (dma : DMA) (dm : DM) (t u : DTM) (dt : DT) (s r : DS)
@[simp] theorem e_mNew (c n : Nat) : mNew c n dma ps = (dma ps).bind fun r => if r.1.length = n then .ok (.obj c r.1, r.2) else .bad := rfl
@[simp] theorem e_mTr : mTr dm ps = (dm ps).bind fun r => match r.1 with | .bl b => .ok (b, r.2) | _ => .bad := rfl
@[simp] theorem e_mOfT : mOfT dt ps = (dt ps).bind fun b => .ok (b, ps) := rfl
@[simp] theorem e_mNot : mNot t ps = (t ps).bind fun r => .ok (!r.1, r.2) := rfl
@[simp] theorem e_mOr : mOr t u ps = (t ps).bind fun r => if r.1 = true then .ok (true, r.2) else u r.2 := rfl
@[simp] theorem e_mAnd : mAnd t u ps = (t ps).bind fun r => if r.1 = true then u r.2 else .ok (false, r.2) := rfl
@[simp] theorem e_ifM : sIfM t s r ps = (t ps).st fun x => if x.1 = true then s x.2 else r x.2 := rfl
@[simp] theorem e_whileM : sWhileM t s ps = (iterM t s 100000 ps).getD .bad := rfl
end
end DN
end
section
set_option Elab.async false
set_option linter.all false
set_option maxRecDepth 100000
set_option maxHeartbeats 4000000
namespace L2
open PySem PySem.Spec PyProof.Rows PySem.Builtin PySem.Builtin.Str
end L2
namespace DN
open PySem PySem.Spec PyProof.Rows L2
section
variable {X : Cx} {G : Pg} {e : Expr} {da : DP} {pos : Pos}
/-! ### x[lo:hi] of a text -/
def dCutS (d : DP) (dl dh : PSt → Rx (Option Int)) : DP := fun ps => (d ps).bind fun x => (dl ps).bind fun lo => (dh ps).bind fun hi => match x with
  | .str z => if (PySem.StrLaws.sliceText z lo hi).length ≤ sizeLine then .ok (.str (PySem.StrLaws.sliceText z lo hi)) else .bad
  | _ => .bad
@[simp] theorem e_cutS (ps : PSt) (dl dh : PSt → Rx (Option Int)) : dCutS da dl dh ps = (da ps).bind fun x => (dl ps).bind fun lo => (dh ps).bind fun hi => match x with
  | .str z => if (PySem.StrLaws.sliceText z lo hi).length ≤ sizeLine then .ok (.str (PySem.StrLaws.sliceText z lo hi)) else .bad
  | _ => .bad := rfl
end
end DN
end
section
set_option Elab.async false
set_option linter.all false
set_option maxRecDepth 100000
set_option maxHeartbeats 4000000
namespace L2
open PySem PySem.Spec PyProof.Rows PySem.Builtin PySem.Builtin.Str
section
variable {X : Cx}
end
end L2
namespace DN
open PySem PySem.Spec PyProof.Rows L2
section
variable {X : Cx} {G : Pg} {o e a b c : Expr} {da db dc : DP} {pos apos cpos : Pos}
def dInv (d : DP) : DP := fun ps => (d ps).bind fun x => match x with | .int i => .ok (.int (Builtin.bitNot i)) | _ => .bad
/-! ### chains of comparisons -/
def dChain (f g : PV → PV → Rx PV) (a b c : DP) : DP := fun ps => (a ps).bind fun x => (b ps).bind fun y => (f x y).bind fun z => match z with | .bl true => (c ps).bind fun w => g y w | .bl false => .ok (.bl false) | _ => .bad
end
section
variable (ps : PSt) (a b c : DP) (f g : PV → PV → Rx PV)
@[simp] theorem e_chain : dChain f g a b c ps = (a ps).bind fun x => (b ps).bind fun y => (f x y).bind fun z => match z with | .bl true => (c ps).bind fun w => g y w | .bl false => .ok (.bl false) | _ => .bad := rfl
@[simp] theorem e_inv : dInv a ps = (a ps).bind fun x => match x with | .int i => .ok (.int (Builtin.bitNot i)) | _ => .bad := rfl
end
end DN
end
section
set_option Elab.async false
set_option linter.all false
set_option maxRecDepth 100000
set_option maxHeartbeats 4000000
namespace L2
open PySem PySem.Spec PyProof.Rows
section
variable {X : Cx}
end
end L2
namespace DN
open PySem PySem.Spec PyProof.Rows L2
section
variable {X : Cx} {G : Pg} {o e a b c : Expr} {da db dc : DP} {pos apos cpos : Pos}
/-! ### is True -/
def fIsB : PV → PV → Rx PV
  | .bl b, .bl c => .ok (.bl (b == c))
  | _, _ => .bad
def fIsNB : PV → PV → Rx PV
  | .bl b, .bl c => .ok (.bl (!(b == c)))
  | _, _ => .bad
/-! ### frozen between two statements -/
def sFrzG (i : Nat) (d : DS) : DS := fun ps => match ps[i]? with | some (.own y) => d (ps.set i (.v y.pv)) | _ => d ps
end
section
variable (ps : PSt) (i : Nat) (d : DS)
@[simp] theorem e_sFrzG : sFrzG i d ps = match ps[i]? with | some (.own y) => d (ps.set i (.v y.pv)) | _ => d ps := rfl
@[simp] theorem e_isB (b c : Bool) : fIsB (.bl b) (.bl c) = .ok (.bl (b == c)) := rfl
@[simp] theorem e_isNB (b c : Bool) : fIsNB (.bl b) (.bl c) = .ok (.bl (!(b == c))) := rfl
end
end DN
end
section
set_option Elab.async false
set_option linter.all false
set_option maxRecDepth 100000
set_option maxHeartbeats 4000000
namespace DN
open PySem PySem.Spec PyProof.Rows L2
section
variable {K : PySem.W.Frag} {G : Pg} {H H' : Hp} {A A' : Av} {c : Fr} {ow : Ows} {ps : PSt} {σ : L2.St}
def isAls : Sl → Bool
  | .als _ _ => true
  | _ => false
def killA : Sl → Sl
  | .als _ _ => .no
  | s => s
end
section
variable {X : Cx} {G : Pg} {e ke value : Expr} {da db dk dv : DP} {d : DA} {ds : DS} {pos pos' p tpos : Pos} {x y : Str} {i j : Nat}
/-! ### d[k] = a new list -/
def sDputN (i : Nat) (dk : DP) (d : DA) : DS := fun ps => (d ps).st fun ws => (dk ps).st fun y => match ps[i]?, keyP y with
  | some (.own (.dic [] [])), some k => if ps.any isAls = false then .nx (ps.set i (.dol [k] [ws])) else .bad
  | some (.dol ks xss), some k => if ps.any isAls = false ∧ ks.length = xss.length ∧ ks.length < 999 ∧ inK ks k = false then .nx (ps.set i (.dol (ks ++ [k]) (xss ++ [ws]))) else .bad
  | _, _ => .bad
/-! ### x = d[k] -/
def kIx : List Key → Key → Nat → Option Nat
  | [], _, _ => none
  | k' :: ks, k, n => if k' = k then some n else kIx ks k (n + 1)
def sAls (i j : Nat) (dk : DP) : DS := fun ps => (dk ps).st fun y => match ps[j]?, keyP y with
  | some (.dol ks xss), some k => (match kIx ks k 0 with | some m => .nx (ps.set i (.als j m)) | none => .bad)
  | _, _ => .bad
/-! ### the list that another name stands for -/
def dAls (i : Nat) : DP := fun ps => match ps[i]? with
  | some (.als d j) => (match ps[d]? with
    | some (.dol _ xss) => (match xss[j]? with | some xs => .ok (.lst xs) | none => .bad)
    | _ => .bad)
  | _ => .bad
theorem RepS.als {K : PySem.W.Frag} {c : Fr} {ow : Ows} {ps : PSt} {σ : L2.St} {H : Hp} {d : Nat} {ks : List Key} {xss : List (List PV)} {xs : List PV} (R : RepS K G c H ow ps σ) (h1 : ps[i]? = some (.als d j)) (h2 : ps[d]? = some (.dol ks xss)) (h3 : xss[j]? = some xs) :
    ∃ q, σ[i]? = some (some (.ref q)) ∧ ow (vx ps.length d j) = some q ∧ j < 1000 ∧ RepO K G H (av c ow) (.lst xs) q := by
  obtain ⟨o, eo, z, q, rfl, e1⟩ := R.get h1
  obtain ⟨o', eo', p0, qs, e3, rfl, hp, l1, l2, l3, hq⟩ := R.get h2
  have hj : j < qs.length := by
    have := (List.getElem?_eq_some_iff.mp h3).1
    omega
  obtain ⟨h5, h6⟩ := hq j _ xs (List.getElem?_eq_getElem hj) h3
  rw [e1] at h5
  cases h5
  exact ⟨_, eo, e1, by omega, h6⟩
def sSetA (i : Nat) (dk dv : DP) : DS := fun ps => (dv ps).st fun w => (dk ps).st fun y => match ps[i]?, y with
  | some (.als d j), .int n => (match ps[d]? with
    | some (.dol ks xss) => (match xss[j]? with
      | some xs => (match ixN xs.length n with | some m => .nx (ps.set d (.dol ks (xss.set j (xs.set m w)))) | none => .bad)
      | none => .bad)
    | _ => .bad)
  | _, _ => .bad
/-! ### frozen -/
def sFrzD (i : Nat) (d : DS) : DS := fun ps => match ps[i]? with
  | some (.dol ks xss) => d ((ps.map killA).set i (.v (.dic ks (xss.map PV.lst))))
  | _ => d ps
end
section
variable (ps : PSt) (i j : Nat) (dk dv : DP) (d : DA) (ds : DS)
@[simp] theorem e_itemsB : dItemsB i ps = match ps[i]? with | some (.bor (.lst xs)) => .ok xs | _ => .bad := rfl
@[simp] theorem e_dputN : sDputN i dk d ps = (d ps).st fun ws => (dk ps).st fun y => match ps[i]?, keyP y with
  | some (.own (.dic [] [])), some k => if ps.any isAls = false then .nx (ps.set i (.dol [k] [ws])) else .bad
  | some (.dol ks xss), some k => if ps.any isAls = false ∧ ks.length = xss.length ∧ ks.length < 999 ∧ inK ks k = false then .nx (ps.set i (.dol (ks ++ [k]) (xss ++ [ws]))) else .bad
  | _, _ => .bad := rfl
@[simp] theorem e_sAls : sAls i j dk ps = (dk ps).st fun y => match ps[j]?, keyP y with
  | some (.dol ks xss), some k => (match kIx ks k 0 with | some m => .nx (ps.set i (.als j m)) | none => .bad)
  | _, _ => .bad := rfl
@[simp] theorem e_dAls : dAls i ps = match ps[i]? with
  | some (.als d j) => (match ps[d]? with
    | some (.dol _ xss) => (match xss[j]? with | some xs => .ok (.lst xs) | none => .bad)
    | _ => .bad)
  | _ => .bad := rfl
@[simp] theorem e_setA : sSetA i dk dv ps = (dv ps).st fun w => (dk ps).st fun y => match ps[i]?, y with
  | some (.als d j), .int n => (match ps[d]? with
    | some (.dol ks xss) => (match xss[j]? with
      | some xs => (match ixN xs.length n with | some m => .nx (ps.set d (.dol ks (xss.set j (xs.set m w)))) | none => .bad)
      | none => .bad)
    | _ => .bad)
  | _, _ => .bad := rfl
@[simp] theorem e_frzD : sFrzD i ds ps = match ps[i]? with
  | some (.dol ks xss) => ds ((ps.map killA).set i (.v (.dic ks (xss.map PV.lst))))
  | _ => ds ps := rfl
end
end DN
end
section
set_option Elab.async false
set_option linter.all false
set_option maxRecDepth 100000
set_option maxHeartbeats 4000000
namespace DN
open PySem PySem.Spec PyProof.Rows L2
/-! ### dicts whose keys are tuples -/
def keyT : List PV → Option (List Key)
  | [] => some []
  | y :: ys => match keyP y, keyT ys with | some k, some ks => some (k :: ks) | _, _ => none
def getT {α : Type} : List (List Key) → List α → List Key → Option α
  | k' :: ks, x :: xs, k => if k' = k then some x else getT ks xs k
  | _, _, _ => none
def inT (ks : List (List Key)) (k : List Key) : Bool := ks.any fun k' => decide (k' = k)
section
variable {K : PySem.W.Frag} {G : Pg} {H : Hp} {A : Av}
end
section
variable {X : Cx} {G : Pg} {o value : Expr} {es : List Expr} {da dv : DP} {dk : DA} {ds : DS} {pos pos' p tp tpos : Pos} {x : Str} {i : Nat} {ms : List Bool}
def sOwnDT (i : Nat) : DS := fun ps => if i < ps.length then .nx (ps.set i (.own (.dit [] []))) else .bad
def sDputT (i : Nat) (dk : DA) (dv : DP) : DS := fun ps => (dv ps).st fun w => (dk ps).st fun ys => match ps[i]?, keyT ys with
  | some (.own (.dit ks xs)), some k => if ks.length < 10000 ∧ inT ks k = false then .nx (ps.set i (.own (.dit (ks ++ [k]) (xs ++ [w])))) else .bad
  | _, _ => .bad
def dDGetT (da : DP) (dk : DA) : DP := fun ps => (da ps).bind fun z => (dk ps).bind fun ys => match z, keyT ys with
  | .dit ks xs, some k => (match getT ks xs k with | some w => .ok w | none => .bad)
  | _, _ => .bad
end
section
variable (ps : PSt) (i : Nat) (da dv : DP) (dk : DA)
@[simp] theorem e_ownDT : sOwnDT i ps = if i < ps.length then .nx (ps.set i (.own (.dit [] []))) else .bad := rfl
@[simp] theorem e_dputT : sDputT i dk dv ps = (dv ps).st fun w => (dk ps).st fun ys => match ps[i]?, keyT ys with
  | some (.own (.dit ks xs)), some k => if ks.length < 10000 ∧ inT ks k = false then .nx (ps.set i (.own (.dit (ks ++ [k]) (xs ++ [w])))) else .bad
  | _, _ => .bad := rfl
@[simp] theorem e_dgetT : dDGetT da dk ps = (da ps).bind fun z => (dk ps).bind fun ys => match z, keyT ys with
  | .dit ks xs, some k => (match getT ks xs k with | some w => .ok w | none => .bad)
  | _, _ => .bad := rfl
end
end DN
end
section
set_option Elab.async false
set_option linter.all false
set_option maxRecDepth 100000
set_option maxHeartbeats 4000000
namespace L2
open PySem PySem.Spec PyProof.Rows
/-! ### exceptions: own classes over ValueError -/
abbrev vE : List Value := [.type "ValueError", .type "Exception", .type "BaseException", .type "object"]
def ExcF (K : PySem.W.Frag) (C : Addr) : Prop := PySem.W.excIn K C vE "ValueError.__new__" = true
structure ExcOb (h : Heap) (C : Addr) : Prop where
  obj : ∃ bm N nm q bs hdct sn sub ab col dd k0 k1 k2 k3 k5 mN, h.get? C = some (excClassObj nm q C N bs bm hdct sn sub ab col dd k0 k1 k2 k3 k5 "ValueError.__new__") ∧ h.Ns N mN ∧ mN "__init__" = none ∧ OwnTail h vE bm
theorem ExcF.ob {K : PySem.W.Frag} {h : Heap} {C : Addr} (e : ExcF K C) (X : K.In h) : ExcOb h C := by
  refine ⟨?_⟩
  unfold ExcF PySem.W.excIn at e
  split at e
  · rename_i dd cd sl ho
    split at e
    · rename_i C' bm k0 k1 k2 k3 n k5 hm hs
      simp only [Bool.and_eq_true, beq_iff_eq, Bool.not_eq_true'] at e
      obtain ⟨⟨⟨⟨⟨rfl, rfl⟩, hdel⟩, ht⟩, hok⟩, hni⟩ := e
      obtain ⟨nm, bs, mro, ns, qn, hd, sn, sub, ab, col, del⟩ := cd
      dsimp only at hm hdel hok hni
      subst hm hdel
      have hsl : sl = #[k0, k1, k2, k3, some (.builtin "ValueError.__new__"), k5] := by
        obtain ⟨l⟩ := sl
        simp only at hs
        rw [hs]
      subst hsl
      exact ⟨bm, ns, nm, qn, bs, hd, sn, sub, ab, col, dd, k0, k1, k2, k3, k5, _, X _ _ ho, .of_isNs (PySem.W.isNs_of_in X hok), PySem.W.nsMap_none_of_in X hok hni, PySem.W.tail_of_in X ht⟩
    · cases e
  · cases e
/-! ### an exception in flight: h0 the heap at the call, h1 the heap where it was made -/
structure FlyX (outer : List Env) (H' : Hp) (h0 h1 h' : Heap) (e : Addr) (cls : Value) : Prop where
  ex : ∃ B a0, Heap.FlyingW B outer e cls a0 h' ∧ ∀ b o, h1.get? b = some o → b ∉ frs outer → (H' b ≠ none ∨ ∃ o0, h0.get? b = some o0) → B.get? b = some o
  up : h1.UpToSlots h'
def CX1 (P : Program) (w : World) : CXT := fun outer H s E e s' => ∃ a cls H' h1, e = .ref a ∧ s'.os = s.os ∧ AllBare s'.gens ∧ Un (frs outer) [] H H' s.heap h1 ∧ HOk P w H' h1 ∧ (∀ b ∈ frs outer, H' b = none) ∧ FlyX outer H' s.heap h1 s'.heap a cls ∧ E cls none H'
theorem fly_move {P : Program} {w : World} {fs : List Addr} {H H' : Hp} {h0 h1 h5 B : Heap} (hB : B.StaysIn h5) (up : h1.UpToSlots h5) (hk : ∀ b o, h1.get? b = some o → b ∉ fs → (H' b ≠ none ∨ ∃ o0, h0.get? b = some o0) → B.get? b = some o)
    (hf : ∀ b ∈ fs, H' b = none) (nf : ∀ b ∈ fs, ∃ o, h0.get? b = some o ∧ H b = none ∧ ∀ vs, o.data ≠ .fields vs) (u : Un fs [] H H' h0 h1) (ok : HOk P w H' h1) : Un fs [] H H' h0 h5 ∧ HOk P w H' h5 := by
  have sl : ∀ b ∈ fs, ∀ o, h0.get? b = some o → ∃ sl, h5.get? b = some { o with slots := sl } := fun b hb o e => by
    obtain ⟨o', e', n, d⟩ := nf b hb
    rw [e] at e'; cases e'
    obtain ⟨sl, q⟩ := u.slot b o e n hb (by simp)
    obtain ⟨sl', q'⟩ := up b _ q (fun vs z => d vs z)
    exact ⟨sl', q'⟩
  refine ⟨⟨fun b o e n hb hx => ?_, fun b o e n hb hx => sl b hb o e, u.free, fun b o e hx => ?_, u.tups, u.frzs, u.tbls⟩, fun a o e => ?_⟩
  · have q := u.keep b o e n hb hx
    exact hB b o (hk b o q hb (.inr ⟨o, e⟩))
  · by_cases hb : b ∈ fs
    · obtain ⟨s', q⟩ := sl b hb o e
      exact ⟨_, q⟩
    · obtain ⟨o', q⟩ := u.there b o e hx
      exact ⟨o', hB b o' (hk b o' q hb (.inr ⟨o, e⟩))⟩
  · refine (ok a o e).stay (fun c v hc q => ?_) (fun _ q => q) (fun _ _ q => q) fun _ _ _ q => q
    have hn : H' c ≠ none := by
      rcases hc with z | z
      · rw [z, e]; simp
      · rw [z]; simp
    exact hB c v (hk c v q (fun z => hn (hf c z)) (.inl hn))
section
variable {P : Program} {w : World} {K : PySem.W.Frag} {mg : Str → Option Value} {base : Bs} {N : List Str} {qual : Str} {scope : Scope} {f : Addr} {cd : Value} {A : Around} {outer : List Env} {s0 : Shared} {H0 : Hp} {E E' : XK}
/-- it is made here, and leaves -/
theorem raise_leaves {pins : List (Addr × Obj)} {σ : St} {H : Hp} {s : Shared} {h' : Heap} {a : Addr} {cls : Value} {args : List Value} (I : Inv (cxOf (CX1 P w) P w K mg base N qual scope f cd A outer s0 H0 E) pins σ H s) (mk : Heap.MadeExcOf s.heap h' a cls args) (hE : E cls none H) :
    (cxOf (CX1 P w) P w K mg base N qual scope f cd A outer s0 H0 E).xe (.ref a) { s with heap := h' } := by
  have hin : ∀ env ∈ (cxOf (CX1 P w) P w K mg base N qual scope f cd A outer s0 H0 E).stack, ∀ b, env.frame = some b → b ∈ frs (cxOf (CX1 P w) P w K mg base N qual scope f cd A outer s0 H0 E).stack := fun env he b hb => List.mem_filterMap.mpr ⟨env, he, hb⟩
  have ff := PySem.W.funFrames_hide I.stack hin
  refine wpAny_leaves_madeW (h := s.heap) (s := { s with heap := h' }) I.ok.frames rfl (fun b o q => PySem.W.of_hideAll _ q) ff mk fun h2 t fly tup tn ups => ?_
  refine ⟨a, cls, H, s.heap, rfl, I.os, I.bare, I.base, I.hok, fun b hb => I.stkFree b (List.mem_cons_of_mem _ hb), ⟨⟨_, _, fly, fun b o e hb hh => ?_⟩, ?_⟩, hE⟩
  · refine PySem.W.hideAll_get _ e fun z => ?_
    rcases List.mem_cons.mp (I.stkSub b z) with q | q
    · rcases hh with hh | ⟨o0, e0⟩
      · exact hh (by rw [q]; exact I.free)
      · rw [q] at e0
        exact absurd (Nat.lt_of_lt_of_le (Heap.lt_size e0) I.ok.above) (Nat.lt_irrefl _)
    · exact hb q
  · exact (Heap.UpToSlots.of_keeps mk.keeps).trans ups
end
/-- a def that raises none can be asked as one that never raises -/
theorem fnx_none {P : Program} {w : World} {K : PySem.W.Frag} {mg : Str → Option Value} {base : Bs} {k : Nat} {f : Addr} {fd : FuncData} {ps : List Str} {sp sp' : Sp} (F : FnOk P w K mg base (CX1 P w) k f fd ps sp) (h : ∀ vs H Q E, sp' vs H Q E → sp vs H Q fun _ _ _ => False) :
    FnOk P w K mg base CX0 k f fd ps sp' := by
  refine ⟨fun vs H Q E q => F.len _ _ _ _ (h _ _ _ _ q), fun A outer s H args us vs Q E hr e0 hb r q => codeAny_mono (F.run A outer s H args us vs Q _ hr e0 hb r (h _ _ _ _ q)) fun r s' z => ?_⟩
  cases r with
  | ok fl => cases fl <;> exact z
  | error e =>
    obtain ⟨_, _, _, _, _, _, _, _, _, _, _, z⟩ := z
    exact z.elim
theorem Fun.okX {P : Program} {w : World} {K : PySem.W.Frag} {mg : Str → Option Value} {base : Bs} {x qual : Str} {st : Stmt} {f : Addr} {fd : FuncData} {N ps : List Str} {k : Nat} {sp : Sp} (F : Fun K x qual st f fd) (S : FnScope N ps (defScope st)) (len : ∀ vs H Q E, sp vs H Q E → vs.length = ps.length)
    (hbody : ∀ (cdv : Value) (A : Around) (outer : List Env) (s : Shared) (H : Hp) (vs : List V) (Q : VK) (E : XK), Room k (A.deeper (envOfC qual (defScope st) s.heap.objs.size f cdv)) → sp vs H Q E →
      ∃ t, PSs (cxOf (CX1 P w) P w K mg base N qual (defScope st) f cdv A outer s H E) (defBody st) t ∧ t { nx := fun _ H' => Q .non H', rt := Q } (start N vs) H) : FnOk P w K mg base (CX1 P w) (k + 1) f fd ps sp := by
  obtain ⟨oc, od, kV, doc, pm, an, cdv, ct, osl, rfl, lk, hcd⟩ := F.ex
  exact fn_of lk hcd S len fun A outer s H vs Q E hr hsp => hbody cdv A outer s H vs Q E hr hsp
/-! ### raise -/
section
variable {X : Cx}
/-- what is made here and leaves is as it is wanted -/
def Lv (X : Cx) (E : XK) : Prop := ∀ (pins : List (Addr × Obj)) (σ : St) (H : Hp) (s : Shared) (h' : Heap) (a : Addr) (cls : Value) (args : List Value), Inv X pins σ H s → Heap.MadeExcOf s.heap h' a cls args → E cls none H → X.xe (.ref a) { s with heap := h' }
theorem ps_raise {x : Str} {C : Addr} {y : Str} {j} {np cpos pos yp : Pos} {E : XK} (hl : Lv X E) (hc : X.calm = true) (hg : Gl X x) (hm : X.mg x = some (.ref C)) (hC : ExcF X.K C) (hd : (x == ("__debug__" : Str)) = false := by decide)
    (hpl : (backTo cpos (starEach [.Constant (.str y) j yp] X.env)).any (·.1) = false := by rfl) : PS X (.Raise (some (.Call (.Name x np) [.Constant (.str y) j yp] [] cpos)) none pos) (fun _ _ H => E (.ref C) none H) := by
  intro pins s σ H D I h
  obtain ⟨bm, N, nm, q, bs, hdct, sn, sub, ab, col, dd, k0, k1, k2, k3, k5, mN, hCo, hN, hni, TL⟩ := (hC.ob I.kIn).obj
  refine wpAny_Raise_call_subT (C := C) (nm := nm) (q := q) (N := N) (bs := bs) (bm := bm) (hdct := hdct) (sn := sn) (sub := sub) (ab := ab) (col := col) (dd := dd) (k0 := k0) (k1 := k1) (k2 := k2) (k3 := k3) (k5 := k5) PySem.F.excBase_ValueError (TL.hasType (by rfl)) (I.ok.hd hc) hpl hni ?_
  refine ld_glob I hg hm ⟨rfl, ?_⟩ hd
  refine Calls.evalArgs_plain (Calls.spliced_cons (Calls.Constant_str (k := j) (pos := yp) (Calls.spliced_nil ?_)))
  exact ⟨rfl, (by decide : (1 : Nat) ≤ sizeLine), hCo, hN, TL, fun h' e mk => hl pins σ H { s with toks := s.toks + 1 } h' e _ _ (I.tok _) mk h⟩
end
/-! ### try: y = f(..) except C: suite -/
abbrev Cx.mk' (X : Cx) (e : Value) : Cx := { X with A := X.A.mark (some e), calm := false }
section
variable {X : Cx} {pins : List (Addr × Obj)} {σ : St} {H : Hp} {s : Shared} {e : Value}
theorem Inv.mark (I : Inv X pins σ H s) (e : Value) : Inv (X.mk' e) pins σ H s :=
  ⟨⟨I.ok.mod, I.ok.kind, I.ok.glob, I.ok.blt, I.ok.above, I.ok.inj, I.ok.has, I.ok.cab, fun z => (by cases z), I.ok.frames, I.ok.stk, I.ok.exf, I.ok.bs, I.ok.bsz, I.ok.noex, I.ok.exfs, I.ok.funs, I.ok.frf, I.ok.tab, I.ok.fc⟩, I.os, I.bare, I.base, I.loc, I.cell, I.free, I.freeC, I.pin, I.hok, I.len⟩
theorem Inv.unmark (ok : X.Ok) (I : Inv (X.mk' e) pins σ H s) : Inv X pins σ H s := ⟨ok, I.os, I.bare, I.base, I.loc, I.cell, I.free, I.freeC, I.pin, I.hok, I.len⟩
theorem SP.unmark (ok : X.Ok) {D : Ends} {f : Flow} {s' : Shared} (h : SP (X.mk' e) pins D f s') : SP X pins D f s' := by
  cases f with
  | next => obtain ⟨σ', H', I, q⟩ := h; exact ⟨σ', H', I.unmark ok, q⟩
  | brk => obtain ⟨σ', H', I, q⟩ := h; exact ⟨σ', H', I.unmark ok, q⟩
  | cont => obtain ⟨σ', H', I, q⟩ := h; exact ⟨σ', H', I.unmark ok, q⟩
  | ret u => obtain ⟨v, H', I, r, q⟩ := h; exact ⟨v, H', ⟨I.os, I.bare, I.base, I.hok⟩, r, q⟩
/-- a call whose exception is awaited here -/
theorem call_at {CX : CXT} {k : Nat} {sp : Sp} {E : XK} {x : Str} {p pos : Pos} {e : Expr} {es : List Expr} {t : TA} {Q : VK} {XE : Value → Shared → Prop} (h : FnAt X.prog X.w X.K X.mg X.base CX k x sp) (hr : Room k X.A) (hg : Gl X x) (hxe : X.xe = fun _ _ => False) (ha : PA X (e :: es) t)
    (hx : ∀ H1 s1 e1 s', Inv X pins σ H1 s1 → CX X.stack H1 s1 E e1 s' → XE e1 s') (I : Inv X pins σ H s) (hq : t σ H fun vs H1 => sp vs H1 Q E) (hdb : (x == ("__debug__" : Str)) = false)
    (he : starEach (e :: es) X.env = (false, eval e X.env) :: starEach es X.env) (hpl : (backTo pos (starEach es X.env)).any (·.1) = false) :
    wpAny (model X.prog X.w) X.A (eval (.Call (.Name x p) (e :: es) [] pos) X.env) (EP X pins σ Q) XE s := by
  obtain ⟨f, fd, ps, hm, hk, F, hb⟩ := h.ex
  refine wpAny_Call_Name_kw (ld_glob I hg hm ?_ hdb)
  refine PySem.W.callWith_K (h₀ := X.base) I.ok.mod.kin hk (wpAny_mono (ha pos pins s σ H _ I hq) (fun us s1 ⟨vs, H1, I1, r, q⟩ => ⟨I1.kIn, ?_⟩) (fun e s1 z => by rw [hxe] at z; exact z.elim)) he hpl
  have hl : us.length = ps.length := by rw [← r.length]; exact F.len _ _ _ _ q
  have hb' := hb s1 us I1.kIn (by rw [List.append_nil]; exact hl)
  rw [List.append_nil] at hb'
  refine wpAny_call (codeAny_mono (F.run X.A X.stack s1 H1 ⟨us, []⟩ us vs Q E hr I1.env0 hb' r q) fun r s' z => ?_)
  cases r with
  | error e => exact hx H1 s1 e s' I1 z
  | ok fl =>
    cases fl with
    | ret u => exact I1.after z
    | next => exact False.elim z
    | brk => exact False.elim z
    | cont => exact False.elim z
/-- the exception is caught -/
theorem catch_at {E : XK} {cx : Str} {np hpos : Pos} {b0 : Stmt} {suite : List Stmt} {C : Addr} {th : TS} {D : Ends} {s' : Shared} (hst : X.stack = X.env :: X.outer) (hfr : X.env.frame = some X.env.locals) (hxe : X.xe = fun _ _ => False) (hg : Gl X cx) (hm : X.mg cx = some (.ref C)) (hC : ExcF X.K C) (hd : (cx == ("__debug__" : Str)) = false)
    (hb : ∀ e, PSs (X.mk' e) (b0 :: suite) th) (hE : ∀ c o H2, E c o H2 → c = .ref C ∧ th D σ H2) (I : Inv X pins σ H s) (h : CX1 X.prog X.w X.stack H s E e s') :
    wpAny (model X.prog X.w) X.A (noteFrame e X.env) (fun _ s₂ => wpAny (model X.prog X.w) X.A (setFlight e none) (fun _ s₃ => wpAny (model X.prog X.w) X.A (handleBy e X.env [.ExceptHandler (some (.Name cx np)) none (b0 :: suite) hpos]) (SP X pins D) X.xe s₃) X.xe s₂) X.xe s' := by
  obtain ⟨a, cls, H', h1, rfl, os, bare, u, ok, hf, ⟨⟨B, a0, fly, hk⟩, up⟩, q⟩ := h
  obtain ⟨rfl, ht⟩ := hE _ _ _ q
  have nf : ∀ b ∈ frs X.stack, ∃ o, s.heap.get? b = some o ∧ H b = none ∧ ∀ vs, o.data ≠ .fields vs := fun b hb => by
    obtain ⟨_, o, e, d⟩ := I.stack.mem hb
    exact ⟨o, e, I.stkFree b hb, d⟩
  have mv : ∀ h6 : Heap, B.StaysIn h6 → h1.UpToSlots h6 → Inv X pins σ H' { s' with heap := h6 } := fun h6 k1 k2 => by
    obtain ⟨u6, ok6⟩ := fly_move k1 k2 hk hf nf u ok
    exact I.call' (s' := { s' with heap := h6 }) (ch := []) os u6 ok6 bare (fun b z => absurd z (by simp))
  rw [hst] at fly
  refine wpAny_looks_onW (by rw [← hst]; exact I.ok.frames) hfr fly fun h4 held4 up4 => ?_
  refine wpAny_landsW (s := { s' with heap := h4 }) held4 fun h5 fly5 up5 => ?_
  have I5 := mv h5 fly5.1 ((up.trans up4).trans up5)
  obtain ⟨ob, hob, hobc⟩ := fly5.there
  refine wpAny_handleBy_cons (codeAny_handlers_test ?_) (by intro z; cases z)
  refine ld_glob (X := X.mk' (.ref a)) (I5.mark (.ref a)) hg hm ?_ hd
  obtain ⟨bm, N, nm, qn, bs, hdct, sn, sub, ab, col, dd, k0, k1, k2, k3, k5, mN, hCo, hN, hni, TL⟩ := (hC.ob I5.kIn).obj
  refine wpAny_excMatches_sub_self hCo hob hobc (TL.hasType (by rfl)) (codeAny_handlers_suite ?_)
  refine lands_againW (s := { s' with heap := h5 }) fly5 fun h6 fly6 up6 => ?_
  have I6 := mv h6 fly6.1 (((up.trans up4).trans up5).trans up6)
  refine wpAny_passesOwnAt (by rw [hxe]; exact PassesOwnAt.never) ?_
  exact wpAny_mono (hb (.ref a) pins _ σ H' D (I6.mark _) ht) (fun f s2 q => SP.unmark I.ok q) (fun _ _ z => z)
end
theorem ps_tryC {X : Cx} {k i : Nat} {sp : Sp} {x y cx : Str} {p pos py pos' np hpos tpos : Pos} {e : Expr} {es : List Expr} {t : TA} {b0 : Stmt} {suite : List Stmt} {C : Addr} {th : TS} (hst : X.stack = X.env :: X.outer) (hfr : X.env.frame = some X.env.locals) (hxe : X.xe = fun _ _ => False)
    (hN : X.N.Nodup) (hi : X.N[i]? = some y) (hy : Loc X.env.scope y) (h : FnAt X.prog X.w X.K X.mg X.base (CX1 X.prog X.w) k x sp) (hr : Room k X.A) (hg : Gl X x) (ha : PA X (e :: es) t) (hgc : Gl X cx) (hmc : X.mg cx = some (.ref C)) (hC : ExcF X.K C) (hb : ∀ e, PSs (X.mk' e) (b0 :: suite) th)
    (hdb : (x == ("__debug__" : Str)) = false := by decide) (hdc : (cx == ("__debug__" : Str)) = false := by decide) (he : starEach (e :: es) X.env = (false, eval e X.env) :: starEach es X.env := by rfl) (hpl : (backTo pos (starEach es X.env)).any (·.1) = false := by rfl)
    (hs : swapsWith (.Call (.Name x p) (e :: es) [] pos) (some (.Name y py)) pos'.line X.env = pure false := by rfl) (hf : X.fn y = true ∨ X.env.scope.names.lookup y = some .local := by first | exact .inl rfl | exact .inr rfl | assumption) :
    PS X (.Try [.Assign [.Name y py] (.Call (.Name x p) (e :: es) [] pos) pos'] [.ExceptHandler (some (.Name cx np)) none (b0 :: suite) hpos] [] [] tpos)
      (fun D σ H => t σ H fun vs H1 => sp vs H1 (fun v H2 => D.nx (σ.set i (some v)) H2) (fun c _ H2 => c = .ref C ∧ th D σ H2)) := by
  intro pins s σ H D I hq
  refine wpAny_Try_except (wpAny_execs_cons (wpAny_mono (wpAny_Assign_Name (Q := fun f s1 => SP X pins D f s1) (thn (call_at h hr hg hxe ha (fun H1 s1 e1 s' I1 z => catch_at hst hfr hxe hgc hmc hC hdc hb (fun c o H2 z => z) I1 z) I hq hdb he hpl) fun v s1 ⟨z, H1, I1, r1, q1⟩ => ?_) hs) (fun f s1 q => ?_) fun _ _ z => z))
  · exact store_ok I1 hN hi hy r1 (fun s2 I2 => ⟨_, H1, I2, q1⟩) hf
  · cases f with
    | next => exact wpAny_execs_nil (wpAny_execs_nil q)
    | brk => exact q
    | cont => exact q
    | ret u => exact q
end L2
end
section
set_option Elab.async false
set_option linter.all false
set_option maxRecDepth 100000
set_option maxHeartbeats 4000000
namespace DN
open PySem PySem.Spec PyProof.Rows L2
/-! ### defs that raise: their mirrors -/
def Rx.at {α : Type} (r : Rx α) (Q : α → Prop) (E : Nat → Prop) : Prop := match r with | .ok a => Q a | .exc k => E k | .bad => False
/-- the k-th class of exceptions stands at 1000 + k -/
def eA (G : Pg) (k : Nat) : Value := .ref (G.cA (1000 + k))
def spX (K : PySem.W.Frag) (G : Pg) (ms : List Bool) (g : List PV → Rx PV) : Sp := fun vs H Q E => ∃ A ws, Used H A ∧ RepM K G H A ms ws vs ∧ (g ws).at (fun w => ∀ v H', Same H H' → Rep K G H' A w v → Q v H') (fun k => ∀ H', Same H H' → E (eA G k) none H')
def EndsX (K : PySem.W.Frag) (G : Pg) (E : XK) (c : Fr) (H : Hp) (A : Av) (D : Ends) : Rs → Prop
  | .exc k => ∀ H', SmL c H' → E (eA G k) none H'
  | .nx ps => EndsAt K G c H A D (.nx ps)
  | .ret w => EndsAt K G c H A D (.ret w)
  | .retn xs => EndsAt K G c H A D (.retn xs)
  | .reti w x => EndsAt K G c H A D (.reti w x)
  | .brk ps => EndsAt K G c H A D (.brk ps)
  | .cnt ps => EndsAt K G c H A D (.cnt ps)
  | .bad => False
theorem EndsX.mono {K : PySem.W.Frag} {G : Pg} {E : XK} {c : Fr} {H H1 : Hp} {A A1 : Av} {D : Ends} {r : Rs} (h : EndsX K G E c H A D r) (k : Kp K G H A H1 A1) : EndsX K G E c H1 A1 D r := by
  cases r with
  | exc j => exact h
  | bad => exact h
  | nx ps => exact EndsAt.mono (r := .nx ps) h k
  | ret w => exact h
  | retn xs => exact h
  | reti w x => exact h
  | brk ps => exact EndsAt.mono (r := .brk ps) h k
  | cnt ps => exact EndsAt.mono (r := .cnt ps) h k
def tDx (K : PySem.W.Frag) (G : Pg) (E : XK) (d : DS) : TS := fun D σ H => ∃ (c : Fr) (ow : Ows) (ps : PSt), RepS K G c H ow ps σ ∧ EndsX K G E c H (av c ow) D (d ps)
abbrev JSx (X : Cx) (G : Pg) (E : XK) (st : Stmt) (d : DS) : Prop := PS X st (tDx X.K G E d)
abbrev JSsx (X : Cx) (G : Pg) (E : XK) (st : List Stmt) (d : DS) : Prop := PSs X st (tDx X.K G E d)
/-- no exception is thought of -/
def cutX : Rs → Rs
  | .exc _ => .bad
  | r => r
@[simp] theorem cutX_nx (ps : PSt) : cutX (.nx ps) = .nx ps := rfl
@[simp] theorem cutX_ret (w : PV) : cutX (.ret w) = .ret w := rfl
@[simp] theorem cutX_retn (w : List PV) : cutX (.retn w) = .retn w := rfl
@[simp] theorem cutX_reti (w : PV) (x : Ow) : cutX (.reti w x) = .reti w x := rfl
@[simp] theorem cutX_brk (ps : PSt) : cutX (.brk ps) = .brk ps := rfl
@[simp] theorem cutX_cnt (ps : PSt) : cutX (.cnt ps) = .cnt ps := rfl
@[simp] theorem cutX_bad : cutX .bad = .bad := rfl
def cutR {α : Type} : Rx α → Rx α
  | .exc _ => .bad
  | r => r
@[simp] theorem cutR_ok {α : Type} (a : α) : cutR (.ok a) = .ok a := rfl
@[simp] theorem cutR_bad {α : Type} : cutR (.bad : Rx α) = .bad := rfl
def sCut (d : DS) : DS := fun ps => cutX (d ps)
theorem ends_cut {K : PySem.W.Frag} {G : Pg} {E : XK} {c : Fr} {H : Hp} {A : Av} {D : Ends} {r : Rs} (h : EndsX K G E c H A D (cutX r)) : EndsAt K G c H A D r := by
  cases r <;> exact h
theorem ends_cutR {α : Type} {K : PySem.W.Frag} {G : Pg} {E : XK} {c : Fr} {H : Hp} {A : Av} {D : Ends} {m : Rx α} {f : α → Rs} (h : EndsX K G E c H A D ((cutR m).st f)) : ∃ a, m = .ok a ∧ EndsX K G E c H A D (f a) := by
  cases m with
  | ok a => exact ⟨a, rfl, h⟩
  | bad => exact h.elim
  | exc c => exact h.elim
theorem PS.nox {X : Cx} {st : Stmt} {t : TS} (h : PS X.nox st t) : PS X st t := fun pins s σ H D I hw =>
  wpAny_mono (h pins s σ H D (I.wish _) hw) (fun _ _ q => q.unwish) fun _ _ z => False.elim z
section
variable {X : Cx} {G : Pg} {E : XK} {e a b o tg : Expr} {es : List Expr} {d : DA} {ds du : DS} {dt : DT} {st : Stmt} {rest : List Stmt} {pos p : Pos} {x m : Str} {k i : Nat} {ms : List Bool}
theorem sx_of (h : JS X.nox G st ds) : JSx X G E st (sCut ds) := impS (PS.nox h) fun D σ H ⟨c, ow, ps, R, q⟩ => ⟨c, ow, ps, R, ends_cut q⟩
theorem ssx_one (h : JSx X G E st ds) : JSsx X G E [st] ds := pss_one h
theorem ssx_cons (h1 : JSx X G E st ds) (h2 : JSsx X G E rest du) : JSsx X G E (st :: rest) (sSeq ds du) := impSs (pss_cons h1 h2) fun D σ H ⟨c, ow, ps, R, q⟩ => by
  refine ⟨c, ow, ps, R, ?_⟩
  unfold sSeq at q
  cases e : ds ps with
  | nx ps' => rw [e] at q; exact fun σ' H' ow' R' k => ⟨c, ow', ps', R', EndsX.mono q k⟩
  | ret w => rw [e] at q; exact q
  | retn xs => rw [e] at q; exact q
  | reti w x => rw [e] at q; exact q
  | brk ps' => rw [e] at q; exact q
  | cnt ps' => rw [e] at q; exact q
  | bad => rw [e] at q; exact q
  | exc c => rw [e] at q; exact q
def sIfX (t : DT) (a b : DS) : DS := fun ps => (cutR (t ps)).st fun x => if x = true then a ps else b ps
theorem sx_if {c : Expr} {a b : List Stmt} (hc : JT X.nox G c dt) (ha : JSsx X G E a ds) (hb : JSsx X G E b du) : JSx X G E (.If c a b pos) (sIfX dt ds du) := impS (ps_if (PT.nox hc) ha hb) fun D σ H ⟨c, ow, ps, R, q⟩ => by
  obtain ⟨x, e1, q⟩ := ends_cutR q
  refine ⟨c, ow, ps, x, R, e1, fun H' s => ?_⟩
  split at q
  · rename_i hx; subst hx; exact iteT ⟨c, ow, ps, R.grow s, q.mono (Kp.of_same s)⟩
  · rename_i hx
    have : x = false := by simpa using hx
    subst this
    exact iteF ⟨c, ow, ps, R.grow s, q.mono (Kp.of_same s)⟩
def sIfMX (t : DTM) (a b : DS) : DS := fun ps => (cutR (t ps)).st fun r => if r.1 = true then a r.2 else b r.2
theorem sx_ifM {c : Expr} {a b : List Stmt} {d1 : DTM} (hc : JTM X.nox G c d1) (ha : JSsx X G E a ds) (hb : JSsx X G E b du) : JSx X G E (.If c a b pos) (sIfMX d1 ds du) := impS (ps_if (PT.nox hc) ha hb) fun D σ H ⟨c, ow, ps, R, q⟩ => by
  obtain ⟨⟨x, p1⟩, e1, q⟩ := ends_cutR q
  refine ⟨c, ow, ps, x, p1, R, e1, fun H1 ow1 R1 k1 => ?_⟩
  cases x with
  | true => exact iteT ⟨c, ow1, p1, R1, EndsX.mono q k1⟩
  | false => exact iteF ⟨c, ow1, p1, R1, EndsX.mono q k1⟩
theorem ssx_nil : JSsx X G E [] sNext := impSs pss_nil fun D σ H ⟨c, ow, ps, R, q⟩ => q σ H ow R (Kp.of_same (Same.refl H))
/-! values that may be raised for -/
theorem PA.nox {es : List Expr} {t : TA} (h : PA X.nox es t) : PA X es t := fun pos pins s σ H Q I hw =>
  wpAny_mono (h pos pins s σ H Q (I.wish _) hw) (fun _ _ ⟨vs, H', I', r, q⟩ => ⟨vs, H', I'.unwish, r, q⟩) fun _ _ z => False.elim z
theorem Rx.at.imp {α : Type} {r : Rx α} {Q Q' : α → Prop} {F F' : Nat → Prop} (h : r.at Q F) (hq : ∀ a, Q a → Q' a) (hf : ∀ k, F k → F' k) : r.at Q' F' := by
  cases r with
  | ok a => exact hq a h
  | bad => exact h
  | exc k => exact hf k h
def sRaise (k : Nat) : DS := fun _ => .exc k
theorem sx_raise (k : Nat) {y : Str} {j} {np cpos yp : Pos} (hl : Lv X E) (hc : X.calm = true) (hg : Gl X x) (hm : X.mg x = some (eA G k)) (hC : ExcF X.K (G.cA (1000 + k))) (hd : (x == ("__debug__" : Str)) = false := by decide)
    (hpl : (backTo cpos (starEach [.Constant (.str y) j yp] X.env)).any (·.1) = false := by rfl) : JSx X G E (.Raise (some (.Call (.Name x np) [.Constant (.str y) j yp] [] cpos)) none pos) (sRaise k) :=
  impS (ps_raise (E := E) hl hc hg hm hC hd hpl) fun D σ H ⟨c, ow, ps, R, q⟩ => q H R.same
/-- try: y = f(..) except C: suite -/
def sTryC (i : Nat) (g : List PV → Rx PV) (d : DA) (k : Nat) (dh : DS) : DS := fun ps => (d ps).st fun ws => match g ws with | .ok w => .nx (ps.set i (.v w)) | .exc c => if c = k then dh ps else .bad | .bad => .bad
theorem s_tryC {g : List PV → Rx PV} {y cx : Str} {py pos' np hpos tpos : Pos} {b0 : Stmt} {suite : List Stmt} {n : Nat} (k : Nat) (hst : X.stack = X.env :: X.outer) (hfr : X.env.frame = some X.env.locals) (hxe : X.xe = fun _ _ => False)
    (hN : X.N.Nodup) (hi : X.N[i]? = some y) (hy : Loc X.env.scope y) (h : FnAt X.prog X.w X.K X.mg X.base (CX1 X.prog X.w) n x (spX X.K G ms g)) (hr : Room n X.A) (hg : Gl X x) (ha : JA X G ms (e :: es) d) (hgc : Gl X cx) (hmc : X.mg cx = some (eA G k)) (hC : ExcF X.K (G.cA (1000 + k)))
    (hb : ∀ e, JSs (X.mk' e) G (b0 :: suite) ds)
    (hdb : (x == ("__debug__" : Str)) = false := by decide) (hdc : (cx == ("__debug__" : Str)) = false := by decide) (he : starEach (e :: es) X.env = (false, eval e X.env) :: starEach es X.env := by rfl) (hpl : (backTo pos (starEach es X.env)).any (·.1) = false := by rfl)
    (hs : swapsWith (.Call (.Name x p) (e :: es) [] pos) (some (.Name y py)) pos'.line X.env = pure false := by rfl) (hf : X.fn y = true ∨ X.env.scope.names.lookup y = some .local := by first | exact .inl rfl | exact .inr rfl | assumption) :
    JS X G (.Try [.Assign [.Name y py] (.Call (.Name x p) (e :: es) [] pos) pos'] [.ExceptHandler (some (.Name cx np)) none (b0 :: suite) hpos] [] [] tpos) (sTryC i g d k ds) :=
  impS (ps_tryC (th := tD X.K G ds) hst hfr hxe hN hi hy h hr hg ha hgc hmc hC hb hdb hdc he hpl hs hf) fun D σ H ⟨c, ow, ps, R, q⟩ => by
    obtain ⟨ws, e1, q⟩ := ends_st q
    refine ⟨c, ow, ps, ws, R, e1, fun vs H1 s1 r1 => ⟨av c ow, ws, (R.grow s1).used, r1, ?_⟩⟩
    cases eg : g ws with
    | ok w =>
      rw [eg] at q
      exact fun v H' s r => q _ _ _ (((R.grow s1).grow s).setV r) ((Kp.of_same (s1.trans s)).trans (Kp.weak av_off))
    | bad => rw [eg] at q; exact q.elim
    | exc c' =>
      rw [eg] at q
      have q2 : EndsAt X.K G c H (av c ow) D (if c' = k then ds ps else .bad) := q
      by_cases hk : c' = k
      · rw [if_pos hk] at q2
        subst hk
        exact fun H' s => ⟨rfl, c, ow, ps, (R.grow s1).grow s, q2.mono (Kp.of_same (s1.trans s))⟩
      · rw [if_neg hk] at q2
        exact q2.elim
end
theorem fn_okX {P : Program} {w : World} {K : PySem.W.Frag} {mg : Str → Option Value} {base : Bs} {G : Pg} {x qual : Str} {st : Stmt} {f : Addr} {fd : FuncData} {N ps : List Str} {k : Nat} {ms : List Bool} {d : DS} (F : Fun K x qual st f fd) (S : FnScope N ps (defScope st)) (hm : ms.length = ps.length)
    (hb : ∀ (cdv : Value) (A : Around) (outer : List Env) (s : Shared) (H : Hp) (E : XK), Room k (A.deeper (envOfC qual (defScope st) s.heap.objs.size f cdv)) → JSsx (cxOf (CX1 P w) P w K mg base N qual (defScope st) f cdv A outer s H E) G E (defBody st) d) :
    FnOk P w K mg base (CX1 P w) (k + 1) f fd ps (spX K G ms (runD ms N.length d)) := by
  refine F.okX S (fun vs H Q E h => ?_) (fun cdv A outer s H vs Q E hr h => ?_)
  · obtain ⟨A, ws, u, r, _⟩ := h
    rw [r.len.2, hm]
  · obtain ⟨A', ws, u, r, q⟩ := h
    refine ⟨_, hb cdv A outer s H E hr, ?_⟩
    have F0 := in_rep (N := N) r
    have S0 := F0.toS u fun a z => z
    refine ⟨_, ow0, inP ms N.length ws, S0, ?_⟩
    rw [show runD ms N.length d ws = fin (d (inP ms N.length ws)) from runD_of r.len.1] at q
    cases ed : d (inP ms N.length ws) with
    | nx ps' => rw [ed] at q; exact fun σ' H' ow' R' _ => q .non H' (R'.same.same rfl) rfl
    | ret w2 => rw [ed] at q; exact fun v H' s r => q v H' (s.same rfl) r
    | reti w x => rw [ed] at q; exact q.elim
    | retn xs => rw [ed] at q; exact fun p vs H' s hp hv r => q (.ref p) H' (s.same rfl) ⟨p, vs, rfl, .inl ⟨hv, fun z => u p z hp⟩, (Kp.weak fun a z => Or.inl z).reps r⟩
    | brk _ => rw [ed] at q; exact q.elim
    | cnt _ => rw [ed] at q; exact q.elim
    | bad => rw [ed] at q; exact q.elim
    | exc c => rw [ed] at q; exact fun H' s => q H' (s.same rfl)
theorem spX_G {K : PySem.W.Frag} {G : Pg} {ms : List Bool} {g : List PV → Rx PV} : ∀ vs H Q E, spG K G ms g vs H Q E → spX K G ms g vs H Q fun _ _ _ => False := by
  rintro vs H Q E ⟨A, ws, w, u, r, e, q⟩
  exact ⟨A, ws, u, r, by rw [e]; exact q⟩
theorem spX_none {P : Program} {w : World} {K : PySem.W.Frag} {mg : Str → Option Value} {base : Bs} {G : Pg} {ms : List Bool} {n : Nat} {f : Addr} {fd : FuncData} {ps : List Str} {g : List PV → Rx PV} (h : ∀ ws, g ws = .bad) : FnOk P w K mg base (CX1 P w) n f fd ps (spX K G ms g) :=
  fn_none fun vs H Q E ⟨A, ws, _, _, q⟩ => by rw [h] at q; exact q
end DN
end
section
set_option Elab.async false
set_option linter.all false
set_option maxRecDepth 100000
set_option maxHeartbeats 4000000
namespace M02
open PySem L2 DN
open PyProof.Rows (boot_isinstance boot_bool boot_int boot_str boot_tuple boot_list boot_dict boot_sum boot_all boot_any boot_abs boot_enumerate boot_min boot_max)
def top (i : Nat) : Stmt := PySem.Challenge.pw_anymeaning_k02_tests_written.main.body.getD i (.Pass ⟨0, 0, 0, 0⟩)
def fN : Nat → List Str
  | 0 => []
  | 1 => []
  | 2 => []
  | 3 => ["name"]
  | 4 => ["inner"]
  | 5 => ["left", "right"]
  | 6 => ["left", "right"]
  | 7 => ["words", "place"]
  | 8 => ["words", "place"]
  | _ => []
theorem fNs_ : ∀ k, (fN k).length < 1000
  | 0 => by decide
  | 1 => by decide
  | 2 => by decide
  | 3 => by decide
  | 4 => by decide
  | 5 => by decide
  | 6 => by decide
  | 7 => by decide
  | 8 => by decide
  | _ + 9 => (by decide : 0 < 1000)
abbrev s_in_brackets : Stmt := top 6
abbrev s_read_test : Stmt := top 16
abbrev s_l_cell_at : Stmt := top 20
abbrev s_l_leaf : Stmt := top 21
abbrev s_l_tree : Stmt := top 22
abbrev s_l_within : Stmt := top 23
abbrev s_l_text : Stmt := top 24
abbrev s_l_made : Stmt := top 25
abbrev s_l_same : Stmt := top 26
abbrev s_l_read : Stmt := top 27
abbrev s_law : Stmt := top 28
abbrev s_Yes_holds : Stmt := inClass (top 8) 0
abbrev s_Yes_text : Stmt := inClass (top 8) 1
abbrev s_No_holds : Stmt := inClass (top 9) 0
abbrev s_No_text : Stmt := inClass (top 9) 1
abbrev s_Named_holds : Stmt := inClass (top 10) 1
abbrev s_Named_text : Stmt := inClass (top 10) 2
abbrev s_Not_holds : Stmt := inClass (top 11) 1
abbrev s_Not_text : Stmt := inClass (top 11) 2
abbrev s_Both_holds : Stmt := inClass (top 12) 1
abbrev s_Both_text : Stmt := inClass (top 12) 2
abbrev s_Either_holds : Stmt := inClass (top 13) 1
abbrev s_Either_text : Stmt := inClass (top 13) 2
abbrev s_WordReader_at_end : Stmt := inClass (top 17) 1
abbrev s_WordReader_passes : Stmt := inClass (top 17) 2
abbrev s_SignReader_read_either : Stmt := inClass (top 18) 0
abbrev s_SignReader_read_both : Stmt := inClass (top 18) 1
abbrev s_SignReader_read_single : Stmt := inClass (top 18) 2
abbrev s_SignReader_read_bracket : Stmt := inClass (top 18) 3
abbrev s_SignReader_init : Stmt := inClass (top 17) 0
def nF : Nat → Nst
  | _ => default
abbrev tC : List (Nat × Nat) := []
def pg (cA : Nat → Addr) : Pg := ⟨cA, fN, nF⟩
abbrev a_inner : List (Nat × Nat) := [(4, 0)]
abbrev a_left : List (Nat × Nat) := [(5, 0), (6, 0)]
abbrev a_name : List (Nat × Nat) := [(3, 0)]
abbrev a_place : List (Nat × Nat) := [(7, 1), (8, 1)]
abbrev a_right : List (Nat × Nat) := [(5, 1), (6, 1)]
abbrev a_words : List (Nat × Nat) := [(7, 0), (8, 0)]
abbrev q_holds : List (Nat × Nat) := [(1, 11), (2, 13), (3, 15), (4, 17), (5, 19), (6, 21)]
abbrev q_text : List (Nat × Nat) := [(1, 12), (2, 14), (3, 16), (4, 18), (5, 20), (6, 22)]
abbrev i_Both : List (Nat × Bool) := [(0, false), (1, false), (2, false), (3, false), (4, false), (5, false), (6, false), (0 + 10, false), (1 + 10, false), (2 + 10, false), (3 + 10, false), (4 + 10, false), (5 + 10, true), (6 + 10, false), (7 + 10, false), (8 + 10, false)]
abbrev i_Either : List (Nat × Bool) := [(0, false), (1, false), (2, false), (3, false), (4, false), (5, false), (6, false), (0 + 10, false), (1 + 10, false), (2 + 10, false), (3 + 10, false), (4 + 10, false), (5 + 10, false), (6 + 10, true), (7 + 10, false), (8 + 10, false)]
abbrev i_Named : List (Nat × Bool) := [(0, false), (1, false), (2, false), (3, false), (4, false), (5, false), (6, false), (0 + 10, false), (1 + 10, false), (2 + 10, false), (3 + 10, true), (4 + 10, false), (5 + 10, false), (6 + 10, false), (7 + 10, false), (8 + 10, false)]
abbrev i_No : List (Nat × Bool) := [(0, false), (1, false), (2, false), (3, false), (4, false), (5, false), (6, false), (0 + 10, false), (1 + 10, false), (2 + 10, true), (3 + 10, false), (4 + 10, false), (5 + 10, false), (6 + 10, false), (7 + 10, false), (8 + 10, false)]
abbrev i_Not : List (Nat × Bool) := [(0, false), (1, false), (2, false), (3, false), (4, false), (5, false), (6, false), (0 + 10, false), (1 + 10, false), (2 + 10, false), (3 + 10, false), (4 + 10, true), (5 + 10, false), (6 + 10, false), (7 + 10, false), (8 + 10, false)]
abbrev i_Yes : List (Nat × Bool) := [(0, false), (1, false), (2, false), (3, false), (4, false), (5, false), (6, false), (0 + 10, false), (1 + 10, true), (2 + 10, false), (3 + 10, false), (4 + 10, false), (5 + 10, false), (6 + 10, false), (7 + 10, false), (8 + 10, false)]
@[simp] theorem fl_inner_4 (x0 : PV) : fldP a_inner (.obj 4 [x0]) = .ok x0 := rfl
@[simp] theorem fl_left_5 (x0 x1 : PV) : fldP a_left (.obj 5 [x0, x1]) = .ok x0 := rfl
@[simp] theorem fl_left_6 (x0 x1 : PV) : fldP a_left (.obj 6 [x0, x1]) = .ok x0 := rfl
@[simp] theorem fl_name_3 (x0 : PV) : fldP a_name (.obj 3 [x0]) = .ok x0 := rfl
@[simp] theorem fl_place_7 (x0 x1 : PV) : fldP a_place (.obj 7 [x0, x1]) = .ok x1 := rfl
@[simp] theorem fl_place_8 (x0 x1 : PV) : fldP a_place (.obj 8 [x0, x1]) = .ok x1 := rfl
@[simp] theorem fl_right_5 (x0 x1 : PV) : fldP a_right (.obj 5 [x0, x1]) = .ok x1 := rfl
@[simp] theorem fl_right_6 (x0 x1 : PV) : fldP a_right (.obj 6 [x0, x1]) = .ok x1 := rfl
@[simp] theorem fl_words_7 (x0 x1 : PV) : fldP a_words (.obj 7 [x0, x1]) = .ok x0 := rfl
@[simp] theorem fl_words_8 (x0 x1 : PV) : fldP a_words (.obj 8 [x0, x1]) = .ok x0 := rfl
theorem fNs {cA : Nat → Addr} : ∀ k, ((pg cA).fN k).length < 1000 := fNs_
abbrev qo_at_end : List (Nat × Nat) := [(7, 23), (8, 23)]
abbrev qo_passes : List (Nat × Nat) := [(7, 24), (8, 24)]
abbrev qo_read_both : List (Nat × Nat) := [(8, 26)]
abbrev qo_read_bracket : List (Nat × Nat) := [(8, 28)]
abbrev qo_read_either : List (Nat × Nat) := [(8, 25)]
abbrev qo_read_single : List (Nat × Nat) := [(8, 27)]
@[simp] theorem ii_Both_0 : isiK i_Both 0 = .ok (.bl false) := rfl
@[simp] theorem ii_Both_1 : isiK i_Both 1 = .ok (.bl false) := rfl
@[simp] theorem ii_Both_2 : isiK i_Both 2 = .ok (.bl false) := rfl
@[simp] theorem ii_Both_3 : isiK i_Both 3 = .ok (.bl false) := rfl
@[simp] theorem ii_Both_4 : isiK i_Both 4 = .ok (.bl false) := rfl
@[simp] theorem ii_Both_5 : isiK i_Both 5 = .ok (.bl false) := rfl
@[simp] theorem ii_Both_6 : isiK i_Both 6 = .ok (.bl false) := rfl
@[simp] theorem ii_Both_10 : isiK i_Both (0 + 10) = .ok (.bl false) := rfl
@[simp] theorem ii_Both_11 : isiK i_Both (1 + 10) = .ok (.bl false) := rfl
@[simp] theorem ii_Both_12 : isiK i_Both (2 + 10) = .ok (.bl false) := rfl
@[simp] theorem ii_Both_13 : isiK i_Both (3 + 10) = .ok (.bl false) := rfl
@[simp] theorem ii_Both_14 : isiK i_Both (4 + 10) = .ok (.bl false) := rfl
@[simp] theorem ii_Both_15 : isiK i_Both (5 + 10) = .ok (.bl true) := rfl
@[simp] theorem ii_Both_16 : isiK i_Both (6 + 10) = .ok (.bl false) := rfl
@[simp] theorem ii_Both_17 : isiK i_Both (7 + 10) = .ok (.bl false) := rfl
@[simp] theorem ii_Both_18 : isiK i_Both (8 + 10) = .ok (.bl false) := rfl
@[simp] theorem ii_Either_0 : isiK i_Either 0 = .ok (.bl false) := rfl
@[simp] theorem ii_Either_1 : isiK i_Either 1 = .ok (.bl false) := rfl
@[simp] theorem ii_Either_2 : isiK i_Either 2 = .ok (.bl false) := rfl
@[simp] theorem ii_Either_3 : isiK i_Either 3 = .ok (.bl false) := rfl
@[simp] theorem ii_Either_4 : isiK i_Either 4 = .ok (.bl false) := rfl
@[simp] theorem ii_Either_5 : isiK i_Either 5 = .ok (.bl false) := rfl
@[simp] theorem ii_Either_6 : isiK i_Either 6 = .ok (.bl false) := rfl
@[simp] theorem ii_Either_10 : isiK i_Either (0 + 10) = .ok (.bl false) := rfl
@[simp] theorem ii_Either_11 : isiK i_Either (1 + 10) = .ok (.bl false) := rfl
@[simp] theorem ii_Either_12 : isiK i_Either (2 + 10) = .ok (.bl false) := rfl
@[simp] theorem ii_Either_13 : isiK i_Either (3 + 10) = .ok (.bl false) := rfl
@[simp] theorem ii_Either_14 : isiK i_Either (4 + 10) = .ok (.bl false) := rfl
@[simp] theorem ii_Either_15 : isiK i_Either (5 + 10) = .ok (.bl false) := rfl
@[simp] theorem ii_Either_16 : isiK i_Either (6 + 10) = .ok (.bl true) := rfl
@[simp] theorem ii_Either_17 : isiK i_Either (7 + 10) = .ok (.bl false) := rfl
@[simp] theorem ii_Either_18 : isiK i_Either (8 + 10) = .ok (.bl false) := rfl
@[simp] theorem ii_Named_0 : isiK i_Named 0 = .ok (.bl false) := rfl
@[simp] theorem ii_Named_1 : isiK i_Named 1 = .ok (.bl false) := rfl
@[simp] theorem ii_Named_2 : isiK i_Named 2 = .ok (.bl false) := rfl
@[simp] theorem ii_Named_3 : isiK i_Named 3 = .ok (.bl false) := rfl
@[simp] theorem ii_Named_4 : isiK i_Named 4 = .ok (.bl false) := rfl
@[simp] theorem ii_Named_5 : isiK i_Named 5 = .ok (.bl false) := rfl
@[simp] theorem ii_Named_6 : isiK i_Named 6 = .ok (.bl false) := rfl
@[simp] theorem ii_Named_10 : isiK i_Named (0 + 10) = .ok (.bl false) := rfl
@[simp] theorem ii_Named_11 : isiK i_Named (1 + 10) = .ok (.bl false) := rfl
@[simp] theorem ii_Named_12 : isiK i_Named (2 + 10) = .ok (.bl false) := rfl
@[simp] theorem ii_Named_13 : isiK i_Named (3 + 10) = .ok (.bl true) := rfl
@[simp] theorem ii_Named_14 : isiK i_Named (4 + 10) = .ok (.bl false) := rfl
@[simp] theorem ii_Named_15 : isiK i_Named (5 + 10) = .ok (.bl false) := rfl
@[simp] theorem ii_Named_16 : isiK i_Named (6 + 10) = .ok (.bl false) := rfl
@[simp] theorem ii_Named_17 : isiK i_Named (7 + 10) = .ok (.bl false) := rfl
@[simp] theorem ii_Named_18 : isiK i_Named (8 + 10) = .ok (.bl false) := rfl
@[simp] theorem ii_No_0 : isiK i_No 0 = .ok (.bl false) := rfl
@[simp] theorem ii_No_1 : isiK i_No 1 = .ok (.bl false) := rfl
@[simp] theorem ii_No_2 : isiK i_No 2 = .ok (.bl false) := rfl
@[simp] theorem ii_No_3 : isiK i_No 3 = .ok (.bl false) := rfl
@[simp] theorem ii_No_4 : isiK i_No 4 = .ok (.bl false) := rfl
@[simp] theorem ii_No_5 : isiK i_No 5 = .ok (.bl false) := rfl
@[simp] theorem ii_No_6 : isiK i_No 6 = .ok (.bl false) := rfl
@[simp] theorem ii_No_10 : isiK i_No (0 + 10) = .ok (.bl false) := rfl
@[simp] theorem ii_No_11 : isiK i_No (1 + 10) = .ok (.bl false) := rfl
@[simp] theorem ii_No_12 : isiK i_No (2 + 10) = .ok (.bl true) := rfl
@[simp] theorem ii_No_13 : isiK i_No (3 + 10) = .ok (.bl false) := rfl
@[simp] theorem ii_No_14 : isiK i_No (4 + 10) = .ok (.bl false) := rfl
@[simp] theorem ii_No_15 : isiK i_No (5 + 10) = .ok (.bl false) := rfl
@[simp] theorem ii_No_16 : isiK i_No (6 + 10) = .ok (.bl false) := rfl
@[simp] theorem ii_No_17 : isiK i_No (7 + 10) = .ok (.bl false) := rfl
@[simp] theorem ii_No_18 : isiK i_No (8 + 10) = .ok (.bl false) := rfl
@[simp] theorem ii_Not_0 : isiK i_Not 0 = .ok (.bl false) := rfl
@[simp] theorem ii_Not_1 : isiK i_Not 1 = .ok (.bl false) := rfl
@[simp] theorem ii_Not_2 : isiK i_Not 2 = .ok (.bl false) := rfl
@[simp] theorem ii_Not_3 : isiK i_Not 3 = .ok (.bl false) := rfl
@[simp] theorem ii_Not_4 : isiK i_Not 4 = .ok (.bl false) := rfl
@[simp] theorem ii_Not_5 : isiK i_Not 5 = .ok (.bl false) := rfl
@[simp] theorem ii_Not_6 : isiK i_Not 6 = .ok (.bl false) := rfl
@[simp] theorem ii_Not_10 : isiK i_Not (0 + 10) = .ok (.bl false) := rfl
@[simp] theorem ii_Not_11 : isiK i_Not (1 + 10) = .ok (.bl false) := rfl
@[simp] theorem ii_Not_12 : isiK i_Not (2 + 10) = .ok (.bl false) := rfl
@[simp] theorem ii_Not_13 : isiK i_Not (3 + 10) = .ok (.bl false) := rfl
@[simp] theorem ii_Not_14 : isiK i_Not (4 + 10) = .ok (.bl true) := rfl
@[simp] theorem ii_Not_15 : isiK i_Not (5 + 10) = .ok (.bl false) := rfl
@[simp] theorem ii_Not_16 : isiK i_Not (6 + 10) = .ok (.bl false) := rfl
@[simp] theorem ii_Not_17 : isiK i_Not (7 + 10) = .ok (.bl false) := rfl
@[simp] theorem ii_Not_18 : isiK i_Not (8 + 10) = .ok (.bl false) := rfl
@[simp] theorem ii_Yes_0 : isiK i_Yes 0 = .ok (.bl false) := rfl
@[simp] theorem ii_Yes_1 : isiK i_Yes 1 = .ok (.bl false) := rfl
@[simp] theorem ii_Yes_2 : isiK i_Yes 2 = .ok (.bl false) := rfl
@[simp] theorem ii_Yes_3 : isiK i_Yes 3 = .ok (.bl false) := rfl
@[simp] theorem ii_Yes_4 : isiK i_Yes 4 = .ok (.bl false) := rfl
@[simp] theorem ii_Yes_5 : isiK i_Yes 5 = .ok (.bl false) := rfl
@[simp] theorem ii_Yes_6 : isiK i_Yes 6 = .ok (.bl false) := rfl
@[simp] theorem ii_Yes_10 : isiK i_Yes (0 + 10) = .ok (.bl false) := rfl
@[simp] theorem ii_Yes_11 : isiK i_Yes (1 + 10) = .ok (.bl true) := rfl
@[simp] theorem ii_Yes_12 : isiK i_Yes (2 + 10) = .ok (.bl false) := rfl
@[simp] theorem ii_Yes_13 : isiK i_Yes (3 + 10) = .ok (.bl false) := rfl
@[simp] theorem ii_Yes_14 : isiK i_Yes (4 + 10) = .ok (.bl false) := rfl
@[simp] theorem ii_Yes_15 : isiK i_Yes (5 + 10) = .ok (.bl false) := rfl
@[simp] theorem ii_Yes_16 : isiK i_Yes (6 + 10) = .ok (.bl false) := rfl
@[simp] theorem ii_Yes_17 : isiK i_Yes (7 + 10) = .ok (.bl false) := rfl
@[simp] theorem ii_Yes_18 : isiK i_Yes (8 + 10) = .ok (.bl false) := rfl
abbrev c_LETTERS : List PV := [PV.str "a", PV.str "b", PV.str "c", PV.str "d"]
structure Ct (P : Program) (w : World) (K : PySem.W.Frag) (mg : Str → Option Value) (base : Bs) (cA : Nat → Addr) (ts : List Addr) : Prop where
  tb : base.tabs = ts
  c_Test : mg "Test" = some (.ref ((pg cA).cA 0))
  l_Test : ClsF K ((pg cA).cA 0)
  c_Yes : mg "Yes" = some (.ref ((pg cA).cA 1))
  l_Yes : ClsF K ((pg cA).cA 1)
  c_No : mg "No" = some (.ref ((pg cA).cA 2))
  l_No : ClsF K ((pg cA).cA 2)
  c_Named : mg "Named" = some (.ref ((pg cA).cA 3))
  l_Named : ClsF K ((pg cA).cA 3)
  c_Not : mg "Not" = some (.ref ((pg cA).cA 4))
  l_Not : ClsF K ((pg cA).cA 4)
  c_Both : mg "Both" = some (.ref ((pg cA).cA 5))
  l_Both : ClsF K ((pg cA).cA 5)
  c_Either : mg "Either" = some (.ref ((pg cA).cA 6))
  l_Either : ClsF K ((pg cA).cA 6)
  c_WordReader : mg "WordReader" = some (.ref ((pg cA).cA 7))
  l_WordReader : ClsF K ((pg cA).cA 7)
  c_SignReader : mg "SignReader" = some (.ref ((pg cA).cA 8))
  l_SignReader : ClsF K ((pg cA).cA 8)
  xc_NoTest : mg "NoTest" = some (eA (pg cA) 1)
  xe_NoTest : ExcF K ((pg cA).cA (1000 + 1))
  n_Both : NewAt P w K mg base "Both" ((pg cA).cA 5) ((pg cA).fN 5)
  n_Either : NewAt P w K mg base "Either" ((pg cA).cA 6) ((pg cA).fN 6)
  n_Named : NewAt P w K mg base "Named" ((pg cA).cA 3) ((pg cA).fN 3)
  k_No : Mk0 K ((pg cA).cA 2)
  n_Not : NewAt P w K mg base "Not" ((pg cA).cA 4) ((pg cA).fN 4)
  k_Yes : Mk0 K ((pg cA).cA 1)
  x_SignReader_words : NoAttr K ((pg cA).cA 8) "words"
  x_SignReader_place : NoAttr K ((pg cA).cA 8) "place"
  f_inner : FldOk K (pg cA) "inner" a_inner
  f_left : FldOk K (pg cA) "left" a_left
  f_name : FldOk K (pg cA) "name" a_name
  f_place : FldOk K (pg cA) "place" a_place
  f_right : FldOk K (pg cA) "right" a_right
  f_words : FldOk K (pg cA) "words" a_words
  i_Both : IsiOk K (pg cA) (.ref ((pg cA).cA 5)) i_Both
  i_Either : IsiOk K (pg cA) (.ref ((pg cA).cA 6)) i_Either
  i_Named : IsiOk K (pg cA) (.ref ((pg cA).cA 3)) i_Named
  i_No : IsiOk K (pg cA) (.ref ((pg cA).cA 2)) i_No
  i_Not : IsiOk K (pg cA) (.ref ((pg cA).cA 4)) i_Not
  i_Yes : IsiOk K (pg cA) (.ref ((pg cA).cA 1)) i_Yes
  e_LETTERS : ∃ a, mg "LETTERS" = some (.ref a) ∧ TopT K a [V.str "a", V.str "b", V.str "c", V.str "d"]
  e_MOST_WORDS : ∃ t, mg "MOST_WORDS" = some (.int (40) t)
  z_isinstance : mg "isinstance" = none
  z_len : mg "len" = none
  z_list : mg "list" = none
theorem sc_in_brackets : FnScope ["text"] ["text"] (defScope s_in_brackets) := ⟨rfl, rfl, rfl, by decide +kernel, rfl, by decide +kernel, by decide +kernel⟩
-- slots: 0 text
def d_in_brackets (g : Nat → List PV → Rx PV) : DS :=
  (sRet (d2 fCatS (d2 fCatS (dC (.str "( ")) (dSee 0)) (dC (.str " )"))))
theorem sc_read_test : FnScope ["text", "words", "reader", "test"] ["text"] (defScope s_read_test) := ⟨rfl, rfl, rfl, by decide +kernel, rfl, by decide +kernel, by decide +kernel⟩
-- slots: 0 text, 1 words, 2 reader, 3 test
def d_read_test (g : Nat → List PV → Rx PV) : DS :=
  (sSeq (sCut (sSet 1 (dOfN (dSplit (dVar 0) (dC (.str " "))))))
  (sSeq (sIfX (dTr (d2 fGt (dCall bLen (dCons (dSee 1) dNil)) (dC (.int (40)))))
  (sRaise 1)
  sNext)
  (sSeq (sCut (sOwnI 2 (g 29) (dCons (dVar 1) dNil)))
  (sSeq (sCut (sSetM 3 (mMethO qo_read_either g 2 dNil)))
  (sSeq (sIfMX (mNot (mTr (mMethO qo_at_end g 2 dNil)))
  (sRaise 1)
  sNext)
  (sCut (sRet (dVar 3))))))))
theorem sc_l_cell_at : FnScope ["_law_script", "_law_k"] ["_law_script", "_law_k"] (defScope s_l_cell_at) := ⟨rfl, rfl, rfl, by decide +kernel, rfl, by decide +kernel, by decide +kernel⟩
-- slots: 0 _law_script, 1 _law_k
def d_l_cell_at (g : Nat → List PV → Rx PV) : DS :=
  (sSeq (sIf (dTr (d2 fLt (dSee 1) (dCall bLen (dCons (dSee 0) dNil))))
  (sRet (d2 fIx (dSee 0) (dSee 1)))
  sNext)
  (sRet (dC (.int 0))))
theorem sc_l_leaf : FnScope ["_law_cell"] ["_law_cell"] (defScope s_l_leaf) := ⟨rfl, rfl, rfl, by decide +kernel, rfl, by decide +kernel, by decide +kernel⟩
-- slots: 0 _law_cell
def d_l_leaf (g : Nat → List PV → Rx PV) : DS :=
  (sSeq (sIf (dTr (d2 fEq (d2 fMod (dSee 0) (dC (.int 6))) (dC (.int 4))))
  (sRet (dTup (dCons (dC (.str "yes")) dNil)))
  sNext)
  (sSeq (sIf (dTr (d2 fEq (d2 fMod (dSee 0) (dC (.int 6))) (dC (.int 5))))
  (sRet (dTup (dCons (dC (.str "no")) dNil)))
  sNext)
  (sRet (dTup (dCons (dC (.str "named")) (dCons (d2 fIx (dC (.str "abcd")) (d2 fMod (dSee 0) (dC (.int 6)))) dNil))))))
theorem sc_l_tree : FnScope ["_law_cells", "_law_held", "_law_cell", "_law_way", "_law_right"] ["_law_cells"] (defScope s_l_tree) := ⟨rfl, rfl, rfl, by decide +kernel, rfl, by decide +kernel, by decide +kernel⟩
-- slots: 0 _law_cells, 1 _law_held, 2 _law_cell, 3 _law_way, 4 _law_right
noncomputable def b_l_tree_1 (g : Nat → List PV → Rx PV) : DS :=
  (sSeq (sSetM 4 (mPop 1))
  (sExpr (mApp 1 (mTup (mCons (dLift (d2 fIx (dOfN (dCons (dC (.str "both")) (dCons (dC (.str "either")) dNil))) (d2 fMod (dCall bLen (dCons (dSee 1) dNil)) (dC (.int 2))))) (mCons (mPop 1) (mCons (dLift (dVar 4)) mNil)))))))
noncomputable def b_l_tree_2 (g : Nat → List PV → Rx PV) : DS :=
  (sSeq (sSet 3 (d2 fMod (dSee 2) (dC (.int 8))))
  (sIf (dOrT (dTr (d2 fLt (dSee 3) (dC (.int 4)))) (dAndT (dTr (d2 fGt (dSee 3) (dC (.int 5)))) (dTr (d2 fEq (dCall bLen (dCons (dSee 1) dNil)) (dC (.int 1))))))
  (sExpr (mApp 1 (dLift (dCall (g 3) (dCons (d2 fDiv (dSee 2) (dC (.int 8))) dNil)))))
  (sIf (dTr (d2 fLt (dSee 3) (dC (.int 6))))
  (sExpr (mApp 1 (mTup (mCons (dLift (dC (.str "not"))) (mCons (mPop 1) mNil)))))
  (sSeq (sSetM 4 (mPop 1))
  (sExpr (mApp 1 (mTup (mCons (dLift (d2 fIx (dOfN (dCons (dC (.str "both")) (dCons (dC (.str "either")) dNil))) (d2 fSub (dSee 3) (dC (.int 6))))) (mCons (mPop 1) (mCons (dLift (dVar 4)) mNil))))))))))
noncomputable def d_l_tree (g : Nat → List PV → Rx PV) : DS :=
  (sSeq (sOwn 1 (dCons (dCall (g 3) (dCons (d2 fMod (dCall bLen (dCons (dSee 0) dNil)) (dC (.int 4))) dNil)) dNil))
  (sSeq (sFor (dItems (dVar 0)) (gSet 2)
  (b_l_tree_2 g))
  (sSeq (sWhile (dTr (d2 fGt (dCall bLen (dCons (dSee 1) dNil)) (dC (.int 1))))
  (b_l_tree_1 g))
  (sRet (d2 fIx (dSee 1) (dC (.int 0)))))))
theorem sc_l_within : FnScope ["_law_tree_here", "_law_height", "_law_extra", "_law_here", "_law_text_here"] ["_law_tree_here", "_law_height", "_law_extra"] (defScope s_l_within) := ⟨rfl, rfl, rfl, by decide +kernel, rfl, by decide +kernel, by decide +kernel⟩
-- slots: 0 _law_tree_here, 1 _law_height, 2 _law_extra, 3 _law_here, 4 _law_text_here
def d_l_within (g : Nat → List PV → Rx PV) : DS :=
  (sSeq (sSet 3 (dC (.int 0)))
  (sSeq (sIf (dTr (d2 fEq (d2 fIx (dSee 0) (dC (.int 0))) (dC (.str "both"))))
  (sSet 3 (dC (.int 1)))
  sNext)
  (sSeq (sIf (dTr (d2 fEq (d2 fIx (dSee 0) (dC (.int 0))) (dC (.str "either"))))
  (sSet 3 (dC (.int 2)))
  sNext)
  (sSeq (sSet 4 (dCall (g 6) (dCons (dVar 0) (dCons (dVar 2) dNil))))
  (sSeq (sIf (dAndT (dTr (d2 fGe (dSee 2) (dC (.int 0)))) (dTr (d2 fEq (d2 fMod (dSee 2) (dC (.int 36))) (dC (.int 7)))))
  (sRet (d2 fCatS (d2 fCatS (dC (.str "( ( ")) (dSee 4)) (dC (.str " ) )"))))
  sNext)
  (sSeq (sIf (dOrT (dTr (d2 fGt (dSee 3) (dSee 1))) (dAndT (dTr (d2 fGe (dSee 2) (dC (.int 0)))) (dTr (d2 fEq (d2 fMod (dSee 2) (dC (.int 6))) (dC (.int 1))))))
  (sRet (d2 fCatS (d2 fCatS (dC (.str "( ")) (dSee 4)) (dC (.str " )"))))
  sNext)
  (sRet (dVar 4))))))))
theorem sc_l_text : FnScope ["_law_tree_here", "_law_extra", "_law_one", "_law_two"] ["_law_tree_here", "_law_extra"] (defScope s_l_text) := ⟨rfl, rfl, rfl, by decide +kernel, rfl, by decide +kernel, by decide +kernel⟩
-- slots: 0 _law_tree_here, 1 _law_extra, 2 _law_one, 3 _law_two
def d_l_text (g : Nat → List PV → Rx PV) : DS :=
  (sSeq (sIf (dTr (d2 fEq (d2 fIx (dSee 0) (dC (.int 0))) (dC (.str "named"))))
  (sRet (d2 fIx (dSee 0) (dC (.int 1))))
  sNext)
  (sSeq (sIf (dOrT (dTr (d2 fEq (d2 fIx (dSee 0) (dC (.int 0))) (dC (.str "yes")))) (dTr (d2 fEq (d2 fIx (dSee 0) (dC (.int 0))) (dC (.str "no")))))
  (sRet (d2 fIx (dSee 0) (dC (.int 0))))
  sNext)
  (sSeq (sSet 2 (dNeg (dC (.int 1))))
  (sSeq (sSet 3 (dNeg (dC (.int 1))))
  (sSeq (sIf (dTr (d2 fGe (dSee 1) (dC (.int 0))))
  (sSeq (sSet 2 (d2 fMod (d2 fAdd (d2 fMul (dSee 1) (dC (.int 48271))) (dC (.int 1))) (dC (.int 2147483647))))
  (sSet 3 (d2 fMod (d2 fAdd (d2 fMul (dSee 1) (dC (.int 69621))) (dC (.int 2))) (dC (.int 2147483647)))))
  sNext)
  (sSeq (sIf (dTr (d2 fEq (d2 fIx (dSee 0) (dC (.int 0))) (dC (.str "not"))))
  (sRet (d2 fCatS (dC (.str "not ")) (dCall (g 5) (dCons (d2 fIx (dSee 0) (dC (.int 1))) (dCons (dC (.int 0)) (dCons (dVar 2) dNil))))))
  sNext)
  (sSeq (sIf (dTr (d2 fEq (d2 fIx (dSee 0) (dC (.int 0))) (dC (.str "both"))))
  (sRet (d2 fCatS (d2 fCatS (dCall (g 5) (dCons (d2 fIx (dSee 0) (dC (.int 1))) (dCons (dC (.int 1)) (dCons (dVar 2) dNil)))) (dC (.str " and "))) (dCall (g 5) (dCons (d2 fIx (dSee 0) (dC (.int 2))) (dCons (dC (.int 0)) (dCons (dVar 3) dNil))))))
  sNext)
  (sRet (d2 fCatS (d2 fCatS (dCall (g 5) (dCons (d2 fIx (dSee 0) (dC (.int 1))) (dCons (dC (.int 2)) (dCons (dVar 2) dNil)))) (dC (.str " or "))) (dCall (g 5) (dCons (d2 fIx (dSee 0) (dC (.int 2))) (dCons (dC (.int 1)) (dCons (dVar 3) dNil)))))))))))))
theorem sc_l_made : FnScope ["_law_tree_here"] ["_law_tree_here"] (defScope s_l_made) := ⟨rfl, rfl, rfl, by decide +kernel, rfl, by decide +kernel, by decide +kernel⟩
-- slots: 0 _law_tree_here
def d_l_made (g : Nat → List PV → Rx PV) : DS :=
  (sSeq (sIf (dTr (d2 fEq (d2 fIx (dSee 0) (dC (.int 0))) (dC (.str "yes"))))
  (sRet (dC (.obj 1 [])))
  sNext)
  (sSeq (sIf (dTr (d2 fEq (d2 fIx (dSee 0) (dC (.int 0))) (dC (.str "no"))))
  (sRet (dC (.obj 2 [])))
  sNext)
  (sSeq (sIf (dTr (d2 fEq (d2 fIx (dSee 0) (dC (.int 0))) (dC (.str "named"))))
  (sRet (dNew 3 (dCons (d2 fIx (dSee 0) (dC (.int 1))) dNil)))
  sNext)
  (sSeq (sIf (dTr (d2 fEq (d2 fIx (dSee 0) (dC (.int 0))) (dC (.str "not"))))
  (sRet (dNew 4 (dCons (dCall (g 7) (dCons (d2 fIx (dSee 0) (dC (.int 1))) dNil)) dNil)))
  sNext)
  (sSeq (sIf (dTr (d2 fEq (d2 fIx (dSee 0) (dC (.int 0))) (dC (.str "both"))))
  (sRet (dNew 5 (dCons (dCall (g 7) (dCons (d2 fIx (dSee 0) (dC (.int 1))) dNil)) (dCons (dCall (g 7) (dCons (d2 fIx (dSee 0) (dC (.int 2))) dNil)) dNil))))
  sNext)
  (sRet (dNew 6 (dCons (dCall (g 7) (dCons (d2 fIx (dSee 0) (dC (.int 1))) dNil)) (dCons (dCall (g 7) (dCons (d2 fIx (dSee 0) (dC (.int 2))) dNil)) dNil)))))))))
theorem sc_l_same : FnScope ["_law_test", "_law_tree_here"] ["_law_test", "_law_tree_here"] (defScope s_l_same) := ⟨rfl, rfl, rfl, by decide +kernel, rfl, by decide +kernel, by decide +kernel⟩
-- slots: 0 _law_test, 1 _law_tree_here
def d_l_same (g : Nat → List PV → Rx PV) : DS :=
  (sSeq (sIf (dTr (d2 fEq (d2 fIx (dSee 1) (dC (.int 0))) (dC (.str "yes"))))
  (sRet (dIsi i_Yes (dSee 0)))
  sNext)
  (sSeq (sIf (dTr (d2 fEq (d2 fIx (dSee 1) (dC (.int 0))) (dC (.str "no"))))
  (sRet (dIsi i_No (dSee 0)))
  sNext)
  (sSeq (sIf (dTr (d2 fEq (d2 fIx (dSee 1) (dC (.int 0))) (dC (.str "named"))))
  (sRet (dAndV (dIsi i_Named (dSee 0)) (d2 fEq (dFld a_name (dVar 0)) (d2 fIx (dSee 1) (dC (.int 1))))))
  sNext)
  (sSeq (sIf (dTr (d2 fEq (d2 fIx (dSee 1) (dC (.int 0))) (dC (.str "not"))))
  (sRet (dAndV (dIsi i_Not (dSee 0)) (dCall (g 8) (dCons (dFld a_inner (dVar 0)) (dCons (d2 fIx (dSee 1) (dC (.int 1))) dNil)))))
  sNext)
  (sSeq (sIf (dAndT (dTr (d2 fEq (d2 fIx (dSee 1) (dC (.int 0))) (dC (.str "both")))) (dNotT (dTr (dIsi i_Both (dSee 0)))))
  (sRet (dC (.bl false)))
  sNext)
  (sSeq (sIf (dAndT (dTr (d2 fEq (d2 fIx (dSee 1) (dC (.int 0))) (dC (.str "either")))) (dNotT (dTr (dIsi i_Either (dSee 0)))))
  (sRet (dC (.bl false)))
  sNext)
  (sRet (dAndV (dCall (g 8) (dCons (dFld a_left (dVar 0)) (dCons (d2 fIx (dSee 1) (dC (.int 1))) dNil))) (dCall (g 8) (dCons (dFld a_right (dVar 0)) (dCons (d2 fIx (dSee 1) (dC (.int 2))) dNil)))))))))))
theorem sc_l_read : FnScope ["_law_text_here", "_law_tree_here", "_law_own", "_law_test"] ["_law_text_here", "_law_tree_here", "_law_own"] (defScope s_l_read) := ⟨rfl, rfl, rfl, by decide +kernel, rfl, by decide +kernel, by decide +kernel⟩
-- slots: 0 _law_text_here, 1 _law_tree_here, 2 _law_own, 3 _law_test
def d_l_read (g : Nat → List PV → Rx PV) : DS :=
  (sSeq (sSet 3 (dC .non))
  (sSeq (sTryC 3 (g 1) (dCons (dVar 0) dNil) 1 (sSet 3 (dC .non)))
  (sSeq (sIf (dTr (d2 fGt (dCall bLen (dCons (dOfN (dSplit (dVar 0) (dC (.str " ")))) dNil)) (dC (.int 40))))
  (sRet (dIsN (dSee 3)))
  sNext)
  (sRet (dAndV (dNotN (dSee 3)) (dAndV (dCall (g 8) (dCons (dVar 3) (dCons (dVar 1) dNil))) (d2 fEq (dMeth q_text g (dVar 3) dNil) (dSee 2))))))))
theorem sc_law : FnScope ["_law_script", "_law_tree_here", "_law_extra", "_law_own"] ["_law_script"] (defScope s_law) := ⟨rfl, rfl, rfl, by decide +kernel, rfl, by decide +kernel, by decide +kernel⟩
-- slots: 0 _law_script, 1 _law_tree_here, 2 _law_extra, 3 _law_own
def d_law (g : Nat → List PV → Rx PV) : DS :=
  (sSeq (sSet 1 (dCall (g 4) (dCons (dOfN (dCut (dSee 0) (dO1 (dC (.int 2))) (dO1 (dC (.int 15))))) dNil)))
  (sSeq (sSet 2 (d2 fMod (dCall (g 2) (dCons (dVar 0) (dCons (dC (.int 1)) dNil))) (dC (.int 2147483647))))
  (sSeq (sIf (dTr (d2 fEq (d2 fMod (dCall (g 2) (dCons (dVar 0) (dCons (dC (.int 0)) dNil))) (dC (.int 3))) (dC (.int 0))))
  (sSet 2 (dNeg (dC (.int 1))))
  sNext)
  (sSeq (sSet 3 (dCall (g 6) (dCons (dVar 1) (dCons (dNeg (dC (.int 1))) dNil))))
  (sSeq (sIf (dOrT (dTr (d2 fNe (dMeth q_text g (dCall (g 7) (dCons (dVar 1) dNil)) dNil) (dSee 3))) (dNotT (dTr (dCall (g 9) (dCons (dVar 3) (dCons (dVar 1) (dCons (dVar 3) dNil)))))))
  (sRet (dC (.bl false)))
  sNext)
  (sRet (dCall (g 9) (dCons (dCall (g 5) (dCons (dVar 1) (dCons (dC (.int 2)) (dCons (dVar 2) dNil)))) (dCons (dVar 1) (dCons (dVar 3) dNil))))))))))
theorem sc_Yes_holds : FnScope ["self", "setting"] ["self", "setting"] (defScope s_Yes_holds) := ⟨rfl, rfl, rfl, by decide +kernel, rfl, by decide +kernel, by decide +kernel⟩
-- slots: 0 self, 1 setting
def d_Yes_holds (g : Nat → List PV → Rx PV) : DS :=
  (sRet (dC (.bl true)))
theorem sc_Yes_text : FnScope ["self"] ["self"] (defScope s_Yes_text) := ⟨rfl, rfl, rfl, by decide +kernel, rfl, by decide +kernel, by decide +kernel⟩
-- slots: 0 self
def d_Yes_text (g : Nat → List PV → Rx PV) : DS :=
  (sRet (dC (.str "yes")))
theorem sc_No_holds : FnScope ["self", "setting"] ["self", "setting"] (defScope s_No_holds) := ⟨rfl, rfl, rfl, by decide +kernel, rfl, by decide +kernel, by decide +kernel⟩
-- slots: 0 self, 1 setting
def d_No_holds (g : Nat → List PV → Rx PV) : DS :=
  (sRet (dC (.bl false)))
theorem sc_No_text : FnScope ["self"] ["self"] (defScope s_No_text) := ⟨rfl, rfl, rfl, by decide +kernel, rfl, by decide +kernel, by decide +kernel⟩
-- slots: 0 self
def d_No_text (g : Nat → List PV → Rx PV) : DS :=
  (sRet (dC (.str "no")))
theorem sc_Named_holds : FnScope ["self", "setting"] ["self", "setting"] (defScope s_Named_holds) := ⟨rfl, rfl, rfl, by decide +kernel, rfl, by decide +kernel, by decide +kernel⟩
-- slots: 0 self, 1 setting
def d_Named_holds (g : Nat → List PV → Rx PV) : DS :=
  (sRet (d2 fEq (d2 fAnd (d2 fShr (dSee 1) (dIndex c_LETTERS (dFld a_name (dVar 0)))) (dC (.int 1))) (dC (.int 1))))
theorem sc_Named_text : FnScope ["self"] ["self"] (defScope s_Named_text) := ⟨rfl, rfl, rfl, by decide +kernel, rfl, by decide +kernel, by decide +kernel⟩
-- slots: 0 self
def d_Named_text (g : Nat → List PV → Rx PV) : DS :=
  (sRet (dFld a_name (dVar 0)))
theorem sc_Not_holds : FnScope ["self", "setting"] ["self", "setting"] (defScope s_Not_holds) := ⟨rfl, rfl, rfl, by decide +kernel, rfl, by decide +kernel, by decide +kernel⟩
-- slots: 0 self, 1 setting
def d_Not_holds (g : Nat → List PV → Rx PV) : DS :=
  (sRet (dNotV (dMeth q_holds g (dFld a_inner (dVar 0)) (dCons (dVar 1) dNil))))
theorem sc_Not_text : FnScope ["self", "inner"] ["self"] (defScope s_Not_text) := ⟨rfl, rfl, rfl, by decide +kernel, rfl, by decide +kernel, by decide +kernel⟩
-- slots: 0 self, 1 inner
def d_Not_text (g : Nat → List PV → Rx PV) : DS :=
  (sSeq (sSet 1 (dMeth q_text g (dFld a_inner (dVar 0)) dNil))
  (sSeq (sIf (dTr (dIsiT i_Both i_Either (dFld a_inner (dVar 0))))
  (sSet 1 (dCall (g 0) (dCons (dVar 1) dNil)))
  sNext)
  (sRet (d2 fCatS (dC (.str "not ")) (dSee 1)))))
theorem sc_Both_holds : FnScope ["self", "setting"] ["self", "setting"] (defScope s_Both_holds) := ⟨rfl, rfl, rfl, by decide +kernel, rfl, by decide +kernel, by decide +kernel⟩
-- slots: 0 self, 1 setting
def d_Both_holds (g : Nat → List PV → Rx PV) : DS :=
  (sRet (dAndV (dMeth q_holds g (dFld a_left (dVar 0)) (dCons (dVar 1) dNil)) (dMeth q_holds g (dFld a_right (dVar 0)) (dCons (dVar 1) dNil))))
theorem sc_Both_text : FnScope ["self", "left", "right"] ["self"] (defScope s_Both_text) := ⟨rfl, rfl, rfl, by decide +kernel, rfl, by decide +kernel, by decide +kernel⟩
-- slots: 0 self, 1 left, 2 right
def d_Both_text (g : Nat → List PV → Rx PV) : DS :=
  (sSeq (sSet 1 (dMeth q_text g (dFld a_left (dVar 0)) dNil))
  (sSeq (sIf (dTr (dIsi i_Either (dFld a_left (dVar 0))))
  (sSet 1 (dCall (g 0) (dCons (dVar 1) dNil)))
  sNext)
  (sSeq (sSet 2 (dMeth q_text g (dFld a_right (dVar 0)) dNil))
  (sSeq (sIf (dTr (dIsiT i_Both i_Either (dFld a_right (dVar 0))))
  (sSet 2 (dCall (g 0) (dCons (dVar 2) dNil)))
  sNext)
  (sRet (d2 fCatS (d2 fCatS (dSee 1) (dC (.str " and "))) (dSee 2)))))))
theorem sc_Either_holds : FnScope ["self", "setting"] ["self", "setting"] (defScope s_Either_holds) := ⟨rfl, rfl, rfl, by decide +kernel, rfl, by decide +kernel, by decide +kernel⟩
-- slots: 0 self, 1 setting
def d_Either_holds (g : Nat → List PV → Rx PV) : DS :=
  (sRet (dOrV (dMeth q_holds g (dFld a_left (dVar 0)) (dCons (dVar 1) dNil)) (dMeth q_holds g (dFld a_right (dVar 0)) (dCons (dVar 1) dNil))))
theorem sc_Either_text : FnScope ["self", "right"] ["self"] (defScope s_Either_text) := ⟨rfl, rfl, rfl, by decide +kernel, rfl, by decide +kernel, by decide +kernel⟩
-- slots: 0 self, 1 right
def d_Either_text (g : Nat → List PV → Rx PV) : DS :=
  (sSeq (sSet 1 (dMeth q_text g (dFld a_right (dVar 0)) dNil))
  (sSeq (sIf (dTr (dIsi i_Either (dFld a_right (dVar 0))))
  (sSet 1 (dCall (g 0) (dCons (dVar 1) dNil)))
  sNext)
  (sRet (d2 fCatS (d2 fCatS (dMeth q_text g (dFld a_left (dVar 0)) dNil) (dC (.str " or "))) (dSee 1)))))
theorem sc_WordReader_at_end : FnScope ["self"] ["self"] (defScope s_WordReader_at_end) := ⟨rfl, rfl, rfl, by decide +kernel, rfl, by decide +kernel, by decide +kernel⟩
-- slots: 0 self
def d_WordReader_at_end (g : Nat → List PV → Rx PV) : DS :=
  (sRetI (d2 fEq (dFldI a_place 0) (dCall bLen (dCons (dFldI a_words 0) dNil))))
theorem sc_WordReader_passes : FnScope ["self", "word"] ["self", "word"] (defScope s_WordReader_passes) := ⟨rfl, rfl, rfl, by decide +kernel, rfl, by decide +kernel, by decide +kernel⟩
-- slots: 0 self, 1 word
def d_WordReader_passes (g : Nat → List PV → Rx PV) : DS :=
  (sSeq (sIfM (mOr (mTr (mMethO qo_at_end g 0 dNil)) (mOfT (dTr (d2 fNe (d2 fIx (dFldI a_words 0) (dFldI a_place 0)) (dSee 1)))))
  (sRetI (dC (.bl false)))
  sNext)
  (sSeq (sFldAugI a_place 0 (fun i j => i + j) (dC (.int 1)))
  (sRetI (dC (.bl true)))))
theorem sc_SignReader_read_either : FnScope ["self", "test"] ["self"] (defScope s_SignReader_read_either) := ⟨rfl, rfl, rfl, by decide +kernel, rfl, by decide +kernel, by decide +kernel⟩
-- slots: 0 self, 1 test
def b_SignReader_read_either_1 (g : Nat → List PV → Rx PV) : DS :=
  (sSetM 1 (mNew 6 2 (mCons (dLift (dVar 1)) (mCons (mMethO qo_read_both g 0 dNil) mNil))))
def d_SignReader_read_either (g : Nat → List PV → Rx PV) : DS :=
  (sSeq (sSetM 1 (mMethO qo_read_both g 0 dNil))
  (sSeq (sWhileM (mTr (mMethO qo_passes g 0 (dCons (dC (.str "or")) dNil)))
  (b_SignReader_read_either_1 g))
  (sRetI (dVar 1))))
theorem sc_SignReader_read_both : FnScope ["self", "test"] ["self"] (defScope s_SignReader_read_both) := ⟨rfl, rfl, rfl, by decide +kernel, rfl, by decide +kernel, by decide +kernel⟩
-- slots: 0 self, 1 test
def b_SignReader_read_both_1 (g : Nat → List PV → Rx PV) : DS :=
  (sSetM 1 (mNew 5 2 (mCons (dLift (dVar 1)) (mCons (mMethO qo_read_single g 0 dNil) mNil))))
def d_SignReader_read_both (g : Nat → List PV → Rx PV) : DS :=
  (sSeq (sSetM 1 (mMethO qo_read_single g 0 dNil))
  (sSeq (sWhileM (mTr (mMethO qo_passes g 0 (dCons (dC (.str "and")) dNil)))
  (b_SignReader_read_both_1 g))
  (sRetI (dVar 1))))
theorem sc_SignReader_read_single : FnScope ["self", "letter"] ["self"] (defScope s_SignReader_read_single) := ⟨rfl, rfl, rfl, by decide +kernel, rfl, by decide +kernel, by decide +kernel⟩
-- slots: 0 self, 1 letter
def b_SignReader_read_single_1 (g : Nat → List PV → Rx PV) : DS :=
  (sIfM (mTr (mMethO qo_passes g 0 (dCons (dVar 1) dNil)))
  (sRetI (dNew 3 (dCons (dVar 1) dNil)))
  sNext)
def d_SignReader_read_single (g : Nat → List PV → Rx PV) : DS :=
  (sSeq (sFor (dItemsT (dC (.tup c_LETTERS))) (gSet 1)
  (b_SignReader_read_single_1 g))
  (sSeq (sIfM (mTr (mMethO qo_passes g 0 (dCons (dC (.str "yes")) dNil)))
  (sRetI (dC (.obj 1 [])))
  sNext)
  (sSeq (sIfM (mTr (mMethO qo_passes g 0 (dCons (dC (.str "no")) dNil)))
  (sRetI (dC (.obj 2 [])))
  sNext)
  (sSeq (sIfM (mTr (mMethO qo_passes g 0 (dCons (dC (.str "not")) dNil)))
  (sRetIM (mNew 4 1 (mCons (mMethO qo_read_single g 0 dNil) mNil)))
  sNext)
  (sSeq (sIfM (mTr (mMethO qo_passes g 0 (dCons (dC (.str "(")) dNil)))
  (sRetIM (mMethO qo_read_bracket g 0 dNil))
  sNext)
  sNever)))))
theorem sc_SignReader_read_bracket : FnScope ["self", "test"] ["self"] (defScope s_SignReader_read_bracket) := ⟨rfl, rfl, rfl, by decide +kernel, rfl, by decide +kernel, by decide +kernel⟩
-- slots: 0 self, 1 test
def d_SignReader_read_bracket (g : Nat → List PV → Rx PV) : DS :=
  (sSeq (sSetM 1 (mMethO qo_read_either g 0 dNil))
  (sSeq (sIfM (mNot (mTr (mMethO qo_passes g 0 (dCons (dC (.str ")")) dNil))))
  sNever
  sNext)
  (sRetI (dVar 1))))
theorem sc_SignReader_init : FnScope ["self", "words"] ["self", "words"] (defScope s_SignReader_init) := ⟨rfl, rfl, rfl, by decide +kernel, rfl, by decide +kernel, by decide +kernel⟩
-- slots: 0 self, 1 words
def d_SignReader_init (g : Nat → List PV → Rx PV) : DS :=
  (sSeq (sIni 8 0 (dOfN (dCallN bList (dCons (dSee 1) dNil))))
  (sIni 8 1 (dC (.int 0))))
noncomputable def gF : Nat → Nat → List PV → Rx PV
  | 0, _, _ => .bad
  | n + 1, 0, ws => runD [false] 1 (d_in_brackets (gF n)) ws
  | n + 1, 1, ws => runD [false] 4 (d_read_test (gF n)) ws
  | n + 1, 2, ws => runD [false, false] 2 (d_l_cell_at (gF n)) ws
  | n + 1, 3, ws => runD [false] 1 (d_l_leaf (gF n)) ws
  | n + 1, 4, ws => runD [false] 5 (d_l_tree (gF n)) ws
  | n + 1, 5, ws => runD [false, false, false] 5 (d_l_within (gF n)) ws
  | n + 1, 6, ws => runD [false, false] 4 (d_l_text (gF n)) ws
  | n + 1, 7, ws => runD [false] 1 (d_l_made (gF n)) ws
  | n + 1, 8, ws => runD [false, false] 2 (d_l_same (gF n)) ws
  | n + 1, 9, ws => runD [false, false, false] 4 (d_l_read (gF n)) ws
  | n + 1, 10, ws => runD [false] 4 (d_law (gF n)) ws
  | n + 1, 11, ws => runD [false, false] 2 (d_Yes_holds (gF n)) ws
  | n + 1, 12, ws => runD [false] 1 (d_Yes_text (gF n)) ws
  | n + 1, 13, ws => runD [false, false] 2 (d_No_holds (gF n)) ws
  | n + 1, 14, ws => runD [false] 1 (d_No_text (gF n)) ws
  | n + 1, 15, ws => runD [false, false] 2 (d_Named_holds (gF n)) ws
  | n + 1, 16, ws => runD [false] 1 (d_Named_text (gF n)) ws
  | n + 1, 17, ws => runD [false, false] 2 (d_Not_holds (gF n)) ws
  | n + 1, 18, ws => runD [false] 2 (d_Not_text (gF n)) ws
  | n + 1, 19, ws => runD [false, false] 2 (d_Both_holds (gF n)) ws
  | n + 1, 20, ws => runD [false] 3 (d_Both_text (gF n)) ws
  | n + 1, 21, ws => runD [false, false] 2 (d_Either_holds (gF n)) ws
  | n + 1, 22, ws => runD [false] 2 (d_Either_text (gF n)) ws
  | n + 1, 23, ws => runO [] 1 (d_WordReader_at_end (gF n)) ws
  | n + 1, 24, ws => runO [false] 2 (d_WordReader_passes (gF n)) ws
  | n + 1, 25, ws => runO [] 2 (d_SignReader_read_either (gF n)) ws
  | n + 1, 26, ws => runO [] 2 (d_SignReader_read_both (gF n)) ws
  | n + 1, 27, ws => runO [] 2 (d_SignReader_read_single (gF n)) ws
  | n + 1, 28, ws => runO [] 2 (d_SignReader_read_bracket (gF n)) ws
  | n + 1, 29, ws => runI 8 2 [false] 2 (d_SignReader_init (gF n)) ws
  | _ + 1, _, _ => .bad
theorem g_in_brackets (n : Nat) (ws : List PV) : gF (n + 1) 0 ws = runD [false] 1 (d_in_brackets (gF n)) ws := rfl
theorem g_l_leaf (n : Nat) (ws : List PV) : gF (n + 1) 3 ws = runD [false] 1 (d_l_leaf (gF n)) ws := rfl
theorem g_l_tree (n : Nat) (ws : List PV) : gF (n + 1) 4 ws = runD [false] 5 (d_l_tree (gF n)) ws := rfl
theorem j_SignReader : ∀ (n : Nat) (ws : List PV) (w : PV), gF n 29 ws = .ok w → ∃ fs, w = .obj 8 fs
  | 0, ws, w, h => by cases h
  | n + 1, ws, w, h => runI_obj h
structure AllF (P : Program) (w : World) (K : PySem.W.Frag) (mg : Str → Option Value) (base : Bs) (cA : Nat → Addr) (n : Nat) : Prop where
  h_in_brackets : FnAt P w K mg base CX0 (2 * n + 3) "in_brackets" (spG K (pg cA) [false] (gF n 0))
  h_read_test : FnAt P w K mg base CX0 (2 * n + 3) "read_test" (spG K (pg cA) [false] (gF n 1))
  x_read_test : FnAt P w K mg base (CX1 P w) (2 * n + 3) "read_test" (spX K (pg cA) [false] (gF n 1))
  h__law_cell_at : FnAt P w K mg base CX0 (2 * n + 3) "_law_cell_at" (spG K (pg cA) [false, false] (gF n 2))
  h__law_leaf : FnAt P w K mg base CX0 (2 * n + 3) "_law_leaf" (spG K (pg cA) [false] (gF n 3))
  h__law_tree : FnAt P w K mg base CX0 (2 * n + 3) "_law_tree" (spG K (pg cA) [false] (gF n 4))
  h__law_within : FnAt P w K mg base CX0 (2 * n + 3) "_law_within" (spG K (pg cA) [false, false, false] (gF n 5))
  h__law_text : FnAt P w K mg base CX0 (2 * n + 3) "_law_text" (spG K (pg cA) [false, false] (gF n 6))
  h__law_made : FnAt P w K mg base CX0 (2 * n + 3) "_law_made" (spG K (pg cA) [false] (gF n 7))
  h__law_same : FnAt P w K mg base CX0 (2 * n + 3) "_law_same" (spG K (pg cA) [false, false] (gF n 8))
  h__law_read : FnAt P w K mg base CX0 (2 * n + 3) "_law_read" (spG K (pg cA) [false, false, false] (gF n 9))
  h_law : FnAt P w K mg base CX0 (2 * n + 3) "law" (spG K (pg cA) [false] (gF n 10))
  m_holds : MtOk P w K mg base (pg cA) (2 * n + 3) "holds" [false] q_holds (gF n)
  m_text : MtOk P w K mg base (pg cA) (2 * n + 3) "text" [] q_text (gF n)
  o_at_end : MtO P w K mg base (pg cA) (2 * n + 3) "at_end" [] qo_at_end (gF n)
  o_passes : MtO P w K mg base (pg cA) (2 * n + 3) "passes" [false] qo_passes (gF n)
  o_read_both : MtO P w K mg base (pg cA) (2 * n + 3) "read_both" [] qo_read_both (gF n)
  o_read_bracket : MtO P w K mg base (pg cA) (2 * n + 3) "read_bracket" [] qo_read_bracket (gF n)
  o_read_either : MtO P w K mg base (pg cA) (2 * n + 3) "read_either" [] qo_read_either (gF n)
  o_read_single : MtO P w K mg base (pg cA) (2 * n + 3) "read_single" [] qo_read_single (gF n)
  n_SignReader : NewI P w K mg base (pg cA) (2 * n + 3) "SignReader" 8 [false] (gF n 29)
theorem b_in_brackets {P : Program} {w : World} {K : PySem.W.Frag} {mg : Str → Option Value} {base : Bs} {cA : Nat → Addr} {ts : List Addr} {n : Nat} (C : Ct P w K mg base cA ts) (I : AllF P w K mg base cA n) {f : Addr} {cdv : Value} {A : Around} {outer : List Env} {s : Shared} {H : Hp} {E : XK} (hr : Room (2 * n + 4) (A.deeper (PyProof.Rows.envOfC "in_brackets" (defScope s_in_brackets) s.heap.objs.size f cdv))) :
    JSs (cxOf CX0 P w K mg base ["text"] "in_brackets" (defScope s_in_brackets) f cdv A outer s H E).nox (pg cA) (defBody s_in_brackets) (d_in_brackets (gF n)) := by
  unfold d_in_brackets
  exact (ss_one (s_ret (p_catS (b_of (p_catS (b_of p_str) (b_var 0))) (b_of p_str))))
theorem b_read_test {P : Program} {w : World} {K : PySem.W.Frag} {mg : Str → Option Value} {base : Bs} {cA : Nat → Addr} {ts : List Addr} {n : Nat} (C : Ct P w K mg base cA ts) (I : AllF P w K mg base cA n) {f : Addr} {cdv : Value} {A : Around} {outer : List Env} {s : Shared} {H : Hp} {E : XK} (hr : Room (2 * n + 4) (A.deeper (PyProof.Rows.envOfC "read_test" (defScope s_read_test) s.heap.objs.size f cdv))) :
    JSsx (cxOf (CX1 P w) P w K mg base ["text", "words", "reader", "test"] "read_test" (defScope s_read_test) f cdv A outer s H E) (pg cA) E (defBody s_read_test) (d_read_test (gF n)) := by
  obtain ⟨_, g_MOST_WORDS⟩ := C.e_MOST_WORDS
  unfold d_read_test
  exact (ssx_cons (sx_of (s_set (i := 1) sc_read_test.nd rfl (Or.inl rfl) (p_of_n (n_split (p_var 0) p_str))))
  (ssx_cons (sx_if (t_gt (b_of (p_callB call_len cb_len rfl C.z_len PySem.boot_len (a_consB (b_var 1) a_nil))) (b_of (p_topI rfl g_MOST_WORDS)))
  (ssx_one (sx_raise 1 (fun _ _ _ _ _ _ _ _ I mk z => raise_leaves I mk z) rfl rfl C.xc_NoTest C.xe_NoTest))
  ssx_nil)
  (ssx_cons (sx_of (s_ownI (i := 2) sc_read_test.nd rfl (Or.inl rfl) I.n_SignReader hr rfl (a_cons (p_var 1) a_nil) (j_SignReader _)))
  (ssx_cons (sx_of (s_setM (i := 3) sc_read_test.nd rfl (Or.inl rfl) (m_methO0 2 I.o_read_either (hr.mono (Nat.le_succ _)))))
  (ssx_cons (sx_ifM (tm_not (tm_val (m_methO0 2 I.o_at_end (hr.mono (Nat.le_succ _)))))
  (ssx_one (sx_raise 1 (fun _ _ _ _ _ _ _ _ I mk z => raise_leaves I mk z) rfl rfl C.xc_NoTest C.xe_NoTest))
  ssx_nil)
  (ssx_one (sx_of (s_ret (p_var 3)))))))))
theorem b_l_cell_at {P : Program} {w : World} {K : PySem.W.Frag} {mg : Str → Option Value} {base : Bs} {cA : Nat → Addr} {ts : List Addr} {n : Nat} (C : Ct P w K mg base cA ts) (I : AllF P w K mg base cA n) {f : Addr} {cdv : Value} {A : Around} {outer : List Env} {s : Shared} {H : Hp} {E : XK} (hr : Room (2 * n + 4) (A.deeper (PyProof.Rows.envOfC "_law_cell_at" (defScope s_l_cell_at) s.heap.objs.size f cdv))) :
    JSs (cxOf CX0 P w K mg base ["_law_script", "_law_k"] "_law_cell_at" (defScope s_l_cell_at) f cdv A outer s H E).nox (pg cA) (defBody s_l_cell_at) (d_l_cell_at (gF n)) := by
  unfold d_l_cell_at
  exact (ss_cons (s_if (t_lt (b_var 1) (b_of (p_callB call_len cb_len rfl C.z_len PySem.boot_len (a_consB (b_var 0) a_nil))))
  (ss_one (s_ret (p_at (b_var 0) (b_var 1) (fun _ _ => rfl))))
  ss_nil)
  (ss_one (s_ret p_int)))
theorem b_l_leaf {P : Program} {w : World} {K : PySem.W.Frag} {mg : Str → Option Value} {base : Bs} {cA : Nat → Addr} {ts : List Addr} {n : Nat} (C : Ct P w K mg base cA ts) (I : AllF P w K mg base cA n) {f : Addr} {cdv : Value} {A : Around} {outer : List Env} {s : Shared} {H : Hp} {E : XK} (hr : Room (2 * n + 4) (A.deeper (PyProof.Rows.envOfC "_law_leaf" (defScope s_l_leaf) s.heap.objs.size f cdv))) :
    JSs (cxOf CX0 P w K mg base ["_law_cell"] "_law_leaf" (defScope s_l_leaf) f cdv A outer s H E).nox (pg cA) (defBody s_l_leaf) (d_l_leaf (gF n)) := by
  unfold d_l_leaf
  exact (ss_cons (s_if (t_eq hr (b_of (p_mod (b_var 0) (b_of p_int))) (b_of p_int))
  (ss_one (s_ret (p_tup (a_cons p_str a_nil))))
  ss_nil)
  (ss_cons (s_if (t_eq hr (b_of (p_mod (b_var 0) (b_of p_int))) (b_of p_int))
  (ss_one (s_ret (p_tup (a_cons p_str a_nil))))
  ss_nil)
  (ss_one (s_ret (p_tup (a_cons p_str (a_cons (p_at (b_of p_str) (b_of (p_mod (b_var 0) (b_of p_int))) (fun _ _ => rfl)) a_nil)))))))
theorem b_l_tree {P : Program} {w : World} {K : PySem.W.Frag} {mg : Str → Option Value} {base : Bs} {cA : Nat → Addr} {ts : List Addr} {n : Nat} (C : Ct P w K mg base cA ts) (I : AllF P w K mg base cA n) {f : Addr} {cdv : Value} {A : Around} {outer : List Env} {s : Shared} {H : Hp} {E : XK} (hr : Room (2 * n + 4) (A.deeper (PyProof.Rows.envOfC "_law_tree" (defScope s_l_tree) s.heap.objs.size f cdv))) :
    JSs (cxOf CX0 P w K mg base ["_law_cells", "_law_held", "_law_cell", "_law_way", "_law_right"] "_law_tree" (defScope s_l_tree) f cdv A outer s H E).nox (pg cA) (defBody s_l_tree) (d_l_tree (gF n)) := by
  unfold d_l_tree
  exact (ss_cons (s_own (i := 1) sc_l_tree.nd rfl (Or.inl rfl) (n_lst (a_cons (p_fn I.h__law_leaf (hr.mono (Nat.le_succ _)) rfl (a_cons (p_mod (b_of (p_callB call_len cb_len rfl C.z_len PySem.boot_len (a_consB (b_var 0) a_nil))) (b_of p_int)) a_nil)) a_nil)))
  (ss_cons (s_for PassesOwn.never rfl (DN.i_list (p_var 0)) (g_name (i := 2) sc_l_tree.nd rfl (Or.inl rfl))
  (ss_cons (s_set (i := 3) sc_l_tree.nd rfl (Or.inl rfl) (p_mod (b_var 2) (b_of p_int)))
  (ss_one (s_if (t_w (w_or (t_lt (b_var 3) (b_of p_int)) (w_or1 (t_w (w_and (t_gt (b_var 3) (b_of p_int)) (w_and1 (t_eq hr (b_of (p_callB call_len cb_len rfl C.z_len PySem.boot_len (a_consB (b_var 1) a_nil))) (b_of p_int))))))))
  (ss_one (s_expr (m_app 1 (m_of (p_fn I.h__law_leaf (hr.mono (Nat.le_succ _)) rfl (a_cons (p_div (b_var 2) (b_of p_int)) a_nil))))))
  (ss_one (s_if (t_lt (b_var 3) (b_of p_int))
  (ss_one (s_expr (m_app 1 (m_tup (ma_cons (m_of p_str) (ma_cons (m_pop 1) ma_nil))))))
  (ss_cons (s_setM (i := 4) sc_l_tree.nd rfl (Or.inl rfl) (m_pop 1))
  (ss_one (s_expr (m_app 1 (m_tup (ma_cons (m_of (p_at (b_of (p_of_n (n_lst (a_cons p_str (a_cons p_str a_nil))))) (b_of (p_sub (b_var 3) (b_of p_int))) (fun _ _ => rfl))) (ma_cons (m_pop 1) (ma_cons (m_of (p_var 4)) ma_nil))))))))))))))
  (ss_cons (s_while PassesOwn.never (t_gt (b_of (p_callB call_len cb_len rfl C.z_len PySem.boot_len (a_consB (b_var 1) a_nil))) (b_of p_int))
  (ss_cons (s_setM (i := 4) sc_l_tree.nd rfl (Or.inl rfl) (m_pop 1))
  (ss_one (s_expr (m_app 1 (m_tup (ma_cons (m_of (p_at (b_of (p_of_n (n_lst (a_cons p_str (a_cons p_str a_nil))))) (b_of (p_mod (b_of (p_callB call_len cb_len rfl C.z_len PySem.boot_len (a_consB (b_var 1) a_nil))) (b_of p_int))) (fun _ _ => rfl))) (ma_cons (m_pop 1) (ma_cons (m_of (p_var 4)) ma_nil)))))))))
  (ss_one (s_ret (p_at (b_var 1) (b_of p_int) (fun _ _ => rfl)))))))
theorem b_l_within {P : Program} {w : World} {K : PySem.W.Frag} {mg : Str → Option Value} {base : Bs} {cA : Nat → Addr} {ts : List Addr} {n : Nat} (C : Ct P w K mg base cA ts) (I : AllF P w K mg base cA n) {f : Addr} {cdv : Value} {A : Around} {outer : List Env} {s : Shared} {H : Hp} {E : XK} (hr : Room (2 * n + 4) (A.deeper (PyProof.Rows.envOfC "_law_within" (defScope s_l_within) s.heap.objs.size f cdv))) :
    JSs (cxOf CX0 P w K mg base ["_law_tree_here", "_law_height", "_law_extra", "_law_here", "_law_text_here"] "_law_within" (defScope s_l_within) f cdv A outer s H E).nox (pg cA) (defBody s_l_within) (d_l_within (gF n)) := by
  unfold d_l_within
  exact (ss_cons (s_set (i := 3) sc_l_within.nd rfl (Or.inl rfl) p_int)
  (ss_cons (s_if (t_eq hr (b_of (p_at (b_var 0) (b_of p_int) (fun _ _ => rfl))) (b_of p_str))
  (ss_one (s_set (i := 3) sc_l_within.nd rfl (Or.inl rfl) p_int))
  ss_nil)
  (ss_cons (s_if (t_eq hr (b_of (p_at (b_var 0) (b_of p_int) (fun _ _ => rfl))) (b_of p_str))
  (ss_one (s_set (i := 3) sc_l_within.nd rfl (Or.inl rfl) p_int))
  ss_nil)
  (ss_cons (s_set (i := 4) sc_l_within.nd rfl (Or.inl rfl) (p_fn I.h__law_text (hr.mono (Nat.le_succ _)) rfl (a_cons (p_var 0) (a_cons (p_var 2) a_nil))))
  (ss_cons (s_if (t_w (w_and (t_ge (b_var 2) (b_of p_int)) (w_and1 (t_eq hr (b_of (p_mod (b_var 2) (b_of p_int))) (b_of p_int)))))
  (ss_one (s_ret (p_catS (b_of (p_catS (b_of p_str) (b_var 4))) (b_of p_str))))
  ss_nil)
  (ss_cons (s_if (t_w (w_or (t_gt (b_var 3) (b_var 1)) (w_or1 (t_w (w_and (t_ge (b_var 2) (b_of p_int)) (w_and1 (t_eq hr (b_of (p_mod (b_var 2) (b_of p_int))) (b_of p_int))))))))
  (ss_one (s_ret (p_catS (b_of (p_catS (b_of p_str) (b_var 4))) (b_of p_str))))
  ss_nil)
  (ss_one (s_ret (p_var 4)))))))))
theorem b_l_text {P : Program} {w : World} {K : PySem.W.Frag} {mg : Str → Option Value} {base : Bs} {cA : Nat → Addr} {ts : List Addr} {n : Nat} (C : Ct P w K mg base cA ts) (I : AllF P w K mg base cA n) {f : Addr} {cdv : Value} {A : Around} {outer : List Env} {s : Shared} {H : Hp} {E : XK} (hr : Room (2 * n + 4) (A.deeper (PyProof.Rows.envOfC "_law_text" (defScope s_l_text) s.heap.objs.size f cdv))) :
    JSs (cxOf CX0 P w K mg base ["_law_tree_here", "_law_extra", "_law_one", "_law_two"] "_law_text" (defScope s_l_text) f cdv A outer s H E).nox (pg cA) (defBody s_l_text) (d_l_text (gF n)) := by
  unfold d_l_text
  exact (ss_cons (s_if (t_eq hr (b_of (p_at (b_var 0) (b_of p_int) (fun _ _ => rfl))) (b_of p_str))
  (ss_one (s_ret (p_at (b_var 0) (b_of p_int) (fun _ _ => rfl))))
  ss_nil)
  (ss_cons (s_if (t_w (w_or (t_eq hr (b_of (p_at (b_var 0) (b_of p_int) (fun _ _ => rfl))) (b_of p_str)) (w_or1 (t_eq hr (b_of (p_at (b_var 0) (b_of p_int) (fun _ _ => rfl))) (b_of p_str)))))
  (ss_one (s_ret (p_at (b_var 0) (b_of p_int) (fun _ _ => rfl))))
  ss_nil)
  (ss_cons (s_set (i := 2) sc_l_text.nd rfl (Or.inl rfl) (p_neg p_int))
  (ss_cons (s_set (i := 3) sc_l_text.nd rfl (Or.inl rfl) (p_neg p_int))
  (ss_cons (s_if (t_ge (b_var 1) (b_of p_int))
  (ss_cons (s_set (i := 2) sc_l_text.nd rfl (Or.inl rfl) (p_mod (b_of (p_add (b_of (p_mul (b_var 1) (b_of p_int))) (b_of p_int))) (b_of p_int)))
  (ss_one (s_set (i := 3) sc_l_text.nd rfl (Or.inl rfl) (p_mod (b_of (p_add (b_of (p_mul (b_var 1) (b_of p_int))) (b_of p_int))) (b_of p_int)))))
  ss_nil)
  (ss_cons (s_if (t_eq hr (b_of (p_at (b_var 0) (b_of p_int) (fun _ _ => rfl))) (b_of p_str))
  (ss_one (s_ret (p_catS (b_of p_str) (b_of (p_fn I.h__law_within (hr.mono (Nat.le_succ _)) rfl (a_cons (p_at (b_var 0) (b_of p_int) (fun _ _ => rfl)) (a_cons p_int (a_cons (p_var 2) a_nil))))))))
  ss_nil)
  (ss_cons (s_if (t_eq hr (b_of (p_at (b_var 0) (b_of p_int) (fun _ _ => rfl))) (b_of p_str))
  (ss_one (s_ret (p_catS (b_of (p_catS (b_of (p_fn I.h__law_within (hr.mono (Nat.le_succ _)) rfl (a_cons (p_at (b_var 0) (b_of p_int) (fun _ _ => rfl)) (a_cons p_int (a_cons (p_var 2) a_nil))))) (b_of p_str))) (b_of (p_fn I.h__law_within (hr.mono (Nat.le_succ _)) rfl (a_cons (p_at (b_var 0) (b_of p_int) (fun _ _ => rfl)) (a_cons p_int (a_cons (p_var 3) a_nil))))))))
  ss_nil)
  (ss_one (s_ret (p_catS (b_of (p_catS (b_of (p_fn I.h__law_within (hr.mono (Nat.le_succ _)) rfl (a_cons (p_at (b_var 0) (b_of p_int) (fun _ _ => rfl)) (a_cons p_int (a_cons (p_var 2) a_nil))))) (b_of p_str))) (b_of (p_fn I.h__law_within (hr.mono (Nat.le_succ _)) rfl (a_cons (p_at (b_var 0) (b_of p_int) (fun _ _ => rfl)) (a_cons p_int (a_cons (p_var 3) a_nil)))))))))))))))
theorem b_l_made {P : Program} {w : World} {K : PySem.W.Frag} {mg : Str → Option Value} {base : Bs} {cA : Nat → Addr} {ts : List Addr} {n : Nat} (C : Ct P w K mg base cA ts) (I : AllF P w K mg base cA n) {f : Addr} {cdv : Value} {A : Around} {outer : List Env} {s : Shared} {H : Hp} {E : XK} (hr : Room (2 * n + 4) (A.deeper (PyProof.Rows.envOfC "_law_made" (defScope s_l_made) s.heap.objs.size f cdv))) :
    JSs (cxOf CX0 P w K mg base ["_law_tree_here"] "_law_made" (defScope s_l_made) f cdv A outer s H E).nox (pg cA) (defBody s_l_made) (d_l_made (gF n)) := by
  unfold d_l_made
  exact (ss_cons (s_if (t_eq hr (b_of (p_at (b_var 0) (b_of p_int) (fun _ _ => rfl))) (b_of p_str))
  (ss_one (s_ret (p_new0 C.k_Yes rfl rfl C.c_Yes)))
  ss_nil)
  (ss_cons (s_if (t_eq hr (b_of (p_at (b_var 0) (b_of p_int) (fun _ _ => rfl))) (b_of p_str))
  (ss_one (s_ret (p_new0 C.k_No rfl rfl C.c_No)))
  ss_nil)
  (ss_cons (s_if (t_eq hr (b_of (p_at (b_var 0) (b_of p_int) (fun _ _ => rfl))) (b_of p_str))
  (ss_one (s_ret (p_new (k := 2 * n + 2) C.n_Named hr rfl (a_cons (p_at (b_var 0) (b_of p_int) (fun _ _ => rfl)) a_nil) rfl)))
  ss_nil)
  (ss_cons (s_if (t_eq hr (b_of (p_at (b_var 0) (b_of p_int) (fun _ _ => rfl))) (b_of p_str))
  (ss_one (s_ret (p_new (k := 2 * n + 2) C.n_Not hr rfl (a_cons (p_fn I.h__law_made (hr.mono (Nat.le_succ _)) rfl (a_cons (p_at (b_var 0) (b_of p_int) (fun _ _ => rfl)) a_nil)) a_nil) rfl)))
  ss_nil)
  (ss_cons (s_if (t_eq hr (b_of (p_at (b_var 0) (b_of p_int) (fun _ _ => rfl))) (b_of p_str))
  (ss_one (s_ret (p_new (k := 2 * n + 2) C.n_Both hr rfl (a_cons (p_fn I.h__law_made (hr.mono (Nat.le_succ _)) rfl (a_cons (p_at (b_var 0) (b_of p_int) (fun _ _ => rfl)) a_nil)) (a_cons (p_fn I.h__law_made (hr.mono (Nat.le_succ _)) rfl (a_cons (p_at (b_var 0) (b_of p_int) (fun _ _ => rfl)) a_nil)) a_nil)) rfl)))
  ss_nil)
  (ss_one (s_ret (p_new (k := 2 * n + 2) C.n_Either hr rfl (a_cons (p_fn I.h__law_made (hr.mono (Nat.le_succ _)) rfl (a_cons (p_at (b_var 0) (b_of p_int) (fun _ _ => rfl)) a_nil)) (a_cons (p_fn I.h__law_made (hr.mono (Nat.le_succ _)) rfl (a_cons (p_at (b_var 0) (b_of p_int) (fun _ _ => rfl)) a_nil)) a_nil)) rfl))))))))
theorem b_l_same {P : Program} {w : World} {K : PySem.W.Frag} {mg : Str → Option Value} {base : Bs} {cA : Nat → Addr} {ts : List Addr} {n : Nat} (C : Ct P w K mg base cA ts) (I : AllF P w K mg base cA n) {f : Addr} {cdv : Value} {A : Around} {outer : List Env} {s : Shared} {H : Hp} {E : XK} (hr : Room (2 * n + 4) (A.deeper (PyProof.Rows.envOfC "_law_same" (defScope s_l_same) s.heap.objs.size f cdv))) :
    JSs (cxOf CX0 P w K mg base ["_law_test", "_law_tree_here"] "_law_same" (defScope s_l_same) f cdv A outer s H E).nox (pg cA) (defBody s_l_same) (d_l_same (gF n)) := by
  unfold d_l_same
  exact (ss_cons (s_if (t_eq hr (b_of (p_at (b_var 1) (b_of p_int) (fun _ _ => rfl))) (b_of p_str))
  (ss_one (s_ret (p_isi rfl C.z_isinstance C.i_Yes ref_only (b_var 0) (pe_globR rfl C.c_Yes))))
  ss_nil)
  (ss_cons (s_if (t_eq hr (b_of (p_at (b_var 1) (b_of p_int) (fun _ _ => rfl))) (b_of p_str))
  (ss_one (s_ret (p_isi rfl C.z_isinstance C.i_No ref_only (b_var 0) (pe_globR rfl C.c_No))))
  ss_nil)
  (ss_cons (s_if (t_eq hr (b_of (p_at (b_var 1) (b_of p_int) (fun _ _ => rfl))) (b_of p_str))
  (ss_one (s_ret (p_andV (p_isi rfl C.z_isinstance C.i_Named ref_only (b_var 0) (pe_globR rfl C.c_Named)) (p_one (p_eq hr (b_of (p_fld C.f_name (p_var 0) rfl)) (b_of (p_at (b_var 1) (b_of p_int) (fun _ _ => rfl))))))))
  ss_nil)
  (ss_cons (s_if (t_eq hr (b_of (p_at (b_var 1) (b_of p_int) (fun _ _ => rfl))) (b_of p_str))
  (ss_one (s_ret (p_andV (p_isi rfl C.z_isinstance C.i_Not ref_only (b_var 0) (pe_globR rfl C.c_Not)) (p_one (p_fn I.h__law_same (hr.mono (Nat.le_succ _)) rfl (a_cons (p_fld C.f_inner (p_var 0) rfl) (a_cons (p_at (b_var 1) (b_of p_int) (fun _ _ => rfl)) a_nil)))))))
  ss_nil)
  (ss_cons (s_if (t_w (w_and (t_eq hr (b_of (p_at (b_var 1) (b_of p_int) (fun _ _ => rfl))) (b_of p_str)) (w_and1 (t_not (t_val (p_isi rfl C.z_isinstance C.i_Both ref_only (b_var 0) (pe_globR rfl C.c_Both)))))))
  (ss_one (s_ret p_bl))
  ss_nil)
  (ss_cons (s_if (t_w (w_and (t_eq hr (b_of (p_at (b_var 1) (b_of p_int) (fun _ _ => rfl))) (b_of p_str)) (w_and1 (t_not (t_val (p_isi rfl C.z_isinstance C.i_Either ref_only (b_var 0) (pe_globR rfl C.c_Either)))))))
  (ss_one (s_ret p_bl))
  ss_nil)
  (ss_one (s_ret (p_andV (p_fn I.h__law_same (hr.mono (Nat.le_succ _)) rfl (a_cons (p_fld C.f_left (p_var 0) rfl) (a_cons (p_at (b_var 1) (b_of p_int) (fun _ _ => rfl)) a_nil))) (p_one (p_fn I.h__law_same (hr.mono (Nat.le_succ _)) rfl (a_cons (p_fld C.f_right (p_var 0) rfl) (a_cons (p_at (b_var 1) (b_of p_int) (fun _ _ => rfl)) a_nil)))))))))))))
theorem b_l_read {P : Program} {w : World} {K : PySem.W.Frag} {mg : Str → Option Value} {base : Bs} {cA : Nat → Addr} {ts : List Addr} {n : Nat} (C : Ct P w K mg base cA ts) (I : AllF P w K mg base cA n) {f : Addr} {cdv : Value} {A : Around} {outer : List Env} {s : Shared} {H : Hp} {E : XK} (hr : Room (2 * n + 4) (A.deeper (PyProof.Rows.envOfC "_law_read" (defScope s_l_read) s.heap.objs.size f cdv))) :
    JSs (cxOf CX0 P w K mg base ["_law_text_here", "_law_tree_here", "_law_own", "_law_test"] "_law_read" (defScope s_l_read) f cdv A outer s H E).nox (pg cA) (defBody s_l_read) (d_l_read (gF n)) := by
  unfold d_l_read
  exact (ss_cons (s_set (i := 3) sc_l_read.nd rfl (Or.inl rfl) p_non)
  (ss_cons (s_tryC (i := 3) 1 rfl rfl rfl sc_l_read.nd rfl (Or.inl rfl) I.x_read_test (hr.mono (Nat.le_succ _)) rfl (a_cons (p_var 0) a_nil) rfl C.xc_NoTest C.xe_NoTest fun _ => (ss_one (s_set (i := 3) sc_l_read.nd rfl (Or.inl rfl) p_non)))
  (ss_cons (s_if (t_gt (b_of (p_callB call_len cb_len rfl C.z_len PySem.boot_len (a_consB (b_of (p_of_n (n_split (p_var 0) p_str))) a_nil))) (b_of p_int))
  (ss_one (s_ret (p_isN (b_var 3))))
  ss_nil)
  (ss_one (s_ret (p_andV (p_notN (b_var 3)) (p_andV (p_fn I.h__law_same (hr.mono (Nat.le_succ _)) rfl (a_cons (p_var 3) (a_cons (p_var 1) a_nil))) (p_one (p_eq hr (b_of (p_meth0 I.m_text (hr.mono (Nat.le_succ _)) (p_var 3))) (b_var 2))))))))))
theorem b_law {P : Program} {w : World} {K : PySem.W.Frag} {mg : Str → Option Value} {base : Bs} {cA : Nat → Addr} {ts : List Addr} {n : Nat} (C : Ct P w K mg base cA ts) (I : AllF P w K mg base cA n) {f : Addr} {cdv : Value} {A : Around} {outer : List Env} {s : Shared} {H : Hp} {E : XK} (hr : Room (2 * n + 4) (A.deeper (PyProof.Rows.envOfC "law" (defScope s_law) s.heap.objs.size f cdv))) :
    JSs (cxOf CX0 P w K mg base ["_law_script", "_law_tree_here", "_law_extra", "_law_own"] "law" (defScope s_law) f cdv A outer s H E).nox (pg cA) (defBody s_law) (d_law (gF n)) := by
  unfold d_law
  exact (ss_cons (s_set (i := 1) sc_law.nd rfl (Or.inl rfl) (p_fn I.h__law_tree (hr.mono (Nat.le_succ _)) rfl (a_cons (p_of_n (n_cut (b_var 0) (o_some p_int) (o_some p_int))) a_nil)))
  (ss_cons (s_set (i := 2) sc_law.nd rfl (Or.inl rfl) (p_mod (b_of (p_fn I.h__law_cell_at (hr.mono (Nat.le_succ _)) rfl (a_cons (p_var 0) (a_cons p_int a_nil)))) (b_of p_int)))
  (ss_cons (s_if (t_eq hr (b_of (p_mod (b_of (p_fn I.h__law_cell_at (hr.mono (Nat.le_succ _)) rfl (a_cons (p_var 0) (a_cons p_int a_nil)))) (b_of p_int))) (b_of p_int))
  (ss_one (s_set (i := 2) sc_law.nd rfl (Or.inl rfl) (p_neg p_int)))
  ss_nil)
  (ss_cons (s_set (i := 3) sc_law.nd rfl (Or.inl rfl) (p_fn I.h__law_text (hr.mono (Nat.le_succ _)) rfl (a_cons (p_var 1) (a_cons (p_neg p_int) a_nil))))
  (ss_cons (s_if (t_w (w_or (t_ne hr (b_of (p_meth0 I.m_text (hr.mono (Nat.le_succ _)) (p_fn I.h__law_made (hr.mono (Nat.le_succ _)) rfl (a_cons (p_var 1) a_nil)))) (b_var 3)) (w_or1 (t_not (t_val (p_fn I.h__law_read (hr.mono (Nat.le_succ _)) rfl (a_cons (p_var 3) (a_cons (p_var 1) (a_cons (p_var 3) a_nil)))))))))
  (ss_one (s_ret p_bl))
  ss_nil)
  (ss_one (s_ret (p_fn I.h__law_read (hr.mono (Nat.le_succ _)) rfl (a_cons (p_fn I.h__law_within (hr.mono (Nat.le_succ _)) rfl (a_cons (p_var 1) (a_cons p_int (a_cons (p_var 2) a_nil)))) (a_cons (p_var 1) (a_cons (p_var 3) a_nil)))))))))))
theorem b_Yes_holds {P : Program} {w : World} {K : PySem.W.Frag} {mg : Str → Option Value} {base : Bs} {cA : Nat → Addr} {ts : List Addr} {n : Nat} (C : Ct P w K mg base cA ts) (I : AllF P w K mg base cA n) {f : Addr} {cdv : Value} {A : Around} {outer : List Env} {s : Shared} {H : Hp} {E : XK} (hr : Room (2 * n + 4) (A.deeper (PyProof.Rows.envOfC "Yes.holds" (defScope s_Yes_holds) s.heap.objs.size f cdv))) :
    JSs (cxOf CX0 P w K mg base ["self", "setting"] "Yes.holds" (defScope s_Yes_holds) f cdv A outer s H E).nox (pg cA) (defBody s_Yes_holds) (d_Yes_holds (gF n)) := by
  unfold d_Yes_holds
  exact (ss_one (s_ret p_bl))
theorem b_Yes_text {P : Program} {w : World} {K : PySem.W.Frag} {mg : Str → Option Value} {base : Bs} {cA : Nat → Addr} {ts : List Addr} {n : Nat} (C : Ct P w K mg base cA ts) (I : AllF P w K mg base cA n) {f : Addr} {cdv : Value} {A : Around} {outer : List Env} {s : Shared} {H : Hp} {E : XK} (hr : Room (2 * n + 4) (A.deeper (PyProof.Rows.envOfC "Yes.text" (defScope s_Yes_text) s.heap.objs.size f cdv))) :
    JSs (cxOf CX0 P w K mg base ["self"] "Yes.text" (defScope s_Yes_text) f cdv A outer s H E).nox (pg cA) (defBody s_Yes_text) (d_Yes_text (gF n)) := by
  unfold d_Yes_text
  exact (ss_one (s_ret p_str))
theorem b_No_holds {P : Program} {w : World} {K : PySem.W.Frag} {mg : Str → Option Value} {base : Bs} {cA : Nat → Addr} {ts : List Addr} {n : Nat} (C : Ct P w K mg base cA ts) (I : AllF P w K mg base cA n) {f : Addr} {cdv : Value} {A : Around} {outer : List Env} {s : Shared} {H : Hp} {E : XK} (hr : Room (2 * n + 4) (A.deeper (PyProof.Rows.envOfC "No.holds" (defScope s_No_holds) s.heap.objs.size f cdv))) :
    JSs (cxOf CX0 P w K mg base ["self", "setting"] "No.holds" (defScope s_No_holds) f cdv A outer s H E).nox (pg cA) (defBody s_No_holds) (d_No_holds (gF n)) := by
  unfold d_No_holds
  exact (ss_one (s_ret p_bl))
theorem b_No_text {P : Program} {w : World} {K : PySem.W.Frag} {mg : Str → Option Value} {base : Bs} {cA : Nat → Addr} {ts : List Addr} {n : Nat} (C : Ct P w K mg base cA ts) (I : AllF P w K mg base cA n) {f : Addr} {cdv : Value} {A : Around} {outer : List Env} {s : Shared} {H : Hp} {E : XK} (hr : Room (2 * n + 4) (A.deeper (PyProof.Rows.envOfC "No.text" (defScope s_No_text) s.heap.objs.size f cdv))) :
    JSs (cxOf CX0 P w K mg base ["self"] "No.text" (defScope s_No_text) f cdv A outer s H E).nox (pg cA) (defBody s_No_text) (d_No_text (gF n)) := by
  unfold d_No_text
  exact (ss_one (s_ret p_str))
theorem b_Named_holds {P : Program} {w : World} {K : PySem.W.Frag} {mg : Str → Option Value} {base : Bs} {cA : Nat → Addr} {ts : List Addr} {n : Nat} (C : Ct P w K mg base cA ts) (I : AllF P w K mg base cA n) {f : Addr} {cdv : Value} {A : Around} {outer : List Env} {s : Shared} {H : Hp} {E : XK} (hr : Room (2 * n + 4) (A.deeper (PyProof.Rows.envOfC "Named.holds" (defScope s_Named_holds) s.heap.objs.size f cdv))) :
    JSs (cxOf CX0 P w K mg base ["self", "setting"] "Named.holds" (defScope s_Named_holds) f cdv A outer s H E).nox (pg cA) (defBody s_Named_holds) (d_Named_holds (gF n)) := by
  obtain ⟨_, g_LETTERS, t_LETTERS⟩ := C.e_LETTERS
  unfold d_Named_holds
  exact (ss_one (s_ret (p_eq hr (b_of (p_and (b_of (p_shr (b_var 1) (b_of (p_index (ws := c_LETTERS) t_LETTERS rfl g_LETTERS (fun _ _ => ⟨_, _, rfl, rfl, ⟨_, _, rfl, rfl, ⟨_, _, rfl, rfl, ⟨_, _, rfl, rfl, rfl⟩⟩⟩⟩) rfl (p_fld C.f_name (p_var 0) rfl))))) (b_of p_int))) (b_of p_int))))
theorem b_Named_text {P : Program} {w : World} {K : PySem.W.Frag} {mg : Str → Option Value} {base : Bs} {cA : Nat → Addr} {ts : List Addr} {n : Nat} (C : Ct P w K mg base cA ts) (I : AllF P w K mg base cA n) {f : Addr} {cdv : Value} {A : Around} {outer : List Env} {s : Shared} {H : Hp} {E : XK} (hr : Room (2 * n + 4) (A.deeper (PyProof.Rows.envOfC "Named.text" (defScope s_Named_text) s.heap.objs.size f cdv))) :
    JSs (cxOf CX0 P w K mg base ["self"] "Named.text" (defScope s_Named_text) f cdv A outer s H E).nox (pg cA) (defBody s_Named_text) (d_Named_text (gF n)) := by
  unfold d_Named_text
  exact (ss_one (s_ret (p_fld C.f_name (p_var 0) rfl)))
theorem b_Not_holds {P : Program} {w : World} {K : PySem.W.Frag} {mg : Str → Option Value} {base : Bs} {cA : Nat → Addr} {ts : List Addr} {n : Nat} (C : Ct P w K mg base cA ts) (I : AllF P w K mg base cA n) {f : Addr} {cdv : Value} {A : Around} {outer : List Env} {s : Shared} {H : Hp} {E : XK} (hr : Room (2 * n + 4) (A.deeper (PyProof.Rows.envOfC "Not.holds" (defScope s_Not_holds) s.heap.objs.size f cdv))) :
    JSs (cxOf CX0 P w K mg base ["self", "setting"] "Not.holds" (defScope s_Not_holds) f cdv A outer s H E).nox (pg cA) (defBody s_Not_holds) (d_Not_holds (gF n)) := by
  unfold d_Not_holds
  exact (ss_one (s_ret (p_notV (p_meth I.m_holds (hr.mono (Nat.le_succ _)) (p_fld C.f_inner (p_var 0) rfl) (a_cons (p_var 1) a_nil)))))
theorem b_Not_text {P : Program} {w : World} {K : PySem.W.Frag} {mg : Str → Option Value} {base : Bs} {cA : Nat → Addr} {ts : List Addr} {n : Nat} (C : Ct P w K mg base cA ts) (I : AllF P w K mg base cA n) {f : Addr} {cdv : Value} {A : Around} {outer : List Env} {s : Shared} {H : Hp} {E : XK} (hr : Room (2 * n + 4) (A.deeper (PyProof.Rows.envOfC "Not.text" (defScope s_Not_text) s.heap.objs.size f cdv))) :
    JSs (cxOf CX0 P w K mg base ["self", "inner"] "Not.text" (defScope s_Not_text) f cdv A outer s H E).nox (pg cA) (defBody s_Not_text) (d_Not_text (gF n)) := by
  unfold d_Not_text
  exact (ss_cons (s_set (i := 1) sc_Not_text.nd rfl (Or.inl rfl) (p_meth0 I.m_text (hr.mono (Nat.le_succ _)) (p_fld C.f_inner (p_var 0) rfl)))
  (ss_cons (s_if (t_val (p_isiT rfl C.z_isinstance C.i_Both C.i_Either (b_of (p_fld C.f_inner (p_var 0) rfl)) (pe_globR rfl C.c_Both) (pe_globR rfl C.c_Either)))
  (ss_one (s_set (i := 1) sc_Not_text.nd rfl (Or.inl rfl) (p_fn I.h_in_brackets (hr.mono (Nat.le_succ _)) rfl (a_cons (p_var 1) a_nil))))
  ss_nil)
  (ss_one (s_ret (p_catS (b_of p_str) (b_var 1))))))
theorem b_Both_holds {P : Program} {w : World} {K : PySem.W.Frag} {mg : Str → Option Value} {base : Bs} {cA : Nat → Addr} {ts : List Addr} {n : Nat} (C : Ct P w K mg base cA ts) (I : AllF P w K mg base cA n) {f : Addr} {cdv : Value} {A : Around} {outer : List Env} {s : Shared} {H : Hp} {E : XK} (hr : Room (2 * n + 4) (A.deeper (PyProof.Rows.envOfC "Both.holds" (defScope s_Both_holds) s.heap.objs.size f cdv))) :
    JSs (cxOf CX0 P w K mg base ["self", "setting"] "Both.holds" (defScope s_Both_holds) f cdv A outer s H E).nox (pg cA) (defBody s_Both_holds) (d_Both_holds (gF n)) := by
  unfold d_Both_holds
  exact (ss_one (s_ret (p_andV (p_meth I.m_holds (hr.mono (Nat.le_succ _)) (p_fld C.f_left (p_var 0) rfl) (a_cons (p_var 1) a_nil)) (p_one (p_meth I.m_holds (hr.mono (Nat.le_succ _)) (p_fld C.f_right (p_var 0) rfl) (a_cons (p_var 1) a_nil))))))
theorem b_Both_text {P : Program} {w : World} {K : PySem.W.Frag} {mg : Str → Option Value} {base : Bs} {cA : Nat → Addr} {ts : List Addr} {n : Nat} (C : Ct P w K mg base cA ts) (I : AllF P w K mg base cA n) {f : Addr} {cdv : Value} {A : Around} {outer : List Env} {s : Shared} {H : Hp} {E : XK} (hr : Room (2 * n + 4) (A.deeper (PyProof.Rows.envOfC "Both.text" (defScope s_Both_text) s.heap.objs.size f cdv))) :
    JSs (cxOf CX0 P w K mg base ["self", "left", "right"] "Both.text" (defScope s_Both_text) f cdv A outer s H E).nox (pg cA) (defBody s_Both_text) (d_Both_text (gF n)) := by
  unfold d_Both_text
  exact (ss_cons (s_set (i := 1) sc_Both_text.nd rfl (Or.inl rfl) (p_meth0 I.m_text (hr.mono (Nat.le_succ _)) (p_fld C.f_left (p_var 0) rfl)))
  (ss_cons (s_if (t_val (p_isi rfl C.z_isinstance C.i_Either ref_only (b_of (p_fld C.f_left (p_var 0) rfl)) (pe_globR rfl C.c_Either)))
  (ss_one (s_set (i := 1) sc_Both_text.nd rfl (Or.inl rfl) (p_fn I.h_in_brackets (hr.mono (Nat.le_succ _)) rfl (a_cons (p_var 1) a_nil))))
  ss_nil)
  (ss_cons (s_set (i := 2) sc_Both_text.nd rfl (Or.inl rfl) (p_meth0 I.m_text (hr.mono (Nat.le_succ _)) (p_fld C.f_right (p_var 0) rfl)))
  (ss_cons (s_if (t_val (p_isiT rfl C.z_isinstance C.i_Both C.i_Either (b_of (p_fld C.f_right (p_var 0) rfl)) (pe_globR rfl C.c_Both) (pe_globR rfl C.c_Either)))
  (ss_one (s_set (i := 2) sc_Both_text.nd rfl (Or.inl rfl) (p_fn I.h_in_brackets (hr.mono (Nat.le_succ _)) rfl (a_cons (p_var 2) a_nil))))
  ss_nil)
  (ss_one (s_ret (p_catS (b_of (p_catS (b_var 1) (b_of p_str))) (b_var 2))))))))
theorem b_Either_holds {P : Program} {w : World} {K : PySem.W.Frag} {mg : Str → Option Value} {base : Bs} {cA : Nat → Addr} {ts : List Addr} {n : Nat} (C : Ct P w K mg base cA ts) (I : AllF P w K mg base cA n) {f : Addr} {cdv : Value} {A : Around} {outer : List Env} {s : Shared} {H : Hp} {E : XK} (hr : Room (2 * n + 4) (A.deeper (PyProof.Rows.envOfC "Either.holds" (defScope s_Either_holds) s.heap.objs.size f cdv))) :
    JSs (cxOf CX0 P w K mg base ["self", "setting"] "Either.holds" (defScope s_Either_holds) f cdv A outer s H E).nox (pg cA) (defBody s_Either_holds) (d_Either_holds (gF n)) := by
  unfold d_Either_holds
  exact (ss_one (s_ret (p_orV (p_meth I.m_holds (hr.mono (Nat.le_succ _)) (p_fld C.f_left (p_var 0) rfl) (a_cons (p_var 1) a_nil)) (p_one (p_meth I.m_holds (hr.mono (Nat.le_succ _)) (p_fld C.f_right (p_var 0) rfl) (a_cons (p_var 1) a_nil))))))
theorem b_Either_text {P : Program} {w : World} {K : PySem.W.Frag} {mg : Str → Option Value} {base : Bs} {cA : Nat → Addr} {ts : List Addr} {n : Nat} (C : Ct P w K mg base cA ts) (I : AllF P w K mg base cA n) {f : Addr} {cdv : Value} {A : Around} {outer : List Env} {s : Shared} {H : Hp} {E : XK} (hr : Room (2 * n + 4) (A.deeper (PyProof.Rows.envOfC "Either.text" (defScope s_Either_text) s.heap.objs.size f cdv))) :
    JSs (cxOf CX0 P w K mg base ["self", "right"] "Either.text" (defScope s_Either_text) f cdv A outer s H E).nox (pg cA) (defBody s_Either_text) (d_Either_text (gF n)) := by
  unfold d_Either_text
  exact (ss_cons (s_set (i := 1) sc_Either_text.nd rfl (Or.inl rfl) (p_meth0 I.m_text (hr.mono (Nat.le_succ _)) (p_fld C.f_right (p_var 0) rfl)))
  (ss_cons (s_if (t_val (p_isi rfl C.z_isinstance C.i_Either ref_only (b_of (p_fld C.f_right (p_var 0) rfl)) (pe_globR rfl C.c_Either)))
  (ss_one (s_set (i := 1) sc_Either_text.nd rfl (Or.inl rfl) (p_fn I.h_in_brackets (hr.mono (Nat.le_succ _)) rfl (a_cons (p_var 1) a_nil))))
  ss_nil)
  (ss_one (s_ret (p_catS (b_of (p_catS (b_of (p_meth0 I.m_text (hr.mono (Nat.le_succ _)) (p_fld C.f_left (p_var 0) rfl))) (b_of p_str))) (b_var 1))))))
theorem b_WordReader_at_end {P : Program} {w : World} {K : PySem.W.Frag} {mg : Str → Option Value} {base : Bs} {cA : Nat → Addr} {ts : List Addr} {n : Nat} (C : Ct P w K mg base cA ts) (I : AllF P w K mg base cA n) {f : Addr} {cdv : Value} {A : Around} {outer : List Env} {s : Shared} {H : Hp} {E : XK} (hr : Room (2 * n + 4) (A.deeper (PyProof.Rows.envOfC "WordReader.at_end" (defScope s_WordReader_at_end) s.heap.objs.size f cdv))) :
    JSs (cxOf CX0 P w K mg base ["self"] "WordReader.at_end" (defScope s_WordReader_at_end) f cdv A outer s H E).nox (pg cA) (defBody s_WordReader_at_end) (d_WordReader_at_end (gF n)) := by
  unfold d_WordReader_at_end
  exact (ss_one (s_retI (p_eq hr (b_of (p_fldI 0 C.f_place)) (b_of (p_callB call_len cb_len rfl C.z_len PySem.boot_len (a_consB (b_of (p_fldI 0 C.f_words)) a_nil))))))
theorem b_WordReader_passes {P : Program} {w : World} {K : PySem.W.Frag} {mg : Str → Option Value} {base : Bs} {cA : Nat → Addr} {ts : List Addr} {n : Nat} (C : Ct P w K mg base cA ts) (I : AllF P w K mg base cA n) {f : Addr} {cdv : Value} {A : Around} {outer : List Env} {s : Shared} {H : Hp} {E : XK} (hr : Room (2 * n + 4) (A.deeper (PyProof.Rows.envOfC "WordReader.passes" (defScope s_WordReader_passes) s.heap.objs.size f cdv))) :
    JSs (cxOf CX0 P w K mg base ["self", "word"] "WordReader.passes" (defScope s_WordReader_passes) f cdv A outer s H E).nox (pg cA) (defBody s_WordReader_passes) (d_WordReader_passes (gF n)) := by
  unfold d_WordReader_passes
  exact (ss_cons (s_ifM (tm_w (wm_or (tm_val (m_methO0 0 I.o_at_end (hr.mono (Nat.le_succ _)))) (wm_or1 (tm_of (t_ne hr (b_of (p_at (b_of (p_fldI 0 C.f_words)) (b_of (p_fldI 0 C.f_place)) (fun _ _ => rfl))) (b_var 1))))))
  (ss_one (s_retI p_bl))
  ss_nil)
  (ss_cons (s_fldAugI 0 C.f_place fNs in_add p_int)
  (ss_one (s_retI p_bl))))
theorem b_SignReader_read_either {P : Program} {w : World} {K : PySem.W.Frag} {mg : Str → Option Value} {base : Bs} {cA : Nat → Addr} {ts : List Addr} {n : Nat} (C : Ct P w K mg base cA ts) (I : AllF P w K mg base cA n) {f : Addr} {cdv : Value} {A : Around} {outer : List Env} {s : Shared} {H : Hp} {E : XK} (hr : Room (2 * n + 4) (A.deeper (PyProof.Rows.envOfC "SignReader.read_either" (defScope s_SignReader_read_either) s.heap.objs.size f cdv))) :
    JSs (cxOf CX0 P w K mg base ["self", "test"] "SignReader.read_either" (defScope s_SignReader_read_either) f cdv A outer s H E).nox (pg cA) (defBody s_SignReader_read_either) (d_SignReader_read_either (gF n)) := by
  unfold d_SignReader_read_either
  exact (ss_cons (s_setM (i := 1) sc_SignReader_read_either.nd rfl (Or.inl rfl) (m_methO0 0 I.o_read_both (hr.mono (Nat.le_succ _))))
  (ss_cons (s_whileM PassesOwn.never (tm_val (m_methO 0 I.o_passes (hr.mono (Nat.le_succ _)) (a_cons p_str a_nil)))
  (ss_one (s_setM (i := 1) sc_SignReader_read_either.nd rfl (Or.inl rfl) (m_new (k := 2 * n + 2) C.n_Either hr rfl (ma_cons (m_of (p_var 1)) (ma_cons (m_methO0 0 I.o_read_both (hr.mono (Nat.le_succ _))) ma_nil)) rfl))))
  (ss_one (s_retI (p_var 1)))))
theorem b_SignReader_read_both {P : Program} {w : World} {K : PySem.W.Frag} {mg : Str → Option Value} {base : Bs} {cA : Nat → Addr} {ts : List Addr} {n : Nat} (C : Ct P w K mg base cA ts) (I : AllF P w K mg base cA n) {f : Addr} {cdv : Value} {A : Around} {outer : List Env} {s : Shared} {H : Hp} {E : XK} (hr : Room (2 * n + 4) (A.deeper (PyProof.Rows.envOfC "SignReader.read_both" (defScope s_SignReader_read_both) s.heap.objs.size f cdv))) :
    JSs (cxOf CX0 P w K mg base ["self", "test"] "SignReader.read_both" (defScope s_SignReader_read_both) f cdv A outer s H E).nox (pg cA) (defBody s_SignReader_read_both) (d_SignReader_read_both (gF n)) := by
  unfold d_SignReader_read_both
  exact (ss_cons (s_setM (i := 1) sc_SignReader_read_both.nd rfl (Or.inl rfl) (m_methO0 0 I.o_read_single (hr.mono (Nat.le_succ _))))
  (ss_cons (s_whileM PassesOwn.never (tm_val (m_methO 0 I.o_passes (hr.mono (Nat.le_succ _)) (a_cons p_str a_nil)))
  (ss_one (s_setM (i := 1) sc_SignReader_read_both.nd rfl (Or.inl rfl) (m_new (k := 2 * n + 2) C.n_Both hr rfl (ma_cons (m_of (p_var 1)) (ma_cons (m_methO0 0 I.o_read_single (hr.mono (Nat.le_succ _))) ma_nil)) rfl))))
  (ss_one (s_retI (p_var 1)))))
theorem b_SignReader_read_single {P : Program} {w : World} {K : PySem.W.Frag} {mg : Str → Option Value} {base : Bs} {cA : Nat → Addr} {ts : List Addr} {n : Nat} (C : Ct P w K mg base cA ts) (I : AllF P w K mg base cA n) {f : Addr} {cdv : Value} {A : Around} {outer : List Env} {s : Shared} {H : Hp} {E : XK} (hr : Room (2 * n + 4) (A.deeper (PyProof.Rows.envOfC "SignReader.read_single" (defScope s_SignReader_read_single) s.heap.objs.size f cdv))) :
    JSs (cxOf CX0 P w K mg base ["self", "letter"] "SignReader.read_single" (defScope s_SignReader_read_single) f cdv A outer s H E).nox (pg cA) (defBody s_SignReader_read_single) (d_SignReader_read_single (gF n)) := by
  obtain ⟨_, g_LETTERS, t_LETTERS⟩ := C.e_LETTERS
  unfold d_SignReader_read_single
  exact (ss_cons (s_for PassesOwn.never rfl (i_tup (p_topT (ws := c_LETTERS) t_LETTERS rfl g_LETTERS (fun _ _ => ⟨_, _, rfl, rfl, ⟨_, _, rfl, rfl, ⟨_, _, rfl, rfl, ⟨_, _, rfl, rfl, rfl⟩⟩⟩⟩))) (g_name (i := 1) sc_SignReader_read_single.nd rfl (Or.inl rfl))
  (ss_one (s_ifM (tm_val (m_methO 0 I.o_passes (hr.mono (Nat.le_succ _)) (a_cons (p_var 1) a_nil)))
  (ss_one (s_retI (p_new (k := 2 * n + 2) C.n_Named hr rfl (a_cons (p_var 1) a_nil) rfl)))
  ss_nil)))
  (ss_cons (s_ifM (tm_val (m_methO 0 I.o_passes (hr.mono (Nat.le_succ _)) (a_cons p_str a_nil)))
  (ss_one (s_retI (p_new0 C.k_Yes rfl rfl C.c_Yes)))
  ss_nil)
  (ss_cons (s_ifM (tm_val (m_methO 0 I.o_passes (hr.mono (Nat.le_succ _)) (a_cons p_str a_nil)))
  (ss_one (s_retI (p_new0 C.k_No rfl rfl C.c_No)))
  ss_nil)
  (ss_cons (s_ifM (tm_val (m_methO 0 I.o_passes (hr.mono (Nat.le_succ _)) (a_cons p_str a_nil)))
  (ss_one (s_retIM (m_new (k := 2 * n + 2) C.n_Not hr rfl (ma_cons (m_methO0 0 I.o_read_single (hr.mono (Nat.le_succ _))) ma_nil) rfl)))
  ss_nil)
  (ss_cons (s_ifM (tm_val (m_methO 0 I.o_passes (hr.mono (Nat.le_succ _)) (a_cons p_str a_nil)))
  (ss_one (s_retIM (m_methO0 0 I.o_read_bracket (hr.mono (Nat.le_succ _)))))
  ss_nil)
  (ss_one s_never))))))
theorem b_SignReader_read_bracket {P : Program} {w : World} {K : PySem.W.Frag} {mg : Str → Option Value} {base : Bs} {cA : Nat → Addr} {ts : List Addr} {n : Nat} (C : Ct P w K mg base cA ts) (I : AllF P w K mg base cA n) {f : Addr} {cdv : Value} {A : Around} {outer : List Env} {s : Shared} {H : Hp} {E : XK} (hr : Room (2 * n + 4) (A.deeper (PyProof.Rows.envOfC "SignReader.read_bracket" (defScope s_SignReader_read_bracket) s.heap.objs.size f cdv))) :
    JSs (cxOf CX0 P w K mg base ["self", "test"] "SignReader.read_bracket" (defScope s_SignReader_read_bracket) f cdv A outer s H E).nox (pg cA) (defBody s_SignReader_read_bracket) (d_SignReader_read_bracket (gF n)) := by
  unfold d_SignReader_read_bracket
  exact (ss_cons (s_setM (i := 1) sc_SignReader_read_bracket.nd rfl (Or.inl rfl) (m_methO0 0 I.o_read_either (hr.mono (Nat.le_succ _))))
  (ss_cons (s_ifM (tm_not (tm_val (m_methO 0 I.o_passes (hr.mono (Nat.le_succ _)) (a_cons p_str a_nil))))
  (ss_one s_never)
  ss_nil)
  (ss_one (s_retI (p_var 1)))))
theorem b_SignReader_init {P : Program} {w : World} {K : PySem.W.Frag} {mg : Str → Option Value} {base : Bs} {cA : Nat → Addr} {ts : List Addr} {n : Nat} (C : Ct P w K mg base cA ts) (I : AllF P w K mg base cA n) {f : Addr} {cdv : Value} {A : Around} {outer : List Env} {s : Shared} {H : Hp} {E : XK} (hr : Room (2 * n + 4) (A.deeper (PyProof.Rows.envOfC "WordReader.__init__" (defScope s_SignReader_init) s.heap.objs.size f cdv))) :
    JSs (cxOf CX0 P w K mg base ["self", "words"] "WordReader.__init__" (defScope s_SignReader_init) f cdv A outer s H E).nox (pg cA) (defBody s_SignReader_init) (d_SignReader_init (gF n)) := by
  unfold d_SignReader_init
  exact (ss_cons (s_ini (j := 0) 8 C.l_SignReader.cls C.x_SignReader_words (show (fN 8).Nodup by decide +kernel) rfl (show (fN 8).length < 1000 by decide) (p_of_n (n_list (x := "list") rfl C.z_list (a_consB (b_var 1) a_nil))))
  (ss_one (s_ini (j := 1) 8 C.l_SignReader.cls C.x_SignReader_place (show (fN 8).Nodup by decide +kernel) rfl (show (fN 8).length < 1000 by decide) p_int)))
structure Fs (K : PySem.W.Frag) (mg : Str → Option Value) (cA : Nat → Addr) (ts : List Addr) : Prop where
  F_in_brackets : ∃ f fd, DefF K mg "in_brackets" s_in_brackets ["text"] f fd
  F_read_test : ∃ f fd, DefF K mg "read_test" s_read_test ["text"] f fd
  F_l_cell_at : ∃ f fd, DefF K mg "_law_cell_at" s_l_cell_at ["_law_script", "_law_k"] f fd
  F_l_leaf : ∃ f fd, DefF K mg "_law_leaf" s_l_leaf ["_law_cell"] f fd
  F_l_tree : ∃ f fd, DefF K mg "_law_tree" s_l_tree ["_law_cells"] f fd
  F_l_within : ∃ f fd, DefF K mg "_law_within" s_l_within ["_law_tree_here", "_law_height", "_law_extra"] f fd
  F_l_text : ∃ f fd, DefF K mg "_law_text" s_l_text ["_law_tree_here", "_law_extra"] f fd
  F_l_made : ∃ f fd, DefF K mg "_law_made" s_l_made ["_law_tree_here"] f fd
  F_l_same : ∃ f fd, DefF K mg "_law_same" s_l_same ["_law_test", "_law_tree_here"] f fd
  F_l_read : ∃ f fd, DefF K mg "_law_read" s_l_read ["_law_text_here", "_law_tree_here", "_law_own"] f fd
  F_law : ∃ f fd, DefF K mg "law" s_law ["_law_script"] f fd
  F_Yes_holds : ∃ f fd, Fun K "holds" "Yes.holds" s_Yes_holds f fd ∧ Binds K fd ["self", "setting"] [] ∧ Meth K ((pg cA).cA 1) "holds" f
  F_Yes_text : ∃ f fd, Fun K "text" "Yes.text" s_Yes_text f fd ∧ Binds K fd ["self"] [] ∧ Meth K ((pg cA).cA 1) "text" f
  F_No_holds : ∃ f fd, Fun K "holds" "No.holds" s_No_holds f fd ∧ Binds K fd ["self", "setting"] [] ∧ Meth K ((pg cA).cA 2) "holds" f
  F_No_text : ∃ f fd, Fun K "text" "No.text" s_No_text f fd ∧ Binds K fd ["self"] [] ∧ Meth K ((pg cA).cA 2) "text" f
  F_Named_holds : ∃ f fd, Fun K "holds" "Named.holds" s_Named_holds f fd ∧ Binds K fd ["self", "setting"] [] ∧ Meth K ((pg cA).cA 3) "holds" f
  F_Named_text : ∃ f fd, Fun K "text" "Named.text" s_Named_text f fd ∧ Binds K fd ["self"] [] ∧ Meth K ((pg cA).cA 3) "text" f
  F_Not_holds : ∃ f fd, Fun K "holds" "Not.holds" s_Not_holds f fd ∧ Binds K fd ["self", "setting"] [] ∧ Meth K ((pg cA).cA 4) "holds" f
  F_Not_text : ∃ f fd, Fun K "text" "Not.text" s_Not_text f fd ∧ Binds K fd ["self"] [] ∧ Meth K ((pg cA).cA 4) "text" f
  F_Both_holds : ∃ f fd, Fun K "holds" "Both.holds" s_Both_holds f fd ∧ Binds K fd ["self", "setting"] [] ∧ Meth K ((pg cA).cA 5) "holds" f
  F_Both_text : ∃ f fd, Fun K "text" "Both.text" s_Both_text f fd ∧ Binds K fd ["self"] [] ∧ Meth K ((pg cA).cA 5) "text" f
  F_Either_holds : ∃ f fd, Fun K "holds" "Either.holds" s_Either_holds f fd ∧ Binds K fd ["self", "setting"] [] ∧ Meth K ((pg cA).cA 6) "holds" f
  F_Either_text : ∃ f fd, Fun K "text" "Either.text" s_Either_text f fd ∧ Binds K fd ["self"] [] ∧ Meth K ((pg cA).cA 6) "text" f
  F_WordReader_at_end : ∃ f fd, Fun K "at_end" "WordReader.at_end" s_WordReader_at_end f fd ∧ Binds K fd ["self"] [] ∧ Meth K ((pg cA).cA 7) "at_end" f ∧ Meth K ((pg cA).cA 8) "at_end" f
  F_WordReader_passes : ∃ f fd, Fun K "passes" "WordReader.passes" s_WordReader_passes f fd ∧ Binds K fd ["self", "word"] [] ∧ Meth K ((pg cA).cA 7) "passes" f ∧ Meth K ((pg cA).cA 8) "passes" f
  F_SignReader_read_either : ∃ f fd, Fun K "read_either" "SignReader.read_either" s_SignReader_read_either f fd ∧ Binds K fd ["self"] [] ∧ Meth K ((pg cA).cA 8) "read_either" f
  F_SignReader_read_both : ∃ f fd, Fun K "read_both" "SignReader.read_both" s_SignReader_read_both f fd ∧ Binds K fd ["self"] [] ∧ Meth K ((pg cA).cA 8) "read_both" f
  F_SignReader_read_single : ∃ f fd, Fun K "read_single" "SignReader.read_single" s_SignReader_read_single f fd ∧ Binds K fd ["self"] [] ∧ Meth K ((pg cA).cA 8) "read_single" f
  F_SignReader_read_bracket : ∃ f fd, Fun K "read_bracket" "SignReader.read_bracket" s_SignReader_read_bracket f fd ∧ Binds K fd ["self"] [] ∧ Meth K ((pg cA).cA 8) "read_bracket" f
  F_SignReader_init : ∃ f fd, Fun K "__init__" "WordReader.__init__" s_SignReader_init f fd ∧ Binds K fd ["self", "words"] [] ∧ Mk K ((pg cA).cA 8) f
theorem all_fn {P : Program} {w : World} {K : PySem.W.Frag} {mg : Str → Option Value} {base : Bs} {cA : Nat → Addr} {ts : List Addr} (C : Ct P w K mg base cA ts) (F : Fs K mg cA ts) : ∀ n, AllF P w K mg base cA n
  | 0 => by
    obtain ⟨f_in_brackets, fd_in_brackets, E_in_brackets⟩ := F.F_in_brackets
    obtain ⟨f_read_test, fd_read_test, E_read_test⟩ := F.F_read_test
    obtain ⟨f_l_cell_at, fd_l_cell_at, E_l_cell_at⟩ := F.F_l_cell_at
    obtain ⟨f_l_leaf, fd_l_leaf, E_l_leaf⟩ := F.F_l_leaf
    obtain ⟨f_l_tree, fd_l_tree, E_l_tree⟩ := F.F_l_tree
    obtain ⟨f_l_within, fd_l_within, E_l_within⟩ := F.F_l_within
    obtain ⟨f_l_text, fd_l_text, E_l_text⟩ := F.F_l_text
    obtain ⟨f_l_made, fd_l_made, E_l_made⟩ := F.F_l_made
    obtain ⟨f_l_same, fd_l_same, E_l_same⟩ := F.F_l_same
    obtain ⟨f_l_read, fd_l_read, E_l_read⟩ := F.F_l_read
    obtain ⟨f_law, fd_law, E_law⟩ := F.F_law
    obtain ⟨f_Yes_holds, fd_Yes_holds, F_Yes_holds, B_Yes_holds, M_Yes_holds_1⟩ := F.F_Yes_holds
    obtain ⟨f_Yes_text, fd_Yes_text, F_Yes_text, B_Yes_text, M_Yes_text_1⟩ := F.F_Yes_text
    obtain ⟨f_No_holds, fd_No_holds, F_No_holds, B_No_holds, M_No_holds_2⟩ := F.F_No_holds
    obtain ⟨f_No_text, fd_No_text, F_No_text, B_No_text, M_No_text_2⟩ := F.F_No_text
    obtain ⟨f_Named_holds, fd_Named_holds, F_Named_holds, B_Named_holds, M_Named_holds_3⟩ := F.F_Named_holds
    obtain ⟨f_Named_text, fd_Named_text, F_Named_text, B_Named_text, M_Named_text_3⟩ := F.F_Named_text
    obtain ⟨f_Not_holds, fd_Not_holds, F_Not_holds, B_Not_holds, M_Not_holds_4⟩ := F.F_Not_holds
    obtain ⟨f_Not_text, fd_Not_text, F_Not_text, B_Not_text, M_Not_text_4⟩ := F.F_Not_text
    obtain ⟨f_Both_holds, fd_Both_holds, F_Both_holds, B_Both_holds, M_Both_holds_5⟩ := F.F_Both_holds
    obtain ⟨f_Both_text, fd_Both_text, F_Both_text, B_Both_text, M_Both_text_5⟩ := F.F_Both_text
    obtain ⟨f_Either_holds, fd_Either_holds, F_Either_holds, B_Either_holds, M_Either_holds_6⟩ := F.F_Either_holds
    obtain ⟨f_Either_text, fd_Either_text, F_Either_text, B_Either_text, M_Either_text_6⟩ := F.F_Either_text
    obtain ⟨f_WordReader_at_end, fd_WordReader_at_end, F_WordReader_at_end, B_WordReader_at_end, M_WordReader_at_end_7, M_WordReader_at_end_8⟩ := F.F_WordReader_at_end
    obtain ⟨f_WordReader_passes, fd_WordReader_passes, F_WordReader_passes, B_WordReader_passes, M_WordReader_passes_7, M_WordReader_passes_8⟩ := F.F_WordReader_passes
    obtain ⟨f_SignReader_read_either, fd_SignReader_read_either, F_SignReader_read_either, B_SignReader_read_either, M_SignReader_read_either_8⟩ := F.F_SignReader_read_either
    obtain ⟨f_SignReader_read_both, fd_SignReader_read_both, F_SignReader_read_both, B_SignReader_read_both, M_SignReader_read_both_8⟩ := F.F_SignReader_read_both
    obtain ⟨f_SignReader_read_single, fd_SignReader_read_single, F_SignReader_read_single, B_SignReader_read_single, M_SignReader_read_single_8⟩ := F.F_SignReader_read_single
    obtain ⟨f_SignReader_read_bracket, fd_SignReader_read_bracket, F_SignReader_read_bracket, B_SignReader_read_bracket, M_SignReader_read_bracket_8⟩ := F.F_SignReader_read_bracket
    obtain ⟨f_SignReader_init, fd_SignReader_init, F_SignReader_init, B_SignReader_init, M_SignReader_init⟩ := F.F_SignReader_init
    exact {
      h_in_brackets := E_in_brackets.at (spG_none fun _ => rfl)
      x_read_test := ⟨_, _, _, E_read_test.m, E_read_test.F.kp, (spX_none fun _ => rfl), E_read_test.b⟩
      h_read_test := E_read_test.at (fnx_none (spX_none fun _ => rfl) spX_G)
      h__law_cell_at := E_l_cell_at.at (spG_none fun _ => rfl)
      h__law_leaf := E_l_leaf.at (spG_none fun _ => rfl)
      h__law_tree := E_l_tree.at (spG_none fun _ => rfl)
      h__law_within := E_l_within.at (spG_none fun _ => rfl)
      h__law_text := E_l_text.at (spG_none fun _ => rfl)
      h__law_made := E_l_made.at (spG_none fun _ => rfl)
      h__law_same := E_l_same.at (spG_none fun _ => rfl)
      h__law_read := E_l_read.at (spG_none fun _ => rfl)
      h_law := E_law.at (spG_none fun _ => rfl)
      n_SignReader := ⟨C.c_SignReader, C.l_SignReader.cls, _, _, _, M_SignReader_init, (spIn_none fun _ => rfl), B_SignReader_init⟩
      o_at_end := (mo_cons ⟨C.l_WordReader.cls, _, _, _, M_WordReader_at_end_7, (spO_none fun _ => rfl), B_WordReader_at_end⟩ (show ("at_end" : Str) ∉ fN 7 by decide +kernel) (mo_cons ⟨C.l_SignReader.cls, _, _, _, M_WordReader_at_end_8, (spO_none fun _ => rfl), B_WordReader_at_end⟩ (show ("at_end" : Str) ∉ fN 8 by decide +kernel) mo_nil))
      o_passes := (mo_cons ⟨C.l_WordReader.cls, _, _, _, M_WordReader_passes_7, (spO_none fun _ => rfl), B_WordReader_passes⟩ (show ("passes" : Str) ∉ fN 7 by decide +kernel) (mo_cons ⟨C.l_SignReader.cls, _, _, _, M_WordReader_passes_8, (spO_none fun _ => rfl), B_WordReader_passes⟩ (show ("passes" : Str) ∉ fN 8 by decide +kernel) mo_nil))
      o_read_both := (mo_cons ⟨C.l_SignReader.cls, _, _, _, M_SignReader_read_both_8, (spO_none fun _ => rfl), B_SignReader_read_both⟩ (show ("read_both" : Str) ∉ fN 8 by decide +kernel) mo_nil)
      o_read_bracket := (mo_cons ⟨C.l_SignReader.cls, _, _, _, M_SignReader_read_bracket_8, (spO_none fun _ => rfl), B_SignReader_read_bracket⟩ (show ("read_bracket" : Str) ∉ fN 8 by decide +kernel) mo_nil)
      o_read_either := (mo_cons ⟨C.l_SignReader.cls, _, _, _, M_SignReader_read_either_8, (spO_none fun _ => rfl), B_SignReader_read_either⟩ (show ("read_either" : Str) ∉ fN 8 by decide +kernel) mo_nil)
      o_read_single := (mo_cons ⟨C.l_SignReader.cls, _, _, _, M_SignReader_read_single_8, (spO_none fun _ => rfl), B_SignReader_read_single⟩ (show ("read_single" : Str) ∉ fN 8 by decide +kernel) mo_nil)
      m_holds := (mt_cons ⟨C.l_Yes.cls, _, _, _, M_Yes_holds_1, (spG_none fun _ => rfl), B_Yes_holds⟩ (show ("holds" : Str) ∉ fN 1 by decide +kernel) (mt_cons ⟨C.l_No.cls, _, _, _, M_No_holds_2, (spG_none fun _ => rfl), B_No_holds⟩ (show ("holds" : Str) ∉ fN 2 by decide +kernel) (mt_cons ⟨C.l_Named.cls, _, _, _, M_Named_holds_3, (spG_none fun _ => rfl), B_Named_holds⟩ (show ("holds" : Str) ∉ fN 3 by decide +kernel) (mt_cons ⟨C.l_Not.cls, _, _, _, M_Not_holds_4, (spG_none fun _ => rfl), B_Not_holds⟩ (show ("holds" : Str) ∉ fN 4 by decide +kernel) (mt_cons ⟨C.l_Both.cls, _, _, _, M_Both_holds_5, (spG_none fun _ => rfl), B_Both_holds⟩ (show ("holds" : Str) ∉ fN 5 by decide +kernel) (mt_cons ⟨C.l_Either.cls, _, _, _, M_Either_holds_6, (spG_none fun _ => rfl), B_Either_holds⟩ (show ("holds" : Str) ∉ fN 6 by decide +kernel) mt_nil))))))
      m_text := (mt_cons ⟨C.l_Yes.cls, _, _, _, M_Yes_text_1, (spG_none fun _ => rfl), B_Yes_text⟩ (show ("text" : Str) ∉ fN 1 by decide +kernel) (mt_cons ⟨C.l_No.cls, _, _, _, M_No_text_2, (spG_none fun _ => rfl), B_No_text⟩ (show ("text" : Str) ∉ fN 2 by decide +kernel) (mt_cons ⟨C.l_Named.cls, _, _, _, M_Named_text_3, (spG_none fun _ => rfl), B_Named_text⟩ (show ("text" : Str) ∉ fN 3 by decide +kernel) (mt_cons ⟨C.l_Not.cls, _, _, _, M_Not_text_4, (spG_none fun _ => rfl), B_Not_text⟩ (show ("text" : Str) ∉ fN 4 by decide +kernel) (mt_cons ⟨C.l_Both.cls, _, _, _, M_Both_text_5, (spG_none fun _ => rfl), B_Both_text⟩ (show ("text" : Str) ∉ fN 5 by decide +kernel) (mt_cons ⟨C.l_Either.cls, _, _, _, M_Either_text_6, (spG_none fun _ => rfl), B_Either_text⟩ (show ("text" : Str) ∉ fN 6 by decide +kernel) mt_nil))))))
    }
  | n + 1 => by
    show AllF P w K mg base cA (n + 1)
    have I := all_fn C F n
    obtain ⟨f_in_brackets, fd_in_brackets, E_in_brackets⟩ := F.F_in_brackets
    obtain ⟨f_read_test, fd_read_test, E_read_test⟩ := F.F_read_test
    obtain ⟨f_l_cell_at, fd_l_cell_at, E_l_cell_at⟩ := F.F_l_cell_at
    obtain ⟨f_l_leaf, fd_l_leaf, E_l_leaf⟩ := F.F_l_leaf
    obtain ⟨f_l_tree, fd_l_tree, E_l_tree⟩ := F.F_l_tree
    obtain ⟨f_l_within, fd_l_within, E_l_within⟩ := F.F_l_within
    obtain ⟨f_l_text, fd_l_text, E_l_text⟩ := F.F_l_text
    obtain ⟨f_l_made, fd_l_made, E_l_made⟩ := F.F_l_made
    obtain ⟨f_l_same, fd_l_same, E_l_same⟩ := F.F_l_same
    obtain ⟨f_l_read, fd_l_read, E_l_read⟩ := F.F_l_read
    obtain ⟨f_law, fd_law, E_law⟩ := F.F_law
    obtain ⟨f_Yes_holds, fd_Yes_holds, F_Yes_holds, B_Yes_holds, M_Yes_holds_1⟩ := F.F_Yes_holds
    obtain ⟨f_Yes_text, fd_Yes_text, F_Yes_text, B_Yes_text, M_Yes_text_1⟩ := F.F_Yes_text
    obtain ⟨f_No_holds, fd_No_holds, F_No_holds, B_No_holds, M_No_holds_2⟩ := F.F_No_holds
    obtain ⟨f_No_text, fd_No_text, F_No_text, B_No_text, M_No_text_2⟩ := F.F_No_text
    obtain ⟨f_Named_holds, fd_Named_holds, F_Named_holds, B_Named_holds, M_Named_holds_3⟩ := F.F_Named_holds
    obtain ⟨f_Named_text, fd_Named_text, F_Named_text, B_Named_text, M_Named_text_3⟩ := F.F_Named_text
    obtain ⟨f_Not_holds, fd_Not_holds, F_Not_holds, B_Not_holds, M_Not_holds_4⟩ := F.F_Not_holds
    obtain ⟨f_Not_text, fd_Not_text, F_Not_text, B_Not_text, M_Not_text_4⟩ := F.F_Not_text
    obtain ⟨f_Both_holds, fd_Both_holds, F_Both_holds, B_Both_holds, M_Both_holds_5⟩ := F.F_Both_holds
    obtain ⟨f_Both_text, fd_Both_text, F_Both_text, B_Both_text, M_Both_text_5⟩ := F.F_Both_text
    obtain ⟨f_Either_holds, fd_Either_holds, F_Either_holds, B_Either_holds, M_Either_holds_6⟩ := F.F_Either_holds
    obtain ⟨f_Either_text, fd_Either_text, F_Either_text, B_Either_text, M_Either_text_6⟩ := F.F_Either_text
    obtain ⟨f_WordReader_at_end, fd_WordReader_at_end, F_WordReader_at_end, B_WordReader_at_end, M_WordReader_at_end_7, M_WordReader_at_end_8⟩ := F.F_WordReader_at_end
    obtain ⟨f_WordReader_passes, fd_WordReader_passes, F_WordReader_passes, B_WordReader_passes, M_WordReader_passes_7, M_WordReader_passes_8⟩ := F.F_WordReader_passes
    obtain ⟨f_SignReader_read_either, fd_SignReader_read_either, F_SignReader_read_either, B_SignReader_read_either, M_SignReader_read_either_8⟩ := F.F_SignReader_read_either
    obtain ⟨f_SignReader_read_both, fd_SignReader_read_both, F_SignReader_read_both, B_SignReader_read_both, M_SignReader_read_both_8⟩ := F.F_SignReader_read_both
    obtain ⟨f_SignReader_read_single, fd_SignReader_read_single, F_SignReader_read_single, B_SignReader_read_single, M_SignReader_read_single_8⟩ := F.F_SignReader_read_single
    obtain ⟨f_SignReader_read_bracket, fd_SignReader_read_bracket, F_SignReader_read_bracket, B_SignReader_read_bracket, M_SignReader_read_bracket_8⟩ := F.F_SignReader_read_bracket
    obtain ⟨f_SignReader_init, fd_SignReader_init, F_SignReader_init, B_SignReader_init, M_SignReader_init⟩ := F.F_SignReader_init
    exact {
      h_in_brackets := E_in_brackets.at ((fn_ok E_in_brackets.F sc_in_brackets rfl fun _ _ _ _ _ _ hr => b_in_brackets C I hr))
      x_read_test := ⟨_, _, _, E_read_test.m, E_read_test.F.kp, ((fn_okX E_read_test.F sc_read_test rfl fun _ _ _ _ _ _ hr => b_read_test C I hr)), E_read_test.b⟩
      h_read_test := E_read_test.at (fnx_none ((fn_okX E_read_test.F sc_read_test rfl fun _ _ _ _ _ _ hr => b_read_test C I hr)) spX_G)
      h__law_cell_at := E_l_cell_at.at ((fn_ok E_l_cell_at.F sc_l_cell_at rfl fun _ _ _ _ _ _ hr => b_l_cell_at C I hr))
      h__law_leaf := E_l_leaf.at ((fn_ok E_l_leaf.F sc_l_leaf rfl fun _ _ _ _ _ _ hr => b_l_leaf C I hr))
      h__law_tree := E_l_tree.at ((fn_ok E_l_tree.F sc_l_tree rfl fun _ _ _ _ _ _ hr => b_l_tree C I hr))
      h__law_within := E_l_within.at ((fn_ok E_l_within.F sc_l_within rfl fun _ _ _ _ _ _ hr => b_l_within C I hr))
      h__law_text := E_l_text.at ((fn_ok E_l_text.F sc_l_text rfl fun _ _ _ _ _ _ hr => b_l_text C I hr))
      h__law_made := E_l_made.at ((fn_ok E_l_made.F sc_l_made rfl fun _ _ _ _ _ _ hr => b_l_made C I hr))
      h__law_same := E_l_same.at ((fn_ok E_l_same.F sc_l_same rfl fun _ _ _ _ _ _ hr => b_l_same C I hr))
      h__law_read := E_l_read.at ((fn_ok E_l_read.F sc_l_read rfl fun _ _ _ _ _ _ hr => b_l_read C I hr))
      h_law := E_law.at ((fn_ok E_law.F sc_law rfl fun _ _ _ _ _ _ hr => b_law C I hr))
      n_SignReader := ⟨C.c_SignReader, C.l_SignReader.cls, _, _, _, M_SignReader_init, (fn_okI F_SignReader_init sc_SignReader_init rfl (by decide) rfl fun _ _ _ _ _ _ hr => b_SignReader_init C I hr), B_SignReader_init⟩
      o_at_end := (mo_cons ⟨C.l_WordReader.cls, _, _, _, M_WordReader_at_end_7, (fn_okO F_WordReader_at_end sc_WordReader_at_end rfl (by decide) fun _ _ _ _ _ _ hr => b_WordReader_at_end C I hr), B_WordReader_at_end⟩ (show ("at_end" : Str) ∉ fN 7 by decide +kernel) (mo_cons ⟨C.l_SignReader.cls, _, _, _, M_WordReader_at_end_8, (fn_okO F_WordReader_at_end sc_WordReader_at_end rfl (by decide) fun _ _ _ _ _ _ hr => b_WordReader_at_end C I hr), B_WordReader_at_end⟩ (show ("at_end" : Str) ∉ fN 8 by decide +kernel) mo_nil))
      o_passes := (mo_cons ⟨C.l_WordReader.cls, _, _, _, M_WordReader_passes_7, (fn_okO F_WordReader_passes sc_WordReader_passes rfl (by decide) fun _ _ _ _ _ _ hr => b_WordReader_passes C I hr), B_WordReader_passes⟩ (show ("passes" : Str) ∉ fN 7 by decide +kernel) (mo_cons ⟨C.l_SignReader.cls, _, _, _, M_WordReader_passes_8, (fn_okO F_WordReader_passes sc_WordReader_passes rfl (by decide) fun _ _ _ _ _ _ hr => b_WordReader_passes C I hr), B_WordReader_passes⟩ (show ("passes" : Str) ∉ fN 8 by decide +kernel) mo_nil))
      o_read_both := (mo_cons ⟨C.l_SignReader.cls, _, _, _, M_SignReader_read_both_8, (fn_okO F_SignReader_read_both sc_SignReader_read_both rfl (by decide) fun _ _ _ _ _ _ hr => b_SignReader_read_both C I hr), B_SignReader_read_both⟩ (show ("read_both" : Str) ∉ fN 8 by decide +kernel) mo_nil)
      o_read_bracket := (mo_cons ⟨C.l_SignReader.cls, _, _, _, M_SignReader_read_bracket_8, (fn_okO F_SignReader_read_bracket sc_SignReader_read_bracket rfl (by decide) fun _ _ _ _ _ _ hr => b_SignReader_read_bracket C I hr), B_SignReader_read_bracket⟩ (show ("read_bracket" : Str) ∉ fN 8 by decide +kernel) mo_nil)
      o_read_either := (mo_cons ⟨C.l_SignReader.cls, _, _, _, M_SignReader_read_either_8, (fn_okO F_SignReader_read_either sc_SignReader_read_either rfl (by decide) fun _ _ _ _ _ _ hr => b_SignReader_read_either C I hr), B_SignReader_read_either⟩ (show ("read_either" : Str) ∉ fN 8 by decide +kernel) mo_nil)
      o_read_single := (mo_cons ⟨C.l_SignReader.cls, _, _, _, M_SignReader_read_single_8, (fn_okO F_SignReader_read_single sc_SignReader_read_single rfl (by decide) fun _ _ _ _ _ _ hr => b_SignReader_read_single C I hr), B_SignReader_read_single⟩ (show ("read_single" : Str) ∉ fN 8 by decide +kernel) mo_nil)
      m_holds := (mt_cons ⟨C.l_Yes.cls, _, _, _, M_Yes_holds_1, ((fn_ok F_Yes_holds sc_Yes_holds rfl fun _ _ _ _ _ _ hr => b_Yes_holds C I hr)), B_Yes_holds⟩ (show ("holds" : Str) ∉ fN 1 by decide +kernel) (mt_cons ⟨C.l_No.cls, _, _, _, M_No_holds_2, ((fn_ok F_No_holds sc_No_holds rfl fun _ _ _ _ _ _ hr => b_No_holds C I hr)), B_No_holds⟩ (show ("holds" : Str) ∉ fN 2 by decide +kernel) (mt_cons ⟨C.l_Named.cls, _, _, _, M_Named_holds_3, ((fn_ok F_Named_holds sc_Named_holds rfl fun _ _ _ _ _ _ hr => b_Named_holds C I hr)), B_Named_holds⟩ (show ("holds" : Str) ∉ fN 3 by decide +kernel) (mt_cons ⟨C.l_Not.cls, _, _, _, M_Not_holds_4, ((fn_ok F_Not_holds sc_Not_holds rfl fun _ _ _ _ _ _ hr => b_Not_holds C I hr)), B_Not_holds⟩ (show ("holds" : Str) ∉ fN 4 by decide +kernel) (mt_cons ⟨C.l_Both.cls, _, _, _, M_Both_holds_5, ((fn_ok F_Both_holds sc_Both_holds rfl fun _ _ _ _ _ _ hr => b_Both_holds C I hr)), B_Both_holds⟩ (show ("holds" : Str) ∉ fN 5 by decide +kernel) (mt_cons ⟨C.l_Either.cls, _, _, _, M_Either_holds_6, ((fn_ok F_Either_holds sc_Either_holds rfl fun _ _ _ _ _ _ hr => b_Either_holds C I hr)), B_Either_holds⟩ (show ("holds" : Str) ∉ fN 6 by decide +kernel) mt_nil))))))
      m_text := (mt_cons ⟨C.l_Yes.cls, _, _, _, M_Yes_text_1, ((fn_ok F_Yes_text sc_Yes_text rfl fun _ _ _ _ _ _ hr => b_Yes_text C I hr)), B_Yes_text⟩ (show ("text" : Str) ∉ fN 1 by decide +kernel) (mt_cons ⟨C.l_No.cls, _, _, _, M_No_text_2, ((fn_ok F_No_text sc_No_text rfl fun _ _ _ _ _ _ hr => b_No_text C I hr)), B_No_text⟩ (show ("text" : Str) ∉ fN 2 by decide +kernel) (mt_cons ⟨C.l_Named.cls, _, _, _, M_Named_text_3, ((fn_ok F_Named_text sc_Named_text rfl fun _ _ _ _ _ _ hr => b_Named_text C I hr)), B_Named_text⟩ (show ("text" : Str) ∉ fN 3 by decide +kernel) (mt_cons ⟨C.l_Not.cls, _, _, _, M_Not_text_4, ((fn_ok F_Not_text sc_Not_text rfl fun _ _ _ _ _ _ hr => b_Not_text C I hr)), B_Not_text⟩ (show ("text" : Str) ∉ fN 4 by decide +kernel) (mt_cons ⟨C.l_Both.cls, _, _, _, M_Both_text_5, ((fn_ok F_Both_text sc_Both_text rfl fun _ _ _ _ _ _ hr => b_Both_text C I hr)), B_Both_text⟩ (show ("text" : Str) ∉ fN 5 by decide +kernel) (mt_cons ⟨C.l_Either.cls, _, _, _, M_Either_text_6, ((fn_ok F_Either_text sc_Either_text rfl fun _ _ _ _ _ _ hr => b_Either_text C I hr)), B_Either_text⟩ (show ("text" : Str) ∉ fN 6 by decide +kernel) mt_nil))))))
    }
end M02
end
section
set_option Elab.async false
set_option linter.all false
set_option maxRecDepth 100000
set_option maxHeartbeats 4000000
namespace M02
open PySem L2 DN
/-! ### tests -/
inductive Tr where
  | yes | no | named (c : Str) | neg (t : Tr) | both (l r : Tr) | either (l r : Tr)
def Tr.pv : Tr → PV
  | .yes => .obj 1 [] | .no => .obj 2 [] | .named c => .obj 3 [.str c] | .neg t => .obj 4 [t.pv] | .both l r => .obj 5 [l.pv, r.pv] | .either l r => .obj 6 [l.pv, r.pv]
def Tr.depth : Tr → Nat
  | .yes => 0 | .no => 0 | .named _ => 0 | .neg t => t.depth + 1 | .both l r => max l.depth r.depth + 1 | .either l r => max l.depth r.depth + 1
def Tr.size : Tr → Nat
  | .yes => 1 | .no => 1 | .named _ => 1 | .neg t => t.size + 1 | .both l r => l.size + r.size + 1 | .either l r => l.size + r.size + 1
def Letter (c : Str) : Prop := c = "a" ∨ c = "b" ∨ c = "c" ∨ c = "d"
def Tr.ok : Tr → Prop
  | .yes => True | .no => True | .named c => Letter c | .neg t => t.ok | .both l r => l.ok ∧ r.ok | .either l r => l.ok ∧ r.ok
def ixL (c : Str) : Nat := if c = "a" then 0 else if c = "b" then 1 else if c = "c" then 2 else 3
def Tr.at : Tr → Int → Bool
  | .yes, _ => true
  | .no, _ => false
  | .named c, s => Builtin.bitAnd (s / 2 ^ ((ixL c : Nat) : Int).toNat) 1 == 1
  | .neg t, s => !t.at s
  | .both l r, s => l.at s && r.at s
  | .either l r, s => l.at s || r.at s
/-! ### tests' own texts -/
def br (x : Str) : Str := "( " ++ x ++ " )"
def Tr.isE : Tr → Bool
  | .either _ _ => true | _ => false
def Tr.isB : Tr → Bool
  | .both _ _ => true | .either _ _ => true | _ => false
def Tr.txt : Tr → Str
  | .yes => "yes" | .no => "no" | .named c => c
  | .neg t => "not " ++ (if t.isB then br t.txt else t.txt)
  | .both l r => (if l.isE then br l.txt else l.txt) ++ " and " ++ (if r.isB then br r.txt else r.txt)
  | .either l r => l.txt ++ " or " ++ (if r.isE then br r.txt else r.txt)
theorem slen (x y : Str) : (x ++ y).length = x.length + y.length := Str.length_append x y
theorem br_len (x : Str) : (br x).length = x.length + 4 := by
  unfold br
  rw [slen, slen]
  have h1 : ("( " : Str).length = 2 := by decide +kernel
  have h2 : (" )" : Str).length = 2 := by decide +kernel
  omega
theorem letter_len {c : Str} (h : Letter c) : c.length = 1 := by
  rcases h with rfl | rfl | rfl | rfl <;> decide +kernel
theorem ite_len {b : Bool} {x : Str} : (if b = true then br x else x).length ≤ x.length + 4 := by
  split
  · rw [br_len]; omega
  · omega
theorem txt_len : ∀ t : Tr, t.ok → t.txt.length ≤ 13 * t.size
  | .yes, _ => by decide +kernel
  | .no, _ => by decide +kernel
  | .named c, h => by show c.length ≤ 13; rw [letter_len h]; decide
  | .neg t, h => by
    have ih := txt_len t h
    show ("not " ++ (if t.isB = true then br t.txt else t.txt)).length ≤ 13 * (t.size + 1)
    have h1 : ("not " : Str).length = 4 := by decide +kernel
    have := ite_len (b := t.isB) (x := t.txt)
    rw [slen]; omega
  | .both l r, h => by
    have i1 := txt_len l h.1
    have i2 := txt_len r h.2
    show ((if l.isE = true then br l.txt else l.txt) ++ " and " ++ (if r.isB = true then br r.txt else r.txt)).length ≤ 13 * (l.size + r.size + 1)
    have h1 : (" and " : Str).length = 5 := by decide +kernel
    have q1 := ite_len (b := l.isE) (x := l.txt)
    have q2 := ite_len (b := r.isB) (x := r.txt)
    rw [slen, slen]; omega
  | .either l r, h => by
    have i1 := txt_len l h.1
    have i2 := txt_len r h.2
    show (l.txt ++ " or " ++ (if r.isE = true then br r.txt else r.txt)).length ≤ 13 * (l.size + r.size + 1)
    have h1 : (" or " : Str).length = 4 := by decide +kernel
    have q2 := ite_len (b := r.isE) (x := r.txt)
    rw [slen, slen]; omega
theorem catS {x y : Str} (h : x.length + y.length ≤ sizeLine) : fCatS (.str x) (.str y) = .ok (.str (x ++ y)) := by
  show (if x.length + y.length ≤ sizeLine then Rx.ok (PV.str (x ++ y)) else .bad) = _
  rw [if_pos h]
theorem sz : sizeLine = 16777216 := rfl
theorem brackets_ok (n : Nat) (x : Str) (h : x.length ≤ 1000000) : gF (n + 1) 0 [.str x] = .ok (.str (br x)) := by
  rw [g_in_brackets, runD_of rfl]
  show fin (d_in_brackets (gF n) [.v (.str x)]) = _
  unfold d_in_brackets
  have h1 : ("( " : Str).length = 2 := by decide +kernel
  have h2 : (" )" : Str).length = 2 := by decide +kernel
  have e1 := catS (x := "( ") (y := x) (by rw [sz]; omega)
  have e2 := catS (x := "( " ++ x) (y := " )") (by rw [sz, slen]; omega)
  simp [e1, e2, br]
theorem isB_ok (t : Tr) : isiP2 i_Both i_Either t.pv = .ok (.bl t.isB) := by cases t <;> rfl
theorem isE_ok (t : Tr) : isiP i_Either t.pv = .ok (.bl t.isE) := by cases t <;> rfl
theorem ttext_ok : ∀ (t : Tr) (n : Nat), t.ok → t.depth + 1 < n → t.size ≤ 10000 → callM q_text (gF n) t.pv [] = .ok (.str t.txt)
  | .yes, n + 1, _, _, _ => rfl
  | .no, n + 1, _, _, _ => rfl
  | .named c, n + 1, _, _, _ => rfl
  | .neg t, n + 1, h, hd, hs => by
    have hd' : t.depth + 1 + 1 < n + 1 := hd
    have hs' : t.size + 1 ≤ 10000 := hs
    have ih := ttext_ok t n h (by omega) (by omega)
    have tl := txt_len t h
    obtain ⟨m, rfl⟩ : ∃ m, n = m + 1 := ⟨n - 1, by omega⟩
    have hb := brackets_ok m t.txt (by omega)
    have h1 : ("not " : Str).length = 4 := by decide +kernel
    have e : callM q_text (gF (m + 1 + 1)) (Tr.neg t).pv [] = fin (d_Not_text (gF (m + 1)) [.v (.obj 4 [t.pv]), .no]) := rfl
    rw [e]
    unfold d_Not_text
    have f1 : fldP a_inner (.obj 4 [t.pv]) = .ok t.pv := rfl
    have q := ite_len (b := t.isB) (x := t.txt)
    have e2 := catS (x := "not ") (y := if t.isB = true then br t.txt else t.txt) (by rw [sz]; omega)
    cases hB : t.isB <;> rw [hB] at e2 <;> simp [f1, ih, isB_ok, hB, hb] <;> simp at e2 <;> simp [e2, Tr.txt, hB]
  | .both l r, n + 1, h, hd, hs => by
    have hd' : max l.depth r.depth + 1 + 1 < n + 1 := hd
    have hs' : l.size + r.size + 1 ≤ 10000 := hs
    have i1 := ttext_ok l n h.1 (by omega) (by omega)
    have i2 := ttext_ok r n h.2 (by omega) (by omega)
    have l1 := txt_len l h.1
    have l2 := txt_len r h.2
    obtain ⟨m, rfl⟩ : ∃ m, n = m + 1 := ⟨n - 1, by omega⟩
    have hb1 := brackets_ok m l.txt (by omega)
    have hb2 := brackets_ok m r.txt (by omega)
    have h1 : (" and " : Str).length = 5 := by decide +kernel
    have e : callM q_text (gF (m + 1 + 1)) (Tr.both l r).pv [] = fin (d_Both_text (gF (m + 1)) [.v (.obj 5 [l.pv, r.pv]), .no, .no]) := rfl
    rw [e]
    unfold d_Both_text
    have f1 : fldP a_left (.obj 5 [l.pv, r.pv]) = .ok l.pv := rfl
    have f2 : fldP a_right (.obj 5 [l.pv, r.pv]) = .ok r.pv := rfl
    have q1 := ite_len (b := l.isE) (x := l.txt)
    have q2 := ite_len (b := r.isB) (x := r.txt)
    have e2 := catS (x := if l.isE = true then br l.txt else l.txt) (y := " and ") (by rw [sz]; omega)
    have e3 := catS (x := (if l.isE = true then br l.txt else l.txt) ++ " and ") (y := if r.isB = true then br r.txt else r.txt) (by rw [sz, slen]; omega)
    cases hE : l.isE <;> cases hB : r.isB <;> rw [hE] at e2 e3 <;> rw [hB] at e3 <;> simp [f1, f2, i1, i2, isB_ok, isE_ok, hB, hE, hb1, hb2] <;> simp at e2 e3 <;> simp [e2, e3, Tr.txt, hB, hE]
  | .either l r, n + 1, h, hd, hs => by
    have hd' : max l.depth r.depth + 1 + 1 < n + 1 := hd
    have hs' : l.size + r.size + 1 ≤ 10000 := hs
    have i1 := ttext_ok l n h.1 (by omega) (by omega)
    have i2 := ttext_ok r n h.2 (by omega) (by omega)
    have l1 := txt_len l h.1
    have l2 := txt_len r h.2
    obtain ⟨m, rfl⟩ : ∃ m, n = m + 1 := ⟨n - 1, by omega⟩
    have hb2 := brackets_ok m r.txt (by omega)
    have h1 : (" or " : Str).length = 4 := by decide +kernel
    have e : callM q_text (gF (m + 1 + 1)) (Tr.either l r).pv [] = fin (d_Either_text (gF (m + 1)) [.v (.obj 6 [l.pv, r.pv]), .no]) := rfl
    rw [e]
    unfold d_Either_text
    have f1 : fldP a_left (.obj 6 [l.pv, r.pv]) = .ok l.pv := rfl
    have f2 : fldP a_right (.obj 6 [l.pv, r.pv]) = .ok r.pv := rfl
    have q2 := ite_len (b := r.isE) (x := r.txt)
    have e2 := catS (x := l.txt) (y := " or ") (by rw [sz]; omega)
    have e3 := catS (x := l.txt ++ " or ") (y := if r.isE = true then br r.txt else r.txt) (by rw [sz, slen]; omega)
    cases hE : r.isE <;> rw [hE] at e3 <;> simp [f1, f2, i1, i2, isE_ok, hE, hb2] <;> simp at e2 e3 <;> simp [e2, e3, Tr.txt, hE]
/-! ### words, texts, splitting -/
theorem mkS_toList (x : Str) : mkS x.cps.toList = x := PySem.Str.ext' (by simp [mkS])
theorem cat_toList (x y : Str) : (x ++ y).cps.toList = x.cps.toList ++ y.cps.toList := by rw [PySem.Str.cps_append]; simp
theorem cat_as (x y z : Str) : x ++ y ++ z = x ++ (y ++ z) := PySem.Str.ext' (by simp [PySem.Str.cps_append, Array.append_assoc])
theorem blank : (" " : Str).cps.toList = [32] := by decide +kernel
theorem good1 : goodSep " " = true := by decide +kernel
theorem spg_free : ∀ (l cur : List Nat), 32 ∉ l → spg [32] 0 cur l = [cur.reverse ++ l]
  | [], cur, _ => by simp [spg]
  | c :: l, cur, h => by
    have hl : 32 ∉ l := fun z => h (List.mem_cons_of_mem _ z)
    have hp : [32].isPrefixOf (c :: l) = false := by
      have : (32 == c) = false := by
        have : c ≠ 32 := fun z => h (by rw [z]; exact List.mem_cons_self)
        simpa using fun z : 32 = c => this z.symm
      simp only [List.isPrefixOf, this, Bool.false_and]
    rw [spg, if_neg (by rw [hp]; exact Bool.false_ne_true), spg_free l _ hl]
    simp
theorem spg_sep : ∀ (l cur r : List Nat), 32 ∉ l → spg [32] 0 cur (l ++ 32 :: r) = (cur.reverse ++ l) :: spg [32] 0 [] r
  | [], cur, r, _ => by simp [spg, List.isPrefixOf]
  | c :: l, cur, r, h => by
    have hl : 32 ∉ l := fun z => h (List.mem_cons_of_mem _ z)
    have hp : [32].isPrefixOf (c :: (l ++ 32 :: r)) = false := by
      have : (32 == c) = false := by
        have : c ≠ 32 := fun z => h (by rw [z]; exact List.mem_cons_self)
        simpa using fun z : 32 = c => this z.symm
      simp only [List.isPrefixOf, this, Bool.false_and]
    rw [List.cons_append, spg, if_neg (by rw [hp]; exact Bool.false_ne_true), spg_sep l _ r hl]
    simp
def jn : List Str → Str
  | [] => ""
  | [w] => w
  | w :: v :: r => w ++ " " ++ jn (v :: r)
theorem jn_cons (w : Str) {r : List Str} (h : r ≠ []) : jn (w :: r) = w ++ " " ++ jn r := by
  cases r with
  | nil => exact absurd rfl h
  | cons v r => rfl
theorem jn_app : ∀ {a b : List Str}, a ≠ [] → b ≠ [] → jn (a ++ b) = jn a ++ " " ++ jn b
  | [], _, h, _ => absurd rfl h
  | [w], b, _, hb => jn_cons w hb
  | w :: v :: r, b, _, hb => by
    have ih := jn_app (a := v :: r) (b := b) (by simp) hb
    show jn (w :: ((v :: r) ++ b)) = _
    rw [jn_cons w (by simp), ih, jn_cons w (by simp)]
    simp only [cat_as]
theorem spl_jn : ∀ {ws : List Str}, ws ≠ [] → (∀ w ∈ ws, 32 ∉ w.cps.toList) → spl (jn ws) " " = ws
  | [], h, _ => absurd rfl h
  | [w], _, h => by
    unfold spl
    rw [blank, show jn [w] = w from rfl, spg_free _ _ (h w (by simp))]
    simp [mkS_toList]
  | w :: v :: r, _, h => by
    have ih := spl_jn (ws := v :: r) (by simp) (fun x hx => h x (List.mem_cons_of_mem _ hx))
    unfold spl at ih ⊢
    rw [blank] at ih ⊢
    rw [jn_cons w (by simp), cat_toList, cat_toList, blank, List.append_assoc]
    show List.map mkS (spg [32] 0 [] (w.cps.toList ++ 32 :: (jn (v :: r)).cps.toList)) = _
    rw [spg_sep _ _ _ (h w (by simp)), List.map_cons, ih]
    simp [mkS_toList]
/-! ### the words of a test -/
def Tr.lw : Tr → Nat
  | .both _ _ => 1 | .either _ _ => 2 | _ => 0
def Tr.tp : Tr → PV
  | .yes => .tup [.str "yes"] | .no => .tup [.str "no"] | .named c => .tup [.str "named", .str c] | .neg t => .tup [.str "not", t.tp] | .both l r => .tup [.str "both", l.tp, r.tp] | .either l r => .tup [.str "either", l.tp, r.tp]
def nx1 (e : Int) : Int := if 0 ≤ e then (e * 48271 + 1) % 2147483647 else -1
def nx2 (e : Int) : Int := if 0 ≤ e then (e * 69621 + 2) % 2147483647 else -1
def wrap (t : Tr) (h : Nat) (e : Int) (ws : List Str) : List Str :=
  if 0 ≤ e ∧ e % 36 = 7 then ("(" : Str) :: ((("(" : Str) :: (ws ++ [(")" : Str)])) ++ [(")" : Str)]) else if h < t.lw ∨ (0 ≤ e ∧ e % 6 = 1) then ("(" : Str) :: (ws ++ [(")" : Str)]) else ws
def tw : Tr → Int → List Str
  | .yes, _ => ["yes"]
  | .no, _ => ["no"]
  | .named c, _ => [c]
  | .neg t, e => ("not" : Str) :: wrap t 0 (nx1 e) (tw t (nx1 e))
  | .both l r, e => wrap l 1 (nx1 e) (tw l (nx1 e)) ++ ("and" : Str) :: wrap r 0 (nx2 e) (tw r (nx2 e))
  | .either l r, e => wrap l 2 (nx1 e) (tw l (nx1 e)) ++ ("or" : Str) :: wrap r 1 (nx2 e) (tw r (nx2 e))
theorem lw_le (t : Tr) : t.lw ≤ 2 := by cases t <;> simp [Tr.lw]
theorem wrap_ne {t : Tr} {h : Nat} {e : Int} {ws : List Str} (hw : ws ≠ []) : wrap t h e ws ≠ [] := by
  unfold wrap
  split
  · simp
  · split
    · simp
    · exact hw
theorem tw_ne : ∀ (t : Tr) (e : Int), tw t e ≠ []
  | .yes, e => by simp [tw]
  | .no, e => by simp [tw]
  | .named c, e => by simp [tw]
  | .neg t, e => by simp [tw]
  | .both l r, e => by simp [tw]
  | .either l r, e => by simp [tw]
/-- the grammar: 0 single, 1 both, 2 either -/
inductive Fm : Nat → Tr → List Str → Prop where
  | yes : Fm 0 .yes ["yes"]
  | no : Fm 0 .no ["no"]
  | named {c : Str} (h : Letter c) : Fm 0 (.named c) [c]
  | neg {t : Tr} {w : List Str} (h : Fm 0 t w) : Fm 0 (.neg t) ("not" :: w)
  | br {t : Tr} {w : List Str} (h : Fm 2 t w) : Fm 0 t ("(" :: (w ++ [(")" : Str)]))
  | both {l r : Tr} {w v : List Str} (h1 : Fm 1 l w) (h2 : Fm 0 r v) : Fm 1 (.both l r) (w ++ ("and" : Str) :: v)
  | either {l r : Tr} {w v : List Str} (h1 : Fm 2 l w) (h2 : Fm 1 r v) : Fm 2 (.either l r) (w ++ ("or" : Str) :: v)
  | up1 {t : Tr} {w : List Str} (h : Fm 0 t w) : Fm 1 t w
  | up2 {t : Tr} {w : List Str} (h : Fm 1 t w) : Fm 2 t w
theorem Fm.up {i j : Nat} {t : Tr} {w : List Str} (h : Fm i t w) (hi : i ≤ j) (hj : j ≤ 2) : Fm j t w := by
  have hh : i = 0 ∨ i = 1 ∨ i = 2 := by omega
  have hg : j = 0 ∨ j = 1 ∨ j = 2 := by omega
  rcases hh with rfl | rfl | rfl <;> rcases hg with rfl | rfl | rfl
  · exact h
  · exact h.up1
  · exact h.up1.up2
  · omega
  · exact h
  · exact h.up2
  · omega
  · omega
  · exact h
theorem wrap_fm {t : Tr} {h : Nat} {e : Int} {w : List Str} (f : Fm t.lw t w) (hh : h ≤ 2) : Fm h t (wrap t h e w) := by
  have f2 := f.up (lw_le t) (Nat.le_refl 2)
  unfold wrap
  split
  · exact ((f2.br.up (j := 2) (by omega) (Nat.le_refl 2)).br).up (Nat.zero_le _) hh
  · split
    · exact f2.br.up (Nat.zero_le _) hh
    · rename_i q
      exact f.up (by omega) hh
theorem tw_fm : ∀ (t : Tr) (e : Int), t.ok → Fm t.lw t (tw t e)
  | .yes, e, _ => .yes
  | .no, e, _ => .no
  | .named c, e, h => .named h
  | .neg t, e, h => .neg (wrap_fm (tw_fm t _ h) (Nat.zero_le _))
  | .both l r, e, h => .both (wrap_fm (tw_fm l _ h.1) (by decide)) (wrap_fm (tw_fm r _ h.2) (by decide))
  | .either l r, e, h => .either (wrap_fm (tw_fm l _ h.1) (by decide)) (wrap_fm (tw_fm r _ h.2) (by decide))
theorem fm_ne {i : Nat} {t : Tr} {w : List Str} (h : Fm i t w) : w ≠ [] := by
  induction h with
  | yes => simp
  | no => simp
  | named h => simp
  | neg h _ => simp
  | br h _ => simp
  | both h1 h2 _ _ => simp
  | either h1 h2 _ _ => simp
  | up1 h ih => exact ih
  | up2 h ih => exact ih
theorem fm_blank {i : Nat} {t : Tr} {w : List Str} (h : Fm i t w) : ∀ x ∈ w, 32 ∉ x.cps.toList := by
  have c1 : (32 : Nat) ∉ ("yes" : Str).cps.toList := by decide +kernel
  have c2 : (32 : Nat) ∉ ("no" : Str).cps.toList := by decide +kernel
  have c3 : (32 : Nat) ∉ ("not" : Str).cps.toList := by decide +kernel
  have c4 : (32 : Nat) ∉ ("(" : Str).cps.toList := by decide +kernel
  have c5 : (32 : Nat) ∉ (")" : Str).cps.toList := by decide +kernel
  have c6 : (32 : Nat) ∉ ("and" : Str).cps.toList := by decide +kernel
  have c7 : (32 : Nat) ∉ ("or" : Str).cps.toList := by decide +kernel
  induction h with
  | yes => intro x hx; rw [List.mem_singleton.mp hx]; exact c1
  | no => intro x hx; rw [List.mem_singleton.mp hx]; exact c2
  | named h =>
    intro x hx
    rw [List.mem_singleton.mp hx]
    rcases h with rfl | rfl | rfl | rfl <;> decide +kernel
  | neg h ih =>
    intro x hx
    rcases List.mem_cons.mp hx with rfl | q
    · exact c3
    · exact ih x q
  | br h ih =>
    intro x hx
    rcases List.mem_cons.mp hx with rfl | q
    · exact c4
    · rcases List.mem_append.mp q with q | q
      · exact ih x q
      · rw [List.mem_singleton.mp q]; exact c5
  | both h1 h2 i1 i2 =>
    intro x hx
    rcases List.mem_append.mp hx with q | q
    · exact i1 x q
    · rcases List.mem_cons.mp q with rfl | q
      · exact c6
      · exact i2 x q
  | either h1 h2 i1 i2 =>
    intro x hx
    rcases List.mem_append.mp hx with q | q
    · exact i1 x q
    · rcases List.mem_cons.mp q with rfl | q
      · exact c7
      · exact i2 x q
  | up1 h ih => exact ih
  | up2 h ih => exact ih
/-! ### the texts -/
theorem jn_br {w : List Str} (h : w ≠ []) : jn ("(" :: (w ++ [(")" : Str)])) = br (jn w) := by
  have e1 : ("( " : Str) = "(" ++ " " := by decide +kernel
  have e2 : (" )" : Str) = " " ++ ")" := by decide +kernel
  rw [jn_cons _ (by simp), jn_app h (by simp)]
  unfold br
  rw [e1, e2]
  simp only [cat_as]
  rfl
theorem jn_br2 {w : List Str} (h : w ≠ []) : jn ("(" :: ((("(" : Str) :: (w ++ [(")" : Str)])) ++ [(")" : Str)])) = "( ( " ++ jn w ++ " ) )" := by
  have e1 : ("( ( " : Str) = "( " ++ "( " := by decide +kernel
  have e2 : (" ) )" : Str) = " )" ++ " )" := by decide +kernel
  rw [jn_br (by simp), jn_br h, e1, e2]
  unfold br
  simp only [cat_as]
theorem jn_not {w : List Str} (h : w ≠ []) : jn ("not" :: w) = "not " ++ jn w := by
  have e1 : ("not " : Str) = "not" ++ " " := by decide +kernel
  rw [jn_cons _ h, e1]
theorem jn_and {w v : List Str} (h : w ≠ []) (h2 : v ≠ []) : jn (w ++ ("and" : Str) :: v) = jn w ++ " and " ++ jn v := by
  have e1 : (" and " : Str) = " " ++ ("and" ++ " ") := by decide +kernel
  rw [jn_app h (by simp), jn_cons _ h2, e1]
  simp only [cat_as]
theorem jn_or {w v : List Str} (h : w ≠ []) (h2 : v ≠ []) : jn (w ++ ("or" : Str) :: v) = jn w ++ " or " ++ jn v := by
  have e1 : (" or " : Str) = " " ++ ("or" ++ " ") := by decide +kernel
  rw [jn_app h (by simp), jn_cons _ h2, e1]
  simp only [cat_as]
theorem isB_lw (t : Tr) : t.isB = decide (0 < t.lw) := by cases t <;> rfl
theorem isE_lw (t : Tr) : t.isE = decide (1 < t.lw) := by cases t <;> rfl
theorem jn_wrap0 {t : Tr} {h : Nat} {w : List Str} (hw : w ≠ []) : jn (wrap t h (-1) w) = if h < t.lw then br (jn w) else jn w := by
  unfold wrap
  rw [if_neg (by omega)]
  by_cases q : h < t.lw
  · rw [if_pos (.inl q), if_pos q, jn_br hw]
  · rw [if_neg (by omega), if_neg q]
theorem nx1m : nx1 (-1) = -1 := rfl
theorem nx2m : nx2 (-1) = -1 := rfl
theorem txt_tw : ∀ t : Tr, t.txt = jn (tw t (-1))
  | .yes => rfl
  | .no => rfl
  | .named c => rfl
  | .neg t => by
    have ih := txt_tw t
    show "not " ++ (if t.isB = true then br t.txt else t.txt) = jn ("not" :: wrap t 0 (nx1 (-1)) (tw t (nx1 (-1))))
    rw [nx1m, jn_not (wrap_ne (tw_ne _ _)), jn_wrap0 (tw_ne _ _), ← ih, isB_lw]
    simp only [decide_eq_true_eq]
  | .both l r => by
    have i1 := txt_tw l
    have i2 := txt_tw r
    show (if l.isE = true then br l.txt else l.txt) ++ " and " ++ (if r.isB = true then br r.txt else r.txt) = jn (wrap l 1 (nx1 (-1)) (tw l (nx1 (-1))) ++ ("and" : Str) :: wrap r 0 (nx2 (-1)) (tw r (nx2 (-1))))
    rw [nx1m, nx2m, jn_and (wrap_ne (tw_ne _ _)) (wrap_ne (tw_ne _ _)), jn_wrap0 (tw_ne _ _), jn_wrap0 (tw_ne _ _), ← i1, ← i2, isB_lw, isE_lw]
    simp only [decide_eq_true_eq]
  | .either l r => by
    have i1 := txt_tw l
    have i2 := txt_tw r
    show l.txt ++ " or " ++ (if r.isE = true then br r.txt else r.txt) = jn (wrap l 2 (nx1 (-1)) (tw l (nx1 (-1))) ++ ("or" : Str) :: wrap r 1 (nx2 (-1)) (tw r (nx2 (-1))))
    rw [nx1m, nx2m, jn_or (wrap_ne (tw_ne _ _)) (wrap_ne (tw_ne _ _)), jn_wrap0 (tw_ne _ _), jn_wrap0 (tw_ne _ _), ← i1, ← i2, isE_lw, if_neg (by have := lw_le l; omega : ¬ 2 < l.lw)]
    simp only [decide_eq_true_eq]
end M02
end
section
set_option Elab.async false
set_option linter.all false
set_option maxRecDepth 100000
set_option maxHeartbeats 4000000
namespace M02
open PySem L2 DN
/-! ### the reader -/
def RO (ws : List Str) (p : Nat) : Ow := .obj 8 [.lst (ws.map PV.str), .int p]
abbrev R (ws : List Str) (p : Nat) : PV := (RO ws p).pv
theorem at_endo (n : Nat) (ws : List Str) (p : Nat) : gF (n + 1) 23 [R ws p] = .ok (.tup [.bl (decide (p = ws.length)), R ws p]) := by
  have e : gF (n + 1) 23 [R ws p] = finO (d_WordReader_at_end (gF n) [.ino (RO ws p)]) := rfl
  rw [e]
  have e2 : d_WordReader_at_end (gF n) [.ino (RO ws p)] = .reti (.bl ((p : Int) == (((ws.map PV.str).length : Nat) : Int))) (RO ws p) := rfl
  rw [e2]
  have : ((p : Int) == (((ws.map PV.str).length : Nat) : Int)) = decide (p = ws.length) := by
    rw [List.length_map]
    by_cases h : p = ws.length
    · subst h; simp
    · rw [decide_eq_false h]
      have : ¬ ((p : Int) = (ws.length : Int)) := by omega
      simpa using this
  rw [this]
  rfl
theorem atI_map {ws : List Str} {p : Nat} {w : Str} (h : ws[p]? = some w) : atI (ws.map PV.str) (p : Int) = some (.str w) := by
  have hl : p < ws.length := (List.getElem?_eq_some_iff.mp h).1
  rw [atI_nat (by rw [List.getElem?_map, h]; rfl)]
theorem passY (n : Nat) {ws : List Str} {p : Nat} {w : Str} (h : ws[p]? = some w) : gF (n + 2) 24 [R ws p, .str w] = .ok (.tup [.bl true, R ws (p + 1)]) := by
  have hl : p < ws.length := (List.getElem?_eq_some_iff.mp h).1
  have e : gF (n + 2) 24 [R ws p, .str w] = finO (d_WordReader_passes (gF (n + 1)) [.ino (RO ws p), .v (.str w)]) := rfl
  rw [e]
  have a1 : mMethO qo_at_end (gF (n + 1)) 0 dNil [.ino (RO ws p), .v (.str w)] = .ok (.bl false, [.ino (RO ws p), .v (.str w)]) := by
    have : mMethO qo_at_end (gF (n + 1)) 0 dNil [.ino (RO ws p), .v (.str w)] = (gF (n + 1) 23 [R ws p]).bind (resO [.ino (RO ws p), .v (.str w)] 0) := rfl
    rw [this, at_endo, decide_eq_false (by omega)]
    rfl
  have a2 : (d2 fNe (d2 fIx (dFldI a_words 0) (dFldI a_place 0)) (dSee 1)) [.ino (RO ws p), .v (.str w)] = .ok (.bl false) := by
    have : (d2 fNe (d2 fIx (dFldI a_words 0) (dFldI a_place 0)) (dSee 1)) [.ino (RO ws p), .v (.str w)] = (fIx (.lst (ws.map PV.str)) (.int p)).bind fun x => fNe x (.str w) := rfl
    rw [this, e_ixL, atI_map h]
    simp
  have a3 : sFldAugI a_place 0 (fun i j => i + j) (dC (.int 1)) [.ino (RO ws p), .v (.str w)] = .nx [.ino (RO ws (p + 1)), .v (.str w)] := by
    have : sFldAugI a_place 0 (fun i j => i + j) (dC (.int 1)) [.ino (RO ws p), .v (.str w)] = .nx [.ino (.obj 8 [.lst (ws.map PV.str), .int ((p : Int) + 1)]), .v (.str w)] := rfl
    rw [this]
    rfl
  unfold d_WordReader_passes
  rw [e_seq, e_ifM, e_mOr, e_mTr, a1]
  simp only [ok_bind, e_mOfT, e_Tr, a2, ok_st, Bool.false_eq_true, if_false, e_next, next_nx, e_seq]
  rw [a3]
  rfl
theorem passN (n : Nat) {ws : List Str} {p : Nat} {w : Str} (hp : p ≤ ws.length) (h : ws[p]? ≠ some w) : gF (n + 2) 24 [R ws p, .str w] = .ok (.tup [.bl false, R ws p]) := by
  have e : gF (n + 2) 24 [R ws p, .str w] = finO (d_WordReader_passes (gF (n + 1)) [.ino (RO ws p), .v (.str w)]) := rfl
  rw [e]
  have a0 : mMethO qo_at_end (gF (n + 1)) 0 dNil [.ino (RO ws p), .v (.str w)] = .ok (.bl (decide (p = ws.length)), [.ino (RO ws p), .v (.str w)]) := by
    have : mMethO qo_at_end (gF (n + 1)) 0 dNil [.ino (RO ws p), .v (.str w)] = (gF (n + 1) 23 [R ws p]).bind (resO [.ino (RO ws p), .v (.str w)] 0) := rfl
    rw [this, at_endo]
    rfl
  unfold d_WordReader_passes
  rw [e_seq, e_ifM, e_mOr, e_mTr, a0]
  by_cases q : p = ws.length
  · rw [decide_eq_true q]
    rfl
  · rw [decide_eq_false q]
    have hl : p < ws.length := by omega
    obtain ⟨x, hx⟩ : ∃ x, ws[p]? = some x := ⟨_, List.getElem?_eq_getElem hl⟩
    have hne : x ≠ w := fun z => h (by rw [hx, z])
    have a2 : (d2 fNe (d2 fIx (dFldI a_words 0) (dFldI a_place 0)) (dSee 1)) [.ino (RO ws p), .v (.str w)] = .ok (.bl true) := by
      have : (d2 fNe (d2 fIx (dFldI a_words 0) (dFldI a_place 0)) (dSee 1)) [.ino (RO ws p), .v (.str w)] = (fIx (.lst (ws.map PV.str)) (.int p)).bind fun x => fNe x (.str w) := rfl
      rw [this, e_ixL, atI_map hx]
      have b : (x == w) = false := by simpa using hne
      simp [b]
    simp only [ok_bind, e_mOfT, e_Tr, a2, ok_st, Bool.false_eq_true, if_false, if_true]
    rfl
/-- a word in hand, at slot 0 -/
theorem moY (n : Nat) {ws : List Str} {p : Nat} {w : Str} {r : PSt} {d : DA} (hd : d (.ino (RO ws p) :: r) = .ok [.str w]) (h : ws[p]? = some w) : mMethO qo_passes (gF (n + 2)) 0 d (.ino (RO ws p) :: r) = .ok (.bl true, .ino (RO ws (p + 1)) :: r) := by
  have : mMethO qo_passes (gF (n + 2)) 0 d (.ino (RO ws p) :: r) = (d (.ino (RO ws p) :: r)).bind fun us => (gF (n + 2) 24 (R ws p :: us)).bind (resO (.ino (RO ws p) :: r) 0) := rfl
  rw [this, hd, ok_bind, passY n h]
  rfl
theorem moN (n : Nat) {ws : List Str} {p : Nat} {w : Str} {r : PSt} {d : DA} (hd : d (.ino (RO ws p) :: r) = .ok [.str w]) (hp : p ≤ ws.length) (h : ws[p]? ≠ some w) : mMethO qo_passes (gF (n + 2)) 0 d (.ino (RO ws p) :: r) = .ok (.bl false, .ino (RO ws p) :: r) := by
  have : mMethO qo_passes (gF (n + 2)) 0 d (.ino (RO ws p) :: r) = (d (.ino (RO ws p) :: r)).bind fun us => (gF (n + 2) 24 (R ws p :: us)).bind (resO (.ino (RO ws p) :: r) 0) := rfl
  rw [this, hd, ok_bind, passN n hp h]
  rfl
/-! ### one test -/
theorem one_turn (n : Nat) {ws : List Str} {p : Nat} {w : Str} (hp : p ≤ ws.length) (h : ws[p]? ≠ some w) (s : Sl) (l : List PV) :
    forD (gSet 1) (b_SignReader_read_single_1 (gF (n + 2))) (.str w :: l) [.ino (RO ws p), s] = forD (gSet 1) (b_SignReader_read_single_1 (gF (n + 2))) l [.ino (RO ws p), .v (.str w)] := by
  have e : b_SignReader_read_single_1 (gF (n + 2)) [.ino (RO ws p), .v (.str w)] = .nx [.ino (RO ws p), .v (.str w)] := by
    unfold b_SignReader_read_single_1
    rw [e_ifM, e_mTr, moN n (w := w) rfl hp h]
    rfl
  show ((gSet 1 (.str w) [.ino (RO ws p), s]).st fun ps1 => match b_SignReader_read_single_1 (gF (n + 2)) ps1 with | .nx ps2 => forD (gSet 1) (b_SignReader_read_single_1 (gF (n + 2))) l ps2 | .cnt ps2 => forD (gSet 1) (b_SignReader_read_single_1 (gF (n + 2))) l ps2 | .brk ps2 => .nx ps2 | r => r) = _
  rw [e_gset, ok_st]
  show (match b_SignReader_read_single_1 (gF (n + 2)) [.ino (RO ws p), .v (.str w)] with | .nx ps2 => forD (gSet 1) (b_SignReader_read_single_1 (gF (n + 2))) l ps2 | .cnt ps2 => forD (gSet 1) (b_SignReader_read_single_1 (gF (n + 2))) l ps2 | .brk ps2 => .nx ps2 | r => r) = _
  rw [e]
theorem one_hit (n : Nat) {ws : List Str} {p : Nat} {w : Str} (h : ws[p]? = some w) (s : Sl) (l : List PV) :
    forD (gSet 1) (b_SignReader_read_single_1 (gF (n + 2))) (.str w :: l) [.ino (RO ws p), s] = .reti (.obj 3 [.str w]) (RO ws (p + 1)) := by
  have e : b_SignReader_read_single_1 (gF (n + 2)) [.ino (RO ws p), .v (.str w)] = .reti (.obj 3 [.str w]) (RO ws (p + 1)) := by
    unfold b_SignReader_read_single_1
    rw [e_ifM, e_mTr, moY n (w := w) rfl h]
    rfl
  show ((gSet 1 (.str w) [.ino (RO ws p), s]).st fun ps1 => match b_SignReader_read_single_1 (gF (n + 2)) ps1 with | .nx ps2 => forD (gSet 1) (b_SignReader_read_single_1 (gF (n + 2))) l ps2 | .cnt ps2 => forD (gSet 1) (b_SignReader_read_single_1 (gF (n + 2))) l ps2 | .brk ps2 => .nx ps2 | r => r) = _
  rw [e_gset, ok_st]
  show (match b_SignReader_read_single_1 (gF (n + 2)) [.ino (RO ws p), .v (.str w)] with | .nx ps2 => forD (gSet 1) (b_SignReader_read_single_1 (gF (n + 2))) l ps2 | .cnt ps2 => forD (gSet 1) (b_SignReader_read_single_1 (gF (n + 2))) l ps2 | .brk ps2 => .nx ps2 | r => r) = _
  rw [e]
theorem single_eq (n : Nat) (ws : List Str) (p : Nat) : gF (n + 1) 27 [R ws p] = finO (d_SignReader_read_single (gF n) [.ino (RO ws p), .no]) := rfl
theorem single_letter (n : Nat) {ws : List Str} {p : Nat} {c : Str} (hc : Letter c) (h : ws[p]? = some c) : gF (n + 3) 27 [R ws p] = .ok (.tup [.obj 3 [.str c], R ws (p + 1)]) := by
  have hp : p ≤ ws.length := Nat.le_of_lt (List.getElem?_eq_some_iff.mp h).1
  have ne : ∀ {w : Str}, c ≠ w → ws[p]? ≠ some w := fun hw z => hw (by rw [h] at z; exact Option.some.inj z)
  rw [single_eq]
  unfold d_SignReader_read_single
  have key : forD (gSet 1) (b_SignReader_read_single_1 (gF (n + 2))) c_LETTERS [.ino (RO ws p), .no] = .reti (.obj 3 [.str c]) (RO ws (p + 1)) := by
    rcases hc with rfl | rfl | rfl | rfl
    · exact one_hit n h _ _
    · rw [one_turn n hp (ne (by decide +kernel))]; exact one_hit n h _ _
    · rw [one_turn n hp (ne (by decide +kernel)), one_turn n hp (ne (by decide +kernel))]; exact one_hit n h _ _
    · rw [one_turn n hp (ne (by decide +kernel)), one_turn n hp (ne (by decide +kernel)), one_turn n hp (ne (by decide +kernel))]; exact one_hit n h _ _
  rw [e_seq, e_for, e_itemsT, e_C]
  simp only [ok_bind, ok_st]
  rw [key]
  rfl
/-- no letter stands here -/
theorem no_letter (n : Nat) {ws : List Str} {p : Nat} (hp : p ≤ ws.length) (h : ∀ c, Letter c → ws[p]? ≠ some c) : forD (gSet 1) (b_SignReader_read_single_1 (gF (n + 2))) c_LETTERS [.ino (RO ws p), .no] = .nx [.ino (RO ws p), .v (.str "d")] := by
  rw [one_turn n hp (h _ (.inl rfl)), one_turn n hp (h _ (.inr (.inl rfl))), one_turn n hp (h _ (.inr (.inr (.inl rfl)))), one_turn n hp (h _ (.inr (.inr (.inr rfl))))]
  rfl
theorem word_ne {ws : List Str} {p : Nat} {z w : Str} (h : ws[p]? = some z) (hw : z ≠ w) : ws[p]? ≠ some w := fun q => hw (by rw [h] at q; exact Option.some.inj q)
theorem not_letter {z : Str} (h1 : z ≠ "a") (h2 : z ≠ "b") (h3 : z ≠ "c") (h4 : z ≠ "d") : ∀ c, Letter c → z ≠ c := by
  rintro c (rfl | rfl | rfl | rfl)
  · exact h1
  · exact h2
  · exact h3
  · exact h4
theorem single_yes (n : Nat) {ws : List Str} {p : Nat} (h : ws[p]? = some ("yes" : Str)) : gF (n + 3) 27 [R ws p] = .ok (.tup [.obj 1 [], R ws (p + 1)]) := by
  have hp : p ≤ ws.length := Nat.le_of_lt (List.getElem?_eq_some_iff.mp h).1
  have nl := no_letter n hp fun c hc => word_ne h (not_letter (by decide +kernel) (by decide +kernel) (by decide +kernel) (by decide +kernel) c hc)
  rw [single_eq]
  unfold d_SignReader_read_single
  rw [e_seq, e_for, e_itemsT, e_C]
  simp only [ok_bind, ok_st]
  rw [nl, next_nx, e_seq, e_ifM, e_mTr, moY n (w := "yes") rfl h]
  rfl
theorem single_no (n : Nat) {ws : List Str} {p : Nat} (h : ws[p]? = some ("no" : Str)) : gF (n + 3) 27 [R ws p] = .ok (.tup [.obj 2 [], R ws (p + 1)]) := by
  have hp : p ≤ ws.length := Nat.le_of_lt (List.getElem?_eq_some_iff.mp h).1
  have nl := no_letter n hp fun c hc => word_ne h (not_letter (by decide +kernel) (by decide +kernel) (by decide +kernel) (by decide +kernel) c hc)
  rw [single_eq]
  unfold d_SignReader_read_single
  rw [e_seq, e_for, e_itemsT, e_C]
  simp only [ok_bind, ok_st]
  rw [nl, next_nx, e_seq, e_ifM, e_mTr, moN n (w := "yes") rfl hp (word_ne h (by decide +kernel))]
  simp only [ok_bind, ok_st, Bool.false_eq_true, if_false, e_next, next_nx]
  rw [e_seq, e_ifM, e_mTr, moY n (w := "no") rfl h]
  rfl
theorem single_not (n : Nat) {ws : List Str} {p q : Nat} {v : PV} (h : ws[p]? = some ("not" : Str)) (k : gF (n + 2) 27 [R ws (p + 1)] = .ok (.tup [v, R ws q])) :
    gF (n + 3) 27 [R ws p] = .ok (.tup [.obj 4 [v], R ws q]) := by
  have hp : p ≤ ws.length := Nat.le_of_lt (List.getElem?_eq_some_iff.mp h).1
  have nl := no_letter n hp fun c hc => word_ne h (not_letter (by decide +kernel) (by decide +kernel) (by decide +kernel) (by decide +kernel) c hc)
  rw [single_eq]
  unfold d_SignReader_read_single
  rw [e_seq, e_for, e_itemsT, e_C]
  simp only [ok_bind, ok_st]
  rw [nl, next_nx, e_seq, e_ifM, e_mTr, moN n (w := "yes") rfl hp (word_ne h (by decide +kernel))]
  simp only [ok_bind, ok_st, Bool.false_eq_true, if_false, e_next, next_nx]
  rw [e_seq, e_ifM, e_mTr, moN n (w := "no") rfl hp (word_ne h (by decide +kernel))]
  simp only [ok_bind, ok_st, Bool.false_eq_true, if_false, e_next, next_nx]
  rw [e_seq, e_ifM, e_mTr, moY n (w := "not") rfl h]
  have m : mMethO qo_read_single (gF (n + 2)) 0 dNil [.ino (RO ws (p + 1)), .v (.str "d")] = .ok (v, [.ino (RO ws q), .v (.str "d")]) := by
    have : mMethO qo_read_single (gF (n + 2)) 0 dNil [.ino (RO ws (p + 1)), .v (.str "d")] = (gF (n + 2) 27 [R ws (p + 1)]).bind (resO [.ino (RO ws (p + 1)), .v (.str "d")] 0) := rfl
    rw [this, k]
    rfl
  have m2 : mNew 4 1 (mCons (mMethO qo_read_single (gF (n + 2)) 0 dNil) mNil) [.ino (RO ws (p + 1)), .v (.str "d")] = .ok (.obj 4 [v], [.ino (RO ws q), .v (.str "d")]) := by
    rw [e_mNew, e_mcons, m]
    rfl
  have m3 : sRetIM (mNew 4 1 (mCons (mMethO qo_read_single (gF (n + 2)) 0 dNil) mNil)) [.ino (RO ws (p + 1)), .v (.str "d")] = .reti (.obj 4 [v]) (RO ws q) := by
    unfold sRetIM
    rw [m2]
    rfl
  simp only [ok_bind, ok_st, if_true]
  rw [m3]
  rfl
theorem single_br (n : Nat) {ws : List Str} {p q : Nat} {v : PV} (h : ws[p]? = some ("(" : Str)) (k : gF (n + 2) 28 [R ws (p + 1)] = .ok (.tup [v, R ws q])) :
    gF (n + 3) 27 [R ws p] = .ok (.tup [v, R ws q]) := by
  have hp : p ≤ ws.length := Nat.le_of_lt (List.getElem?_eq_some_iff.mp h).1
  have nl := no_letter n hp fun c hc => word_ne h (not_letter (by decide +kernel) (by decide +kernel) (by decide +kernel) (by decide +kernel) c hc)
  rw [single_eq]
  unfold d_SignReader_read_single
  rw [e_seq, e_for, e_itemsT, e_C]
  simp only [ok_bind, ok_st]
  rw [nl, next_nx, e_seq, e_ifM, e_mTr, moN n (w := "yes") rfl hp (word_ne h (by decide +kernel))]
  simp only [ok_bind, ok_st, Bool.false_eq_true, if_false, e_next, next_nx]
  rw [e_seq, e_ifM, e_mTr, moN n (w := "no") rfl hp (word_ne h (by decide +kernel))]
  simp only [ok_bind, ok_st, Bool.false_eq_true, if_false, e_next, next_nx]
  rw [e_seq, e_ifM, e_mTr, moN n (w := "not") rfl hp (word_ne h (by decide +kernel))]
  simp only [ok_bind, ok_st, Bool.false_eq_true, if_false, e_next, next_nx]
  rw [e_seq, e_ifM, e_mTr, moY n (w := "(") rfl h]
  have m : mMethO qo_read_bracket (gF (n + 2)) 0 dNil [.ino (RO ws (p + 1)), .v (.str "d")] = .ok (v, [.ino (RO ws q), .v (.str "d")]) := by
    have : mMethO qo_read_bracket (gF (n + 2)) 0 dNil [.ino (RO ws (p + 1)), .v (.str "d")] = (gF (n + 2) 28 [R ws (p + 1)]).bind (resO [.ino (RO ws (p + 1)), .v (.str "d")] 0) := rfl
    rw [this, k]
    rfl
  have m3 : sRetIM (mMethO qo_read_bracket (gF (n + 2)) 0 dNil) [.ino (RO ws (p + 1)), .v (.str "d")] = .reti v (RO ws q) := by
    unfold sRetIM
    rw [m]
    rfl
  simp only [ok_bind, ok_st, if_true]
  rw [m3]
  rfl
theorem bracket_ok (n : Nat) {ws : List Str} {p q : Nat} {v : PV} (k : gF (n + 2) 25 [R ws p] = .ok (.tup [v, R ws q])) (h : ws[q]? = some (")" : Str)) :
    gF (n + 3) 28 [R ws p] = .ok (.tup [v, R ws (q + 1)]) := by
  have e : gF (n + 3) 28 [R ws p] = finO (d_SignReader_read_bracket (gF (n + 2)) [.ino (RO ws p), .no]) := rfl
  rw [e]
  unfold d_SignReader_read_bracket
  have m : mMethO qo_read_either (gF (n + 2)) 0 dNil [.ino (RO ws p), .no] = .ok (v, [.ino (RO ws q), .no]) := by
    have : mMethO qo_read_either (gF (n + 2)) 0 dNil [.ino (RO ws p), .no] = (gF (n + 2) 25 [R ws p]).bind (resO [.ino (RO ws p), .no] 0) := rfl
    rw [this, k]
    rfl
  rw [e_seq, e_setM, m]
  simp only [ok_st, List.set_cons_succ, List.set_cons_zero, next_nx]
  rw [e_seq, e_ifM, e_mNot, e_mTr, moY n (w := ")") rfl h]
  rfl
/-! ### the loops -/
noncomputable abbrev itB (n m : Nat) (ws : List Str) (q : Nat) (v : PV) : Option Rs := iterM (mTr (mMethO qo_passes (gF n) 0 (dCons (dC (.str "and")) dNil))) (b_SignReader_read_both_1 (gF n)) m [.ino (RO ws q), .v v]
noncomputable abbrev itE (n m : Nat) (ws : List Str) (q : Nat) (v : PV) : Option Rs := iterM (mTr (mMethO qo_passes (gF n) 0 (dCons (dC (.str "or")) dNil))) (b_SignReader_read_either_1 (gF n)) m [.ino (RO ws q), .v v]
theorem itB_stop (n m : Nat) {ws : List Str} {q : Nat} {v : PV} (hq : q ≤ ws.length) (h : ws[q]? ≠ some ("and" : Str)) : itB (n + 2) (m + 1) ws q v = some (.nx [.ino (RO ws q), .v v]) := by
  show iterM _ _ (m + 1) _ = _
  rw [iterM, e_mTr, moN n (w := "and") rfl hq h]
  rfl
theorem itE_stop (n m : Nat) {ws : List Str} {q : Nat} {v : PV} (hq : q ≤ ws.length) (h : ws[q]? ≠ some ("or" : Str)) : itE (n + 2) (m + 1) ws q v = some (.nx [.ino (RO ws q), .v v]) := by
  show iterM _ _ (m + 1) _ = _
  rw [iterM, e_mTr, moN n (w := "or") rfl hq h]
  rfl
theorem itB_step (n m : Nat) {ws : List Str} {q q' : Nat} {v u : PV} (h : ws[q]? = some ("and" : Str)) (k : gF (n + 2) 27 [R ws (q + 1)] = .ok (.tup [u, R ws q'])) : itB (n + 2) (m + 1) ws q v = itB (n + 2) m ws q' (.obj 5 [v, u]) := by
  have e : b_SignReader_read_both_1 (gF (n + 2)) [.ino (RO ws (q + 1)), .v v] = .nx [.ino (RO ws q'), .v (.obj 5 [v, u])] := by
    have m0 : mMethO qo_read_single (gF (n + 2)) 0 dNil [.ino (RO ws (q + 1)), .v v] = .ok (u, [.ino (RO ws q'), .v v]) := by
      have : mMethO qo_read_single (gF (n + 2)) 0 dNil [.ino (RO ws (q + 1)), .v v] = (gF (n + 2) 27 [R ws (q + 1)]).bind (resO [.ino (RO ws (q + 1)), .v v] 0) := rfl
      rw [this, k]
      rfl
    have m1 : mNew 5 2 (mCons (dLift (dVar 1)) (mCons (mMethO qo_read_single (gF (n + 2)) 0 dNil) mNil)) [.ino (RO ws (q + 1)), .v v] = .ok (.obj 5 [v, u], [.ino (RO ws q'), .v v]) := by
      have l : dLift (dVar 1) [.ino (RO ws (q + 1)), .v v] = .ok (v, [.ino (RO ws (q + 1)), .v v]) := rfl
      rw [e_mNew, e_mcons, l]
      simp only [ok_bind]
      rw [e_mcons, m0]
      rfl
    unfold b_SignReader_read_both_1
    rw [e_setM, m1]
    rfl
  show iterM _ _ (m + 1) _ = _
  rw [iterM, e_mTr, moY n (w := "and") rfl h]
  simp only [ok_bind]
  rw [e]
theorem itE_step (n m : Nat) {ws : List Str} {q q' : Nat} {v u : PV} (h : ws[q]? = some ("or" : Str)) (k : gF (n + 2) 26 [R ws (q + 1)] = .ok (.tup [u, R ws q'])) : itE (n + 2) (m + 1) ws q v = itE (n + 2) m ws q' (.obj 6 [v, u]) := by
  have e : b_SignReader_read_either_1 (gF (n + 2)) [.ino (RO ws (q + 1)), .v v] = .nx [.ino (RO ws q'), .v (.obj 6 [v, u])] := by
    have m0 : mMethO qo_read_both (gF (n + 2)) 0 dNil [.ino (RO ws (q + 1)), .v v] = .ok (u, [.ino (RO ws q'), .v v]) := by
      have : mMethO qo_read_both (gF (n + 2)) 0 dNil [.ino (RO ws (q + 1)), .v v] = (gF (n + 2) 26 [R ws (q + 1)]).bind (resO [.ino (RO ws (q + 1)), .v v] 0) := rfl
      rw [this, k]
      rfl
    have m1 : mNew 6 2 (mCons (dLift (dVar 1)) (mCons (mMethO qo_read_both (gF (n + 2)) 0 dNil) mNil)) [.ino (RO ws (q + 1)), .v v] = .ok (.obj 6 [v, u], [.ino (RO ws q'), .v v]) := by
      have l : dLift (dVar 1) [.ino (RO ws (q + 1)), .v v] = .ok (v, [.ino (RO ws (q + 1)), .v v]) := rfl
      rw [e_mNew, e_mcons, l]
      simp only [ok_bind]
      rw [e_mcons, m0]
      rfl
    unfold b_SignReader_read_either_1
    rw [e_setM, m1]
    rfl
  show iterM _ _ (m + 1) _ = _
  rw [iterM, e_mTr, moY n (w := "or") rfl h]
  simp only [ok_bind]
  rw [e]
theorem both_of (n : Nat) {ws : List Str} {p q0 q : Nat} {v0 v : PV} (k : gF (n + 2) 27 [R ws p] = .ok (.tup [v0, R ws q0])) (l : itB (n + 2) 100000 ws q0 v0 = some (.nx [.ino (RO ws q), .v v])) :
    gF (n + 3) 26 [R ws p] = .ok (.tup [v, R ws q]) := by
  have e : gF (n + 3) 26 [R ws p] = finO (d_SignReader_read_both (gF (n + 2)) [.ino (RO ws p), .no]) := rfl
  rw [e]
  unfold d_SignReader_read_both
  have m : mMethO qo_read_single (gF (n + 2)) 0 dNil [.ino (RO ws p), .no] = .ok (v0, [.ino (RO ws q0), .no]) := by
    have : mMethO qo_read_single (gF (n + 2)) 0 dNil [.ino (RO ws p), .no] = (gF (n + 2) 27 [R ws p]).bind (resO [.ino (RO ws p), .no] 0) := rfl
    rw [this, k]
    rfl
  rw [e_seq, e_setM, m]
  simp only [ok_st, List.set_cons_succ, List.set_cons_zero, next_nx]
  have l : iterM (mTr (mMethO qo_passes (gF (n + 2)) 0 (dCons (dC (.str "and")) dNil))) (b_SignReader_read_both_1 (gF (n + 2))) 100000 [.ino (RO ws q0), .v v0] = some (.nx [.ino (RO ws q), .v v]) := l
  rw [e_seq, e_whileM, l]
  rfl
theorem either_of (n : Nat) {ws : List Str} {p q0 q : Nat} {v0 v : PV} (k : gF (n + 2) 26 [R ws p] = .ok (.tup [v0, R ws q0])) (l : itE (n + 2) 100000 ws q0 v0 = some (.nx [.ino (RO ws q), .v v])) :
    gF (n + 3) 25 [R ws p] = .ok (.tup [v, R ws q]) := by
  have e : gF (n + 3) 25 [R ws p] = finO (d_SignReader_read_either (gF (n + 2)) [.ino (RO ws p), .no]) := rfl
  rw [e]
  unfold d_SignReader_read_either
  have m : mMethO qo_read_both (gF (n + 2)) 0 dNil [.ino (RO ws p), .no] = .ok (v0, [.ino (RO ws q0), .no]) := by
    have : mMethO qo_read_both (gF (n + 2)) 0 dNil [.ino (RO ws p), .no] = (gF (n + 2) 26 [R ws p]).bind (resO [.ino (RO ws p), .no] 0) := rfl
    rw [this, k]
    rfl
  rw [e_seq, e_setM, m]
  simp only [ok_st, List.set_cons_succ, List.set_cons_zero, next_nx]
  have l : iterM (mTr (mMethO qo_passes (gF (n + 2)) 0 (dCons (dC (.str "or")) dNil))) (b_SignReader_read_either_1 (gF (n + 2))) 100000 [.ino (RO ws q0), .v v0] = some (.nx [.ino (RO ws q), .v v]) := l
  rw [e_seq, e_whileM, l]
  rfl
/-! ### what is written is read -/
def Pm (ws : List Str) : Nat → Tr → List Str → Prop
  | 0, t, w => ∀ (n p : Nat) (rest : List Str), ws.drop p = w ++ rest → 2 * w.length + 1 ≤ n → gF n 27 [R ws p] = .ok (.tup [t.pv, R ws (p + w.length)])
  | 1, t, w => ∀ (n p : Nat) (rest : List Str), ws.drop p = w ++ rest → 2 * w.length + 1 ≤ n → ∃ v0 q0 k, k ≤ w.length ∧ gF n 27 [R ws p] = .ok (.tup [v0, R ws q0]) ∧ ∀ m, itB n (m + k) ws q0 v0 = itB n m ws (p + w.length) t.pv
  | _, t, w => ∀ (n p : Nat) (rest : List Str), ws.drop p = w ++ rest → rest.head? ≠ some ("and" : Str) → 2 * w.length + 2 ≤ n → ∃ v0 q0 k, k ≤ w.length ∧ gF n 26 [R ws p] = .ok (.tup [v0, R ws q0]) ∧ ∀ m, itE n (m + k) ws q0 v0 = itE n m ws (p + w.length) t.pv
theorem drop_at {ws a b : List Str} {p : Nat} (h : ws.drop p = a ++ b) : ws[p + a.length]? = b.head? ∧ (a ++ b ≠ [] → p + a.length ≤ ws.length) ∧ ws.drop (p + a.length) = b := by
  have hd : ws.drop (p + a.length) = b := by
    rw [← List.drop_drop, h, List.drop_left]
  refine ⟨?_, fun hn => ?_, hd⟩
  · rw [← hd, List.head?_drop]
  · have := congrArg List.length h
    rw [List.length_drop, List.length_append] at this
    have h1 : 0 < (a ++ b).length := List.length_pos_iff.mpr hn
    rw [List.length_append] at h1
    omega
theorem both_pm {ws : List Str} {t : Tr} {w : List Str} (ih : Pm ws 1 t w) (hw : w ≠ []) (hl : w.length ≤ 1000) (n p : Nat) (rest : List Str) (h : ws.drop p = w ++ rest) (hr : rest.head? ≠ some ("and" : Str)) (hn : 2 * w.length + 2 ≤ n) :
    gF n 26 [R ws p] = .ok (.tup [t.pv, R ws (p + w.length)]) := by
  have hw1 : 0 < w.length := List.length_pos_iff.mpr hw
  obtain ⟨j, rfl⟩ : ∃ j, n = j + 3 := ⟨n - 3, by omega⟩
  obtain ⟨v0, q0, k, hk, e1, e2⟩ := ih (j + 2) p rest h (by omega)
  obtain ⟨d1, d2, d3⟩ := drop_at h
  refine both_of j e1 ?_
  have : (100000 : Nat) = (99999 - k + 1) + k := by omega
  rw [this, e2]
  exact itB_stop j _ (d2 (by simp [hw])) (by rw [d1]; exact hr)
theorem read_pm {ws : List Str} {i : Nat} {t : Tr} {w : List Str} (f : Fm i t w) (hl : w.length ≤ 1000) : Pm ws i t w := by
  induction f with
  | yes =>
    intro n p rest h hn
    obtain ⟨j, rfl⟩ : ∃ j, n = j + 3 := ⟨n - 3, by simp at hn; omega⟩
    have := (drop_at (a := []) h).1
    exact single_yes j (by simpa using this)
  | no =>
    intro n p rest h hn
    obtain ⟨j, rfl⟩ : ∃ j, n = j + 3 := ⟨n - 3, by simp at hn; omega⟩
    have := (drop_at (a := []) h).1
    exact single_no j (by simpa using this)
  | named hc =>
    intro n p rest h hn
    obtain ⟨j, rfl⟩ : ∃ j, n = j + 3 := ⟨n - 3, by simp at hn; omega⟩
    have := (drop_at (a := []) h).1
    exact single_letter j hc (by simpa using this)
  | @neg t w f ih =>
    intro n p rest h hn
    have hw := List.length_pos_iff.mpr (fm_ne f)
    simp only [List.length_cons] at hn hl
    obtain ⟨j, rfl⟩ : ∃ j, n = j + 3 := ⟨n - 3, by omega⟩
    have d0 := (drop_at (a := []) h).1
    obtain ⟨d1, d2, d3⟩ := drop_at (a := [("not" : Str)]) (b := w ++ rest) (by rw [h]; rfl)
    have k := ih (by omega) (j + 2) (p + 1) rest d3 (by omega)
    have := single_not j (by simpa using d0) k
    rw [this]
    show Rx.ok (PV.tup [Tr.pv (.neg t), R ws (p + 1 + w.length)]) = .ok (.tup [Tr.pv (.neg t), R ws (p + (w.length + 1))])
    rw [show p + 1 + w.length = p + (w.length + 1) by omega]
  | @br t w f ih =>
    intro n p rest h hn
    have hw := List.length_pos_iff.mpr (fm_ne f)
    simp only [List.length_cons, List.length_append, List.length_nil] at hn hl
    obtain ⟨j, rfl⟩ : ∃ j, n = j + 5 := ⟨n - 5, by omega⟩
    have d0 := (drop_at (a := []) h).1
    obtain ⟨d1, d2, d3⟩ := drop_at (a := [("(" : Str)]) (b := w ++ ([(")" : Str)] ++ rest)) (by rw [h]; simp)
    obtain ⟨v0, q0, k, hk, e1, e2⟩ := ih (by omega) (j + 2) (p + 1) ([(")" : Str)] ++ rest) d3 (by simp; decide +kernel) (by omega)
    obtain ⟨b1, b2, b3⟩ := drop_at d3
    have hz : ws[p + 1 + w.length]? = some (")" : Str) := b1
    have hel : gF (j + 3) 25 [R ws (p + 1)] = .ok (.tup [t.pv, R ws (p + 1 + w.length)]) := by
      refine either_of j e1 ?_
      have : (100000 : Nat) = (99999 - k + 1) + k := by omega
      rw [this, e2]
      exact itE_stop j _ (b2 (by simp)) (word_ne hz (by decide +kernel))
    have hb := bracket_ok (j + 1) hel hz
    have := single_br (j + 2) (by simpa using d0) hb
    rw [this]
    simp only [List.length_cons, List.length_append, List.length_nil]
    rw [show p + 1 + w.length + 1 = p + (w.length + (0 + 1) + 1) by omega]
  | @both l r w v f1 f2 i1 i2 =>
    intro n p rest h hn
    have hw := List.length_pos_iff.mpr (fm_ne f1)
    have hv := List.length_pos_iff.mpr (fm_ne f2)
    simp only [List.length_cons, List.length_append] at hn hl
    obtain ⟨j, rfl⟩ : ∃ j, n = j + 2 := ⟨n - 2, by omega⟩
    obtain ⟨v0, q0, k, hk, e1, e2⟩ := i1 (by omega) (j + 2) p ("and" :: (v ++ rest)) (by rw [h]; simp) (by omega)
    obtain ⟨b1, b2, b3⟩ := drop_at (a := w) (b := ("and" : Str) :: (v ++ rest)) (by rw [h]; simp)
    obtain ⟨c1, c2, c3⟩ := drop_at (a := [("and" : Str)]) (b := v ++ rest) b3
    have k2 := i2 (by omega) (j + 2) (p + w.length + 1) rest c3 (by omega)
    refine ⟨v0, q0, k + 1, by simp; omega, e1, fun m => ?_⟩
    rw [show m + (k + 1) = (m + 1) + k by omega, e2, itB_step j m (by rw [b1]; rfl) k2]
    simp only [List.length_append, List.length_cons]
    rw [show p + w.length + 1 + v.length = p + (w.length + (v.length + 1)) by omega]
    rfl
  | @either l r w v f1 f2 i1 i2 =>
    intro n p rest h hr hn
    have hw := List.length_pos_iff.mpr (fm_ne f1)
    have hv := List.length_pos_iff.mpr (fm_ne f2)
    simp only [List.length_cons, List.length_append] at hn hl
    obtain ⟨j, rfl⟩ : ∃ j, n = j + 2 := ⟨n - 2, by omega⟩
    obtain ⟨v0, q0, k, hk, e1, e2⟩ := i1 (by omega) (j + 2) p ("or" :: (v ++ rest)) (by rw [h]; simp) (by simp; decide +kernel) (by omega)
    obtain ⟨b1, b2, b3⟩ := drop_at (a := w) (b := ("or" : Str) :: (v ++ rest)) (by rw [h]; simp)
    obtain ⟨c1, c2, c3⟩ := drop_at (a := [("or" : Str)]) (b := v ++ rest) b3
    have k2 := both_pm (i2 (by omega)) (fm_ne f2) (by omega) (j + 2) (p + w.length + 1) rest c3 hr (by omega)
    refine ⟨v0, q0, k + 1, by simp; omega, e1, fun m => ?_⟩
    rw [show m + (k + 1) = (m + 1) + k by omega, e2, itE_step j m (by rw [b1]; rfl) k2]
    simp only [List.length_append, List.length_cons]
    rw [show p + w.length + 1 + v.length = p + (w.length + (v.length + 1)) by omega]
    rfl
  | @up1 t w f ih =>
    intro n p rest h hn
    exact ⟨t.pv, p + w.length, 0, Nat.zero_le _, ih hl n p rest h hn, fun m => rfl⟩
  | @up2 t w f ih =>
    intro n p rest h hr hn
    exact ⟨t.pv, p + w.length, 0, Nat.zero_le _, both_pm (ih hl) (fm_ne f) hl n p rest h hr hn, fun m => rfl⟩
theorem read_either_ok {ws : List Str} {t : Tr} (f : Fm 2 t ws) (hl : ws.length ≤ 1000) (n : Nat) (hn : 2 * ws.length + 3 ≤ n) : gF n 25 [R ws 0] = .ok (.tup [t.pv, R ws ws.length]) := by
  have hw := List.length_pos_iff.mpr (fm_ne f)
  obtain ⟨j, rfl⟩ : ∃ j, n = j + 3 := ⟨n - 3, by omega⟩
  obtain ⟨v0, q0, k, hk, e1, e2⟩ := read_pm f hl (ws := ws) (j + 2) 0 [] (by simp) (by simp) (by omega)
  refine either_of j e1 ?_
  have : (100000 : Nat) = (99999 - k + 1) + k := by omega
  rw [this, e2, Nat.zero_add]
  exact itE_stop j _ (Nat.le_refl _) (by simp)
end M02
end
section
set_option Elab.async false
set_option linter.all false
set_option maxRecDepth 100000
set_option maxHeartbeats 4000000
namespace M02
open PySem L2 DN
/-! ### the law's texts -/
theorem jn_wrap_len {t : Tr} {h : Nat} {e : Int} {w : List Str} (hw : w ≠ []) : (jn (wrap t h e w)).length ≤ (jn w).length + 8 := by
  unfold wrap
  split
  · have h1 : ("( ( " : Str).length = 4 := by decide +kernel
    have h2 : (" ) )" : Str).length = 4 := by decide +kernel
    rw [jn_br2 hw, slen, slen]; omega
  · split
    · rw [jn_br hw, br_len]; omega
    · omega
theorem tw_len : ∀ (t : Tr) (e : Int), t.ok → (jn (tw t e)).length ≤ 24 * t.size
  | .yes, e, _ => by show ("yes" : Str).length ≤ 24; decide +kernel
  | .no, e, _ => by show ("no" : Str).length ≤ 24; decide +kernel
  | .named c, e, h => by show c.length ≤ 24; rw [letter_len h]; decide
  | .neg t, e, h => by
    have ih := tw_len t (nx1 e) h
    have q := jn_wrap_len (t := t) (h := 0) (e := nx1 e) (tw_ne t (nx1 e))
    have h1 : ("not " : Str).length = 4 := by decide +kernel
    show (jn ("not" :: wrap t 0 (nx1 e) (tw t (nx1 e)))).length ≤ 24 * (t.size + 1)
    rw [jn_not (wrap_ne (tw_ne _ _)), slen]; omega
  | .both l r, e, h => by
    have i1 := tw_len l (nx1 e) h.1
    have i2 := tw_len r (nx2 e) h.2
    have q1 := jn_wrap_len (t := l) (h := 1) (e := nx1 e) (tw_ne l (nx1 e))
    have q2 := jn_wrap_len (t := r) (h := 0) (e := nx2 e) (tw_ne r (nx2 e))
    have h1 : (" and " : Str).length = 5 := by decide +kernel
    show (jn (wrap l 1 (nx1 e) (tw l (nx1 e)) ++ ("and" : Str) :: wrap r 0 (nx2 e) (tw r (nx2 e)))).length ≤ 24 * (l.size + r.size + 1)
    rw [jn_and (wrap_ne (tw_ne _ _)) (wrap_ne (tw_ne _ _)), slen, slen]; omega
  | .either l r, e, h => by
    have i1 := tw_len l (nx1 e) h.1
    have i2 := tw_len r (nx2 e) h.2
    have q1 := jn_wrap_len (t := l) (h := 2) (e := nx1 e) (tw_ne l (nx1 e))
    have q2 := jn_wrap_len (t := r) (h := 1) (e := nx2 e) (tw_ne r (nx2 e))
    have h1 : (" or " : Str).length = 4 := by decide +kernel
    show (jn (wrap l 2 (nx1 e) (tw l (nx1 e)) ++ ("or" : Str) :: wrap r 1 (nx2 e) (tw r (nx2 e)))).length ≤ 24 * (l.size + r.size + 1)
    rw [jn_or (wrap_ne (tw_ne _ _)) (wrap_ne (tw_ne _ _)), slen, slen]; omega
theorem nx1_lo {e : Int} : -1 ≤ nx1 e ∧ nx1 e < 2147483647 := by unfold nx1; split <;> omega
theorem nx2_lo {e : Int} : -1 ≤ nx2 e ∧ nx2 e < 2147483647 := by unfold nx2; split <;> omega
theorem w_yes_named : (("yes" : Str) == "named") = false := by decide +kernel
theorem w_no_named : (("no" : Str) == "named") = false := by decide +kernel
theorem w_no_yes : (("no" : Str) == "yes") = false := by decide +kernel
theorem w_not_named : (("not" : Str) == "named") = false := by decide +kernel
theorem w_not_yes : (("not" : Str) == "yes") = false := by decide +kernel
theorem w_not_no : (("not" : Str) == "no") = false := by decide +kernel
theorem w_both_named : (("both" : Str) == "named") = false := by decide +kernel
theorem w_both_yes : (("both" : Str) == "yes") = false := by decide +kernel
theorem w_both_no : (("both" : Str) == "no") = false := by decide +kernel
theorem w_both_not : (("both" : Str) == "not") = false := by decide +kernel
theorem w_either_named : (("either" : Str) == "named") = false := by decide +kernel
theorem w_either_yes : (("either" : Str) == "yes") = false := by decide +kernel
theorem w_either_no : (("either" : Str) == "no") = false := by decide +kernel
theorem w_either_not : (("either" : Str) == "not") = false := by decide +kernel
theorem w_either_both : (("either" : Str) == "both") = false := by decide +kernel
theorem w_named_both : (("named" : Str) == "both") = false := by decide +kernel
theorem w_named_either : (("named" : Str) == "either") = false := by decide +kernel
theorem w_yes_both : (("yes" : Str) == "both") = false := by decide +kernel
theorem w_yes_either : (("yes" : Str) == "either") = false := by decide +kernel
theorem w_no_both : (("no" : Str) == "both") = false := by decide +kernel
theorem w_no_either : (("no" : Str) == "either") = false := by decide +kernel
theorem w_not_both : (("not" : Str) == "both") = false := by decide +kernel
theorem w_not_either : (("not" : Str) == "either") = false := by decide +kernel
theorem w_both_either : (("both" : Str) == "either") = false := by decide +kernel
/-- _law_within, by _law_text -/
theorem within_of (n : Nat) {t : Tr} {h : Nat} {e : Int} (ht : gF n 6 [t.tp, .int e] = .ok (.str (jn (tw t e)))) (hl : (jn (tw t e)).length ≤ 100000) :
    gF (n + 1) 5 [t.tp, .int (h : Int), .int e] = .ok (.str (jn (wrap t h e (tw t e)))) := by
  have e0 : gF (n + 1) 5 [t.tp, .int (h : Int), .int e] = fin (d_l_within (gF n) [.v t.tp, .v (.int (h : Int)), .v (.int e), .no, .no]) := rfl
  rw [e0]
  have h1 : ("( ( " : Str).length = 4 := by decide +kernel
  have h2 : (" ) )" : Str).length = 4 := by decide +kernel
  have h3 : ("( " : Str).length = 2 := by decide +kernel
  have h4 : (" )" : Str).length = 2 := by decide +kernel
  have c1 := catS (x := "( ( ") (y := jn (tw t e)) (by rw [sz]; omega)
  have c2 := catS (x := "( ( " ++ jn (tw t e)) (y := " ) )") (by rw [sz, slen]; omega)
  have c3 := catS (x := "( ") (y := jn (tw t e)) (by rw [sz]; omega)
  have c4 := catS (x := "( " ++ jn (tw t e)) (y := " )") (by rw [sz, slen]; omega)
  have key : ∀ k : Int, k = ((t.lw : Nat) : Int) → fin ((sSeq (sSet 4 (dCall (gF n 6) (dCons (dVar 0) (dCons (dVar 2) dNil))))
  (sSeq (sIf (dAndT (dTr (d2 fGe (dSee 2) (dC (.int 0)))) (dTr (d2 fEq (d2 fMod (dSee 2) (dC (.int 36))) (dC (.int 7)))))
  (sRet (d2 fCatS (d2 fCatS (dC (.str "( ( ")) (dSee 4)) (dC (.str " ) )"))))
  sNext)
  (sSeq (sIf (dOrT (dTr (d2 fGt (dSee 3) (dSee 1))) (dAndT (dTr (d2 fGe (dSee 2) (dC (.int 0)))) (dTr (d2 fEq (d2 fMod (dSee 2) (dC (.int 6))) (dC (.int 1))))))
  (sRet (d2 fCatS (d2 fCatS (dC (.str "( ")) (dSee 4)) (dC (.str " )"))))
  sNext)
  (sRet (dVar 4))))) [.v t.tp, .v (.int (h : Int)), .v (.int e), .v (.int k), .no]) = .ok (.str (jn (wrap t h e (tw t e)))) := by
    intro k hk
    subst hk
    unfold wrap
    by_cases a1 : 0 ≤ e ∧ e % 36 = 7
    · rw [if_pos a1, jn_br2 (tw_ne _ _)]
      simp [ht, a1.1, a1.2, c1, c2]
    · rw [if_neg a1]
      have a1' : 0 ≤ e → (e % 36 == 7) = false := fun x => by simpa using fun y => a1 ⟨x, y⟩
      by_cases a2 : h < t.lw ∨ (0 ≤ e ∧ e % 6 = 1)
      · rw [if_pos a2, jn_br (tw_ne _ _)]
        by_cases p0 : 0 ≤ e
        · by_cases p1 : h < t.lw
          · have p1' : (h : Int) < (t.lw : Int) := by omega
            simp [ht, p0, a1' p0, p1', c3, c4, br]
          · have p1' : ¬ (h : Int) < (t.lw : Int) := by omega
            have p2 : e % 6 = 1 := by omega
            simp [ht, p0, a1' p0, p1', p2, c3, c4, br]
        · have p1' : (h : Int) < (t.lw : Int) := by omega
          simp [ht, p0, p1', c3, c4, br]
      · rw [if_neg a2]
        have p1' : ¬ (h : Int) < (t.lw : Int) := by omega
        by_cases p0 : 0 ≤ e
        · have p2' : ¬ e % 6 = 1 := by omega
          have p2 : (e % 6 == 1) = false := by simpa using p2'
          simp [ht, p0, a1' p0, p1', p2]
        · simp [ht, p0, p1']
  unfold d_l_within
  cases t with
  | yes =>
    have j : fIx (Tr.yes).tp (.int 0) = .ok (.str "yes") := rfl
    have := key 0 rfl
    simp only [e_seq, e_set, e_C, ok_st, List.set_cons_succ, List.set_cons_zero, next_nx, e_if, e_Tr, e_2, e_see, List.getElem?_cons_zero, bind2_ok, j, e_eqS, ok_bind, w_yes_both, w_yes_either, ifR_f, e_next] at this ⊢
    exact this
  | no =>
    have j : fIx (Tr.no).tp (.int 0) = .ok (.str "no") := rfl
    have := key 0 rfl
    simp only [e_seq, e_set, e_C, ok_st, List.set_cons_succ, List.set_cons_zero, next_nx, e_if, e_Tr, e_2, e_see, List.getElem?_cons_zero, bind2_ok, j, e_eqS, ok_bind, w_no_both, w_no_either, ifR_f, e_next] at this ⊢
    exact this
  | named c =>
    have j : fIx (Tr.named c).tp (.int 0) = .ok (.str "named") := rfl
    have := key 0 rfl
    simp only [e_seq, e_set, e_C, ok_st, List.set_cons_succ, List.set_cons_zero, next_nx, e_if, e_Tr, e_2, e_see, List.getElem?_cons_zero, bind2_ok, j, e_eqS, ok_bind, w_named_both, w_named_either, ifR_f, e_next] at this ⊢
    exact this
  | neg a =>
    have j : fIx (Tr.neg a).tp (.int 0) = .ok (.str "not") := rfl
    have := key 0 rfl
    simp only [e_seq, e_set, e_C, ok_st, List.set_cons_succ, List.set_cons_zero, next_nx, e_if, e_Tr, e_2, e_see, List.getElem?_cons_zero, bind2_ok, j, e_eqS, ok_bind, w_not_both, w_not_either, ifR_f, e_next] at this ⊢
    exact this
  | both l r =>
    have j : fIx (Tr.both l r).tp (.int 0) = .ok (.str "both") := rfl
    have := key 1 rfl
    simp only [e_seq, e_set, e_C, ok_st, List.set_cons_succ, List.set_cons_zero, next_nx, e_if, e_Tr, e_2, e_see, List.getElem?_cons_zero, bind2_ok, j, e_eqS, ok_bind, beq_self_eq_true, w_both_either, ifR_f, ifR_t, e_next] at this ⊢
    exact this
  | either l r =>
    have j : fIx (Tr.either l r).tp (.int 0) = .ok (.str "either") := rfl
    have := key 2 rfl
    simp only [e_seq, e_set, e_C, ok_st, List.set_cons_succ, List.set_cons_zero, next_nx, e_if, e_Tr, e_2, e_see, List.getElem?_cons_zero, bind2_ok, j, e_eqS, ok_bind, beq_self_eq_true, w_either_both, ifR_f, ifR_t, e_next] at this ⊢
    exact this
theorem ltext_ok : ∀ (t : Tr) (n : Nat) (e : Int), t.ok → 2 * t.depth < n → t.size ≤ 1000 → -1 ≤ e → e < 2147483647 → gF n 6 [t.tp, .int e] = .ok (.str (jn (tw t e)))
  | .yes, n + 1, e, _, _, _, _, _ => by
    have e0 : gF (n + 1) 6 [(Tr.yes).tp, .int e] = fin (d_l_text (gF n) [.v (Tr.yes).tp, .v (.int e), .no, .no]) := rfl
    have j : fIx (Tr.yes).tp (.int 0) = .ok (.str "yes") := rfl
    rw [e0]
    unfold d_l_text
    simp only [e_seq, e_if, e_Tr, e_2, e_see, e_C, List.getElem?_cons_zero, bind2_ok, j, e_eqS, ok_bind, w_yes_named, ifR_f, e_next, next_nx, e_orT, beq_self_eq_true, orR_t, ifR_t, e_ret, ok_st, next_ret, fin_ret]
    rfl
  | .no, n + 1, e, _, _, _, _, _ => by
    have e0 : gF (n + 1) 6 [(Tr.no).tp, .int e] = fin (d_l_text (gF n) [.v (Tr.no).tp, .v (.int e), .no, .no]) := rfl
    have j : fIx (Tr.no).tp (.int 0) = .ok (.str "no") := rfl
    rw [e0]
    unfold d_l_text
    simp only [e_seq, e_if, e_Tr, e_2, e_see, e_C, List.getElem?_cons_zero, bind2_ok, j, e_eqS, ok_bind, w_no_named, w_no_yes, ifR_f, e_next, next_nx, e_orT, beq_self_eq_true, orR_f, ifR_t, e_ret, ok_st, next_ret, fin_ret]
    rfl
  | .named c, n + 1, e, _, _, _, _, _ => by
    have e0 : gF (n + 1) 6 [(Tr.named c).tp, .int e] = fin (d_l_text (gF n) [.v (Tr.named c).tp, .v (.int e), .no, .no]) := rfl
    have j : fIx (Tr.named c).tp (.int 0) = .ok (.str "named") := rfl
    have j1 : fIx (Tr.named c).tp (.int 1) = .ok (.str c) := rfl
    rw [e0]
    unfold d_l_text
    simp only [e_seq, e_if, e_Tr, e_2, e_see, e_C, List.getElem?_cons_zero, bind2_ok, j, j1, e_eqS, ok_bind, beq_self_eq_true, ifR_t, e_ret, ok_st, next_ret, fin_ret]
    rfl
  | .neg t, n + 1, e, h, hd, hs, h0, h1 => by
    have hd' : 2 * (t.depth + 1) < n + 1 := hd
    have hs' : t.size + 1 ≤ 1000 := hs
    obtain ⟨m, rfl⟩ : ∃ m, n = m + 1 := ⟨n - 1, by omega⟩
    have ih := ltext_ok t m (nx1 e) h (by omega) (by omega) nx1_lo.1 nx1_lo.2
    have tl := tw_len t (nx1 e) h
    have wi := within_of m (h := 0) ih (by omega)
    have wl := jn_wrap_len (t := t) (h := 0) (e := nx1 e) (tw_ne t (nx1 e))
    have e0 : gF (m + 1 + 1) 6 [(Tr.neg t).tp, .int e] = fin (d_l_text (gF (m + 1)) [.v (Tr.neg t).tp, .v (.int e), .no, .no]) := rfl
    have j : fIx (Tr.neg t).tp (.int 0) = .ok (.str "not") := rfl
    have j1 : fIx (Tr.neg t).tp (.int 1) = .ok t.tp := rfl
    have h4 : ("not " : Str).length = 4 := by decide +kernel
    have c := catS (x := "not ") (y := jn (wrap t 0 (nx1 e) (tw t (nx1 e)))) (by rw [sz]; omega)
    show _ = Rx.ok (PV.str (jn ("not" :: wrap t 0 (nx1 e) (tw t (nx1 e)))))
    rw [e0, jn_not (wrap_ne (tw_ne _ _))]
    unfold d_l_text
    have hm : (-(2 ^ 64) < e ∧ e < 2 ^ 64) ∨ (-(2 ^ 64) < (48271 : Int) ∧ (48271 : Int) < 2 ^ 64) := .inr ⟨by decide, by decide⟩
    have hm2 : (-(2 ^ 64) < e ∧ e < 2 ^ 64) ∨ (-(2 ^ 64) < (69621 : Int) ∧ (69621 : Int) < 2 ^ 64) := .inr ⟨by decide, by decide⟩
    have wi0 : gF (m + 1) 5 [t.tp, .int 0, .int (nx1 e)] = .ok (.str (jn (wrap t 0 (nx1 e) (tw t (nx1 e))))) := wi
    unfold nx1 at wi0
    by_cases p0 : 0 ≤ e
    · rw [if_pos p0] at wi0
      have c' := c
      unfold nx1 at c'
      rw [if_pos p0] at c'
      simp [j, j1, -e_ixT, w_not_named, w_not_yes, w_not_no, p0, wi0, c', nx1]
    · rw [if_neg p0] at wi0
      have c' := c
      unfold nx1 at c'
      rw [if_neg p0] at c'
      simp [j, j1, -e_ixT, w_not_named, w_not_yes, w_not_no, p0, wi0, c', nx1]
  | .both l r, n + 1, e, h, hd, hs, h0, h1 => by
    have hd' : 2 * (max l.depth r.depth + 1) < n + 1 := hd
    have hs' : l.size + r.size + 1 ≤ 1000 := hs
    obtain ⟨m, rfl⟩ : ∃ m, n = m + 1 := ⟨n - 1, by omega⟩
    have i1 := ltext_ok l m (nx1 e) h.1 (by omega) (by omega) nx1_lo.1 nx1_lo.2
    have i2 := ltext_ok r m (nx2 e) h.2 (by omega) (by omega) nx2_lo.1 nx2_lo.2
    have t1 := tw_len l (nx1 e) h.1
    have t2 := tw_len r (nx2 e) h.2
    have w1 : gF (m + 1) 5 [l.tp, .int 1, .int (nx1 e)] = .ok (.str (jn (wrap l 1 (nx1 e) (tw l (nx1 e))))) := within_of m (h := 1) i1 (by omega)
    have w2 : gF (m + 1) 5 [r.tp, .int 0, .int (nx2 e)] = .ok (.str (jn (wrap r 0 (nx2 e) (tw r (nx2 e))))) := within_of m (h := 0) i2 (by omega)
    have l1 := jn_wrap_len (t := l) (h := 1) (e := nx1 e) (tw_ne l (nx1 e))
    have l2 := jn_wrap_len (t := r) (h := 0) (e := nx2 e) (tw_ne r (nx2 e))
    have e0 : gF (m + 1 + 1) 6 [(Tr.both l r).tp, .int e] = fin (d_l_text (gF (m + 1)) [.v (Tr.both l r).tp, .v (.int e), .no, .no]) := rfl
    have j : fIx (Tr.both l r).tp (.int 0) = .ok (.str "both") := rfl
    have j1 : fIx (Tr.both l r).tp (.int 1) = .ok l.tp := rfl
    have j2 : fIx (Tr.both l r).tp (.int 2) = .ok r.tp := rfl
    have h5 : (" and " : Str).length = 5 := by decide +kernel
    have c1 := catS (x := jn (wrap l 1 (nx1 e) (tw l (nx1 e)))) (y := " and ") (by rw [sz]; omega)
    have c2 := catS (x := jn (wrap l 1 (nx1 e) (tw l (nx1 e))) ++ " and ") (y := jn (wrap r 0 (nx2 e) (tw r (nx2 e)))) (by rw [sz, slen]; omega)
    show _ = Rx.ok (PV.str (jn (wrap l 1 (nx1 e) (tw l (nx1 e)) ++ ("and" : Str) :: wrap r 0 (nx2 e) (tw r (nx2 e)))))
    rw [e0, jn_and (wrap_ne (tw_ne _ _)) (wrap_ne (tw_ne _ _))]
    generalize hx : jn (wrap l 1 (nx1 e) (tw l (nx1 e))) = x at w1 c1 c2
    generalize hy : jn (wrap r 0 (nx2 e) (tw r (nx2 e))) = y at w2 c2
    unfold d_l_text
    unfold nx1 at w1
    unfold nx2 at w2
    by_cases p0 : 0 ≤ e
    · rw [if_pos p0] at w1 w2
      simp [j, j1, j2, -e_ixT, w_both_named, w_both_yes, w_both_no, w_both_not, p0, w1, w2, c1, c2]
    · rw [if_neg p0] at w1 w2
      simp [j, j1, j2, -e_ixT, w_both_named, w_both_yes, w_both_no, w_both_not, p0, w1, w2, c1, c2]
  | .either l r, n + 1, e, h, hd, hs, h0, h1 => by
    have hd' : 2 * (max l.depth r.depth + 1) < n + 1 := hd
    have hs' : l.size + r.size + 1 ≤ 1000 := hs
    obtain ⟨m, rfl⟩ : ∃ m, n = m + 1 := ⟨n - 1, by omega⟩
    have i1 := ltext_ok l m (nx1 e) h.1 (by omega) (by omega) nx1_lo.1 nx1_lo.2
    have i2 := ltext_ok r m (nx2 e) h.2 (by omega) (by omega) nx2_lo.1 nx2_lo.2
    have t1 := tw_len l (nx1 e) h.1
    have t2 := tw_len r (nx2 e) h.2
    have w1 : gF (m + 1) 5 [l.tp, .int 2, .int (nx1 e)] = .ok (.str (jn (wrap l 2 (nx1 e) (tw l (nx1 e))))) := within_of m (h := 2) i1 (by omega)
    have w2 : gF (m + 1) 5 [r.tp, .int 1, .int (nx2 e)] = .ok (.str (jn (wrap r 1 (nx2 e) (tw r (nx2 e))))) := within_of m (h := 1) i2 (by omega)
    have l1 := jn_wrap_len (t := l) (h := 2) (e := nx1 e) (tw_ne l (nx1 e))
    have l2 := jn_wrap_len (t := r) (h := 1) (e := nx2 e) (tw_ne r (nx2 e))
    have e0 : gF (m + 1 + 1) 6 [(Tr.either l r).tp, .int e] = fin (d_l_text (gF (m + 1)) [.v (Tr.either l r).tp, .v (.int e), .no, .no]) := rfl
    have j : fIx (Tr.either l r).tp (.int 0) = .ok (.str "either") := rfl
    have j1 : fIx (Tr.either l r).tp (.int 1) = .ok l.tp := rfl
    have j2 : fIx (Tr.either l r).tp (.int 2) = .ok r.tp := rfl
    have h5 : (" or " : Str).length = 4 := by decide +kernel
    have c1 := catS (x := jn (wrap l 2 (nx1 e) (tw l (nx1 e)))) (y := " or ") (by rw [sz]; omega)
    have c2 := catS (x := jn (wrap l 2 (nx1 e) (tw l (nx1 e))) ++ " or ") (y := jn (wrap r 1 (nx2 e) (tw r (nx2 e)))) (by rw [sz, slen]; omega)
    show _ = Rx.ok (PV.str (jn (wrap l 2 (nx1 e) (tw l (nx1 e)) ++ ("or" : Str) :: wrap r 1 (nx2 e) (tw r (nx2 e)))))
    rw [e0, jn_or (wrap_ne (tw_ne _ _)) (wrap_ne (tw_ne _ _))]
    generalize hx : jn (wrap l 2 (nx1 e) (tw l (nx1 e))) = x at w1 c1 c2
    generalize hy : jn (wrap r 1 (nx2 e) (tw r (nx2 e))) = y at w2 c2
    unfold d_l_text
    unfold nx1 at w1
    unfold nx2 at w2
    by_cases p0 : 0 ≤ e
    · rw [if_pos p0] at w1 w2
      simp [j, j1, j2, -e_ixT, w_either_named, w_either_yes, w_either_no, w_either_not, w_either_both, p0, w1, w2, c1, c2]
    · rw [if_neg p0] at w1 w2
      simp [j, j1, j2, -e_ixT, w_either_named, w_either_yes, w_either_no, w_either_not, w_either_both, p0, w1, w2, c1, c2]
/-! ### made, and compared -/
theorem lmade_ok : ∀ (t : Tr) (n : Nat), t.depth < n → gF n 7 [t.tp] = .ok t.pv
  | .yes, n + 1, _ => rfl
  | .no, n + 1, _ => rfl
  | .named c, n + 1, _ => rfl
  | .neg t, n + 1, hd => by
    have ih := lmade_ok t n (Nat.lt_of_succ_lt_succ hd)
    have e : gF (n + 1) 7 [(Tr.neg t).tp] = fin (d_l_made (gF n) [.v (Tr.neg t).tp]) := rfl
    have j : fIx (Tr.neg t).tp (.int 0) = .ok (.str "not") := rfl
    have j1 : fIx (Tr.neg t).tp (.int 1) = .ok t.tp := rfl
    rw [e]
    unfold d_l_made
    simp [j, j1, -e_ixT, w_not_named, w_not_yes, w_not_no, ih, Tr.pv]
  | .both l r, n + 1, hd => by
    have hd' : max l.depth r.depth + 1 < n + 1 := hd
    have i1 := lmade_ok l n (by omega)
    have i2 := lmade_ok r n (by omega)
    have e : gF (n + 1) 7 [(Tr.both l r).tp] = fin (d_l_made (gF n) [.v (Tr.both l r).tp]) := rfl
    have j : fIx (Tr.both l r).tp (.int 0) = .ok (.str "both") := rfl
    have j1 : fIx (Tr.both l r).tp (.int 1) = .ok l.tp := rfl
    have j2 : fIx (Tr.both l r).tp (.int 2) = .ok r.tp := rfl
    rw [e]
    unfold d_l_made
    simp [j, j1, j2, -e_ixT, w_both_named, w_both_yes, w_both_no, w_both_not, i1, i2, Tr.pv]
  | .either l r, n + 1, hd => by
    have hd' : max l.depth r.depth + 1 < n + 1 := hd
    have i1 := lmade_ok l n (by omega)
    have i2 := lmade_ok r n (by omega)
    have e : gF (n + 1) 7 [(Tr.either l r).tp] = fin ((((gF n 7 [l.tp]).bind fun x => (((gF n 7 [r.tp]).bind fun y => Rx.ok [y])).bind fun ys => .ok (x :: ys)).bind fun us => .ok (PV.obj 6 us)).st fun w => .ret w) := rfl
    rw [e, i1, i2]; rfl
theorem lsame_ok : ∀ (t : Tr) (n : Nat), t.depth < n → gF n 8 [t.pv, t.tp] = .ok (.bl true)
  | .yes, n + 1, _ => rfl
  | .no, n + 1, _ => rfl
  | .named c, n + 1, _ => by
    have e : gF (n + 1) 8 [(Tr.named c).pv, (Tr.named c).tp] = fin ((Rx.ok (PV.bl (c == c))).st fun w => .ret w) := rfl
    rw [e, beq_self_eq_true]; rfl
  | .neg t, n + 1, hd => by
    have ih := lsame_ok t n (Nat.lt_of_succ_lt_succ hd)
    have e : gF (n + 1) 8 [(Tr.neg t).pv, (Tr.neg t).tp] = fin (d_l_same (gF n) [.v (Tr.neg t).pv, .v (Tr.neg t).tp]) := rfl
    have j : fIx (Tr.neg t).tp (.int 0) = .ok (.str "not") := rfl
    have j1 : fIx (Tr.neg t).tp (.int 1) = .ok t.tp := rfl
    have k1 : isiP i_Not (Tr.neg t).pv = .ok (.bl true) := rfl
    have k2 : fldP a_inner (Tr.neg t).pv = .ok t.pv := rfl
    rw [e]
    unfold d_l_same
    simp [j, j1, -e_ixT, w_not_named, w_not_yes, w_not_no, ih, k1, k2]
  | .both l r, n + 1, hd => by
    have hd' : max l.depth r.depth + 1 < n + 1 := hd
    have i1 := lsame_ok l n (by omega)
    have i2 := lsame_ok r n (by omega)
    have e : gF (n + 1) 8 [(Tr.both l r).pv, (Tr.both l r).tp] = fin (((gF n 8 [l.pv, l.tp]).bind fun x => match x with | .bl true => gF n 8 [r.pv, r.tp] | .bl false => .ok (.bl false) | _ => .bad).st fun w => .ret w) := rfl
    rw [e, i1, i2]; rfl
  | .either l r, n + 1, hd => by
    have hd' : max l.depth r.depth + 1 < n + 1 := hd
    have i1 := lsame_ok l n (by omega)
    have i2 := lsame_ok r n (by omega)
    have e : gF (n + 1) 8 [(Tr.either l r).pv, (Tr.either l r).tp] = fin (((gF n 8 [l.pv, l.tp]).bind fun x => match x with | .bl true => gF n 8 [r.pv, r.tp] | .bl false => .ok (.bl false) | _ => .bad).st fun w => .ret w) := rfl
    rw [e, i1, i2]; rfl
end M02
end
section
set_option Elab.async false
set_option linter.all false
set_option maxRecDepth 100000
set_option maxHeartbeats 4000000
namespace M02
open PySem L2 DN
/-! ### the tests that are drawn -/
theorem abcd_at {j : Int} (h0 : 0 ≤ j) (h1 : j < 4) : ∃ c, fIx (.str "abcd") (.int j) = .ok (.str c) ∧ Letter c := by
  have : j = 0 ∨ j = 1 ∨ j = 2 ∨ j = 3 := by omega
  rcases this with rfl | rfl | rfl | rfl
  · exact ⟨⟨#[97]⟩, rfl, .inl (by decide +kernel)⟩
  · exact ⟨⟨#[98]⟩, rfl, .inr (.inl (by decide +kernel))⟩
  · exact ⟨⟨#[99]⟩, rfl, .inr (.inr (.inl (by decide +kernel)))⟩
  · exact ⟨⟨#[100]⟩, rfl, .inr (.inr (.inr (by decide +kernel)))⟩
theorem leaf_ok (n : Nat) (z : Int) : ∃ t : Tr, gF (n + 1) 3 [.int z] = .ok t.tp ∧ t.ok ∧ t.size = 1 := by
  rw [g_l_leaf, runD_of rfl]
  show ∃ t : Tr, fin (d_l_leaf (gF n) [.v (.int z)]) = .ok t.tp ∧ t.ok ∧ t.size = 1
  unfold d_l_leaf
  by_cases h4 : z % 6 = 4
  · exact ⟨.yes, by simp [h4]; rfl, True.intro, rfl⟩
  · by_cases h5 : z % 6 = 5
    · have b4 : (z % 6 == 4) = false := by simpa using h4
      exact ⟨.no, by simp [b4, h5]; rfl, True.intro, rfl⟩
    · obtain ⟨c, e, hc⟩ := abcd_at (j := z % 6) (by omega) (by omega)
      have b4 : (z % 6 == 4) = false := by simpa using h4
      have b5 : (z % 6 == 5) = false := by simpa using h5
      exact ⟨.named c, by simp [b4, b5, e]; rfl, hc, rfl⟩
def Stk (xs : List PV) (s : Nat) : Prop := ∃ l : List Tr, xs = l.map Tr.tp ∧ (∀ t ∈ l, t.ok) ∧ (l.map Tr.size).sum = s
theorem Stk.push {xs : List PV} {s : Nat} {t : Tr} (h : Stk xs s) (ht : t.ok) : Stk (xs ++ [t.tp]) (s + t.size) := by
  obtain ⟨l, rfl, h1, rfl⟩ := h
  refine ⟨l ++ [t], by simp, fun p hp => ?_, by simp⟩
  rcases List.mem_append.mp hp with z | z
  · exact h1 p z
  · rw [List.mem_singleton.mp z]; exact ht
theorem Stk.pop {xs : List PV} {s : Nat} (h : Stk xs s) (hn : xs ≠ []) : ∃ ys t k, xs = ys ++ [Tr.tp t] ∧ Stk ys k ∧ t.ok ∧ k + t.size = s := by
  obtain ⟨l, rfl, h1, rfl⟩ := h
  have hl : l ≠ [] := by intro z; subst z; exact hn rfl
  obtain ⟨l', p, rfl⟩ : ∃ l' p, l = l' ++ [p] := ⟨l.dropLast, l.getLast hl, (List.dropLast_concat_getLast hl).symm⟩
  exact ⟨l'.map Tr.tp, p, (l'.map Tr.size).sum, by simp, ⟨l', rfl, fun q hq => h1 q (by simp [hq]), rfl⟩, h1 p (by simp), by simp⟩
theorem Stk.one {t : Tr} (h : t.ok) : Stk [t.tp] t.size := ⟨[t], rfl, fun p hp => by rw [List.mem_singleton.mp hp]; exact h, by simp⟩
theorem small_len {k : Nat} (h : k ≤ 1000) : k < sizeLine := by show k < 16777216; omega
def bin2 (b : Bool) (l r : Tr) : Tr := if b = true then .either l r else .both l r
theorem bin2_tp (b : Bool) (l r : Tr) : (bin2 b l r).tp = .tup [.str (if b = true then "either" else "both"), l.tp, r.tp] := by cases b <;> rfl
theorem bin2_ok {b : Bool} {l r : Tr} (h1 : l.ok) (h2 : r.ok) : (bin2 b l r).ok := by cases b <;> exact ⟨h1, h2⟩
theorem bin2_size (b : Bool) (l r : Tr) : (bin2 b l r).size = l.size + r.size + 1 := by cases b <;> rfl
theorem pick2 {j : Int} (h0 : 0 ≤ j) (h1 : j < 2) : ∃ b : Bool, fIx (.lst [.str "both", .str "either"]) (.int j) = .ok (.str (if b = true then "either" else "both")) := by
  have : j = 0 ∨ j = 1 := by omega
  rcases this with rfl | rfl
  · exact ⟨false, rfl⟩
  · exact ⟨true, rfl⟩
theorem tree_ok (n : Nat) (zs : List Int) (hz : zs.length ≤ 63) : ∃ t : Tr, gF (n + 2) 4 [.lst (zs.map PV.int)] = .ok t.tp ∧ t.ok ∧ t.size ≤ 2 * zs.length + 1 := by
  rw [g_l_tree, runD_of rfl]
  show ∃ t : Tr, fin (d_l_tree (gF (n + 1)) [.v (.lst (zs.map PV.int)), .no, .no, .no, .no]) = .ok t.tp ∧ _
  unfold d_l_tree
  obtain ⟨t0, e0, p0, s0⟩ := leaf_ok n ((zs.length : Int) % 4)
  have body : ∀ k w ps, w ∈ zs.map PV.int → (∃ xs s2 s3 s4 s, ps = [Sl.v (.lst (zs.map PV.int)), .own (.lst xs), s2, s3, s4] ∧ xs ≠ [] ∧ xs.length ≤ k + 1 ∧ Stk xs s ∧ s ≤ k + 1) → k < 63 →
      ∃ ps1 ps2, gSet 2 w ps = .ok ps1 ∧ b_l_tree_2 (gF (n + 1)) ps1 = .nx ps2 ∧
      ∃ xs s2 s3 s4 s, ps2 = [Sl.v (.lst (zs.map PV.int)), .own (.lst xs), s2, s3, s4] ∧ xs ≠ [] ∧ xs.length ≤ k + 1 + 1 ∧ Stk xs s ∧ s ≤ k + 1 + 1 := by
    intro k w ps hw hP hk
    obtain ⟨xs, s2, s3, s4, s, rfl, hne, hlen, hS, hs⟩ := hP
    obtain ⟨z, _, rfl⟩ := List.mem_map.mp hw
    refine ⟨[Sl.v (.lst (zs.map PV.int)), .own (.lst xs), .v (.int z), s3, s4], ?_⟩
    unfold b_l_tree_2
    by_cases wl : z % 8 < 4 ∨ (5 < z % 8 ∧ xs.length = 1)
    · obtain ⟨t, ev, hv, sv⟩ := leaf_ok n (z / 8)
      have hl : xs.length < sizeLine := small_len (by omega)
      refine ⟨[Sl.v (.lst (zs.map PV.int)), .own (.lst (xs ++ [t.tp])), .v (.int z), .v (.int (z % 8)), s4], rfl, ?_, _, _, _, _, _, rfl, by simp, by simp; omega, hS.push hv, by omega⟩
      by_cases w0 : z % 8 < 4
      · simp [w0, ev, hl]
      · have w5 : 5 < z % 8 := by omega
        have w1' : ((xs.length : Nat) : Int) = 1 := by omega
        simp [w0, w5, w1', ev, hl, Ow.pv]
    · have w0 : ¬ z % 8 < 4 := fun q => wl (.inl q)
      by_cases w6 : z % 8 < 6
      · obtain ⟨ys, t, k', rfl, hT, ht, rfl⟩ := hS.pop hne
        have hl : ys.length < sizeLine := small_len (by simp at hlen; omega)
        have w5 : ¬ 5 < z % 8 := by omega
        refine ⟨[Sl.v (.lst (zs.map PV.int)), .own (.lst (ys ++ [(Tr.neg t).tp])), .v (.int z), .v (.int (z % 8)), s4], rfl, ?_, _, _, _, _, _, rfl, by simp, by simp at hlen ⊢; omega, hT.push (t := .neg t) ht, by show k' + (t.size + 1) ≤ _; omega⟩
        simp [w0, w5, w6, hl, Tr.tp]
      · have w5 : 5 < z % 8 := by omega
        have w1 : ¬ xs.length = 1 := fun q => wl (.inr ⟨w5, q⟩)
        obtain ⟨ys, t2, k2, rfl, hT, ht2, rfl⟩ := hS.pop hne
        have hn : ys ≠ [] := by intro q; subst q; exact w1 rfl
        obtain ⟨us, t1, k1, rfl, hT', ht1, rfl⟩ := hT.pop hn
        have hl : us.length < sizeLine := small_len (by simp at hlen; omega)
        have w1' : ¬ ((us.length : Int) + 1 + 1 = 1) := by omega
        have w1b : ((us.length : Int) + 1 + 1 == 1) = false := by simpa using w1'
        obtain ⟨b, eb⟩ := pick2 (j := z % 8 - 6) (by omega) (by omega)
        refine ⟨[Sl.v (.lst (zs.map PV.int)), .own (.lst (us ++ [(bin2 b t1 t2).tp])), .v (.int z), .v (.int (z % 8)), .v t2.tp], rfl, ?_, _, _, _, _, _, rfl, by simp, by simp at hlen ⊢; omega, hT'.push (bin2_ok ht1 ht2), by rw [bin2_size]; omega⟩
        rw [bin2_tp]
        simp [w0, w5, w6, hl, Ow.pv, w1b, eb, last_app, drop_app, -List.append_assoc, -e_ixL]
  obtain ⟨ps1, ef, xs, s2, s3, s4, s, rfl, hne, hlen, hS, hs⟩ := forD_at (g := gSet 2) (fun k ps => ∃ xs s2 s3 s4 s, ps = [Sl.v (.lst (zs.map PV.int)), .own (.lst xs), s2, s3, s4] ∧ xs ≠ [] ∧ xs.length ≤ k + 1 ∧ Stk xs s ∧ s ≤ k + 1) (zs.map PV.int) [Sl.v (.lst (zs.map PV.int)), .own (.lst [t0.tp]), .no, .no, .no]
    ⟨[t0.tp], .no, .no, .no, t0.size, rfl, by simp, Nat.le_refl _, .one p0, by omega⟩ (fun k w ps hk hP => by
      have hlt := (List.getElem?_eq_some_iff.mp hk).1
      rw [List.length_map] at hlt
      obtain ⟨ps1, ps2, h1, h2, h3⟩ := body k w ps (List.mem_of_getElem? hk) hP (by omega)
      exact ⟨ps1, ps2, h1, .inl h2, h3⟩)
  rw [List.length_map] at hlen hs
  obtain ⟨ps2, ew, t, s2', s3', s4', rfl, ht, hm⟩ := while_rel (t := dTr (d2 fGt (dCall bLen (dCons (dSee 1) dNil)) (dC (.int 1)))) (body := b_l_tree_1 (gF (n + 1)))
    (fun k ps => ∃ xs s2 s3 s4 s, ps = [Sl.v (.lst (zs.map PV.int)), .own (.lst xs), s2, s3, s4] ∧ xs.length = k ∧ 0 < k ∧ k ≤ 64 ∧ Stk xs s ∧ s + xs.length ≤ 2 * zs.length + 2)
    (fun ps => ∃ t s2 s3 s4, ps = [Sl.v (.lst (zs.map PV.int)), .own (.lst [Tr.tp t]), s2, s3, s4] ∧ t.ok ∧ t.size ≤ 2 * zs.length + 1)
    (by
      rintro k ps ⟨xs, s2, s3, s4, s, rfl, hk, h0, h64, hS, hs⟩
      by_cases h1 : k = 1
      · left
        obtain ⟨ys, t, k', rfl, hT, ht, rfl⟩ := hS.pop (by intro z; subst z; simp at hk; omega)
        have : ys = [] := by simp at hk; exact List.eq_nil_of_length_eq_zero (by omega)
        subst this
        exact ⟨by simp [Ow.pv], t, s2, s3, s4, rfl, ht, by simp at hs; omega⟩
      · right
        obtain ⟨ys, t2, k2, rfl, hT, ht2, rfl⟩ := hS.pop (by intro z; subst z; simp at hk; omega)
        obtain ⟨us, t1, k1, rfl, hT', ht1, rfl⟩ := hT.pop (by intro z; subst z; simp at hk; omega)
        have hl : us.length < sizeLine := small_len (by simp at hk; omega)
        simp at hk
        obtain ⟨b, eb⟩ := pick2 (j := ((us.length : Int) + 1) % 2) (by omega) (by omega)
        refine ⟨?_, [Sl.v (.lst (zs.map PV.int)), .own (.lst (us ++ [(bin2 b t1 t2).tp])), s2, s3, .v t2.tp], us.length + 1, .inl ?_, by omega, us ++ [(bin2 b t1 t2).tp], s2, s3, .v t2.tp, _, rfl, by simp, by omega, by omega, hT'.push (bin2_ok ht1 ht2), by rw [bin2_size]; simp at hs ⊢; omega⟩
        · have : (1 : Int) < (us.length : Int) + 2 := by omega
          simp [Ow.pv, this]
        · rw [bin2_tp]
          unfold b_l_tree_1
          simp [hl, Ow.pv, eb, last_app, drop_app, -List.append_assoc, -e_ixL])
    xs.length _ ⟨xs, s2, s3, s4, s, rfl, rfl, (by cases xs with | nil => exact absurd rfl hne | cons _ _ => simp), by omega, hS, by omega⟩
  refine ⟨t, ?_, ht, hm⟩
  have ix : fIx (.lst [t.tp]) (.int 0) = .ok t.tp := rfl
  simp only [e_seq, e_own, e_cons, e_call, e_2, e_C, e_see, List.getElem?_cons_zero, e_nil, consR_ok, ok_bind, e_lenL, List.length_map, bind2_ok, e_fIc, Int.reduceNeg, Int.reducePow, Int.reduceLT, and_self, true_or, if_true, e0, ok_st, List.length_cons, List.length_nil, Nat.reduceAdd, Nat.reduceLT, List.set_cons_succ, List.set_cons_zero, next_nx, e_for, e_items, e_var]
  rw [ef]
  simp only [next_nx, e_seq]
  rw [ew]
  simp [Ow.pv, ix, -e_ixL]
end M02
end
section
set_option Elab.async false
set_option linter.all false
set_option maxRecDepth 100000
set_option maxHeartbeats 4000000
namespace M02
open PySem L2 DN
/-! ### read -/
theorem d_split {a b : DP} {ps : PSt} {x y : Str} (ha : a ps = .ok (.str x)) (hb : b ps = .ok (.str y)) (hy : goodSep y = true) (hx : x.cps.toList.length ≤ 1000000) : dSplit a b ps = .ok ((spl x y).map .str) := by
  unfold dSplit
  rw [ha, hb]
  exact if_pos ⟨hy, hx⟩
theorem slen_l (x : Str) : x.cps.toList.length = x.length := by simp [Str.length]
theorem split_fm {ws : List Str} {t : Tr} (f : Fm 2 t ws) (hx : (jn ws).length ≤ 1000000) (i : Nat) (ps : PSt) (hi : dVar i ps = .ok (.str (jn ws))) : dSplit (dVar i) (dC (.str " ")) ps = .ok (ws.map .str) := by
  rw [d_split hi rfl good1 (by rw [slen_l]; exact hx), spl_jn (fm_ne f) (fm_blank f)]
theorem init_ok (n : Nat) (ws : List Str) (hl : ws.length ≤ 1000000) : gF (n + 1) 29 [.lst (ws.map .str)] = .ok (R ws 0) := by
  have e : gF (n + 1) 29 [.lst (ws.map .str)] = gF 1 29 [.lst (ws.map .str)] := rfl
  rfl
theorem read_test_ok {ws : List Str} {t : Tr} (f : Fm 2 t ws) (hx : (jn ws).length ≤ 1000000) (n : Nat) (hn : 84 ≤ n) : gF (n + 1) 1 [.str (jn ws)] = if ws.length ≤ 40 then .ok t.pv else .exc 1 := by
  have e : gF (n + 1) 1 [.str (jn ws)] = fin (d_read_test (gF n) [.v (.str (jn ws)), .no, .no, .no]) := rfl
  rw [e]
  unfold d_read_test
  have s1 : sCut (sSet 1 (dOfN (dSplit (dVar 0) (dC (.str " "))))) [.v (.str (jn ws)), .no, .no, .no] = .nx [.v (.str (jn ws)), .v (.lst (ws.map .str)), .no, .no] := by
    unfold sCut
    rw [e_set, e_ofN, split_fm f hx 0 _ rfl]
    rfl
  have s2 : (dTr (d2 fGt (dCall bLen (dCons (dSee 1) dNil)) (dC (.int (40))))) [.v (.str (jn ws)), .v (.lst (ws.map .str)), .no, .no] = .ok (decide (40 < ws.length)) := by
    have : (dTr (d2 fGt (dCall bLen (dCons (dSee 1) dNil)) (dC (.int (40))))) [.v (.str (jn ws)), .v (.lst (ws.map .str)), .no, .no] = .ok (decide ((40 : Int) < (((ws.map PV.str).length : Nat) : Int))) := rfl
    rw [this, List.length_map]
    congr 1
    by_cases h : 40 < ws.length
    · rw [decide_eq_true h, decide_eq_true (by omega)]
    · rw [decide_eq_false h, decide_eq_false (by omega)]
  rw [e_seq, s1, next_nx, e_seq]
  by_cases h : ws.length ≤ 40
  · rw [if_pos h]
    have s3 : sIfX (dTr (d2 fGt (dCall bLen (dCons (dSee 1) dNil)) (dC (.int (40))))) (sRaise 1) sNext [.v (.str (jn ws)), .v (.lst (ws.map .str)), .no, .no] = .nx [.v (.str (jn ws)), .v (.lst (ws.map .str)), .no, .no] := by
      unfold sIfX
      rw [s2, decide_eq_false (by omega)]
      rfl
    obtain ⟨k, rfl⟩ : ∃ k, n = k + 1 := ⟨n - 1, by omega⟩
    have s4 : sCut (sOwnI 2 (gF (k + 1) 29) (dCons (dVar 1) dNil)) [.v (.str (jn ws)), .v (.lst (ws.map .str)), .no, .no] = .nx [.v (.str (jn ws)), .v (.lst (ws.map .str)), .own (RO ws 0), .no] := by
      have : sOwnI 2 (gF (k + 1) 29) (dCons (dVar 1) dNil) [.v (.str (jn ws)), .v (.lst (ws.map .str)), .no, .no] = (gF (k + 1) 29 [.lst (ws.map .str)]).st fun w => match w with | .obj k fs => .nx [.v (.str (jn ws)), .v (.lst (ws.map .str)), .own (.obj k fs), .no] | _ => .bad := rfl
      unfold sCut
      rw [this, init_ok k ws (by omega)]
      rfl
    have s5 : sCut (sSetM 3 (mMethO qo_read_either (gF (k + 1)) 2 dNil)) [.v (.str (jn ws)), .v (.lst (ws.map .str)), .own (RO ws 0), .no] = .nx [.v (.str (jn ws)), .v (.lst (ws.map .str)), .own (RO ws ws.length), .v t.pv] := by
      have : mMethO qo_read_either (gF (k + 1)) 2 dNil [.v (.str (jn ws)), .v (.lst (ws.map .str)), .own (RO ws 0), .no] = (gF (k + 1) 25 [R ws 0]).bind (resO [.v (.str (jn ws)), .v (.lst (ws.map .str)), .own (RO ws 0), .no] 2) := rfl
      unfold sCut
      rw [e_setM, this, read_either_ok f (by omega) (k + 1) (by omega)]
      rfl
    have s6 : sIfMX (mNot (mTr (mMethO qo_at_end (gF (k + 1)) 2 dNil))) (sRaise 1) sNext [.v (.str (jn ws)), .v (.lst (ws.map .str)), .own (RO ws ws.length), .v t.pv] = .nx [.v (.str (jn ws)), .v (.lst (ws.map .str)), .own (RO ws ws.length), .v t.pv] := by
      have : mMethO qo_at_end (gF (k + 1)) 2 dNil [.v (.str (jn ws)), .v (.lst (ws.map .str)), .own (RO ws ws.length), .v t.pv] = (gF (k + 1) 23 [R ws ws.length]).bind (resO [.v (.str (jn ws)), .v (.lst (ws.map .str)), .own (RO ws ws.length), .v t.pv] 2) := rfl
      unfold sIfMX
      rw [e_mNot, e_mTr, this, at_endo, decide_eq_true rfl]
      rfl
    rw [s3, next_nx, e_seq, s4, next_nx, e_seq, s5, next_nx, e_seq, s6]
    rfl
  · rw [if_neg h]
    have s3 : sIfX (dTr (d2 fGt (dCall bLen (dCons (dSee 1) dNil)) (dC (.int (40))))) (sRaise 1) sNext [.v (.str (jn ws)), .v (.lst (ws.map .str)), .no, .no] = .exc 1 := by
      unfold sIfX
      rw [s2, decide_eq_true (by omega)]
      rfl
    rw [s3]
    rfl
theorem lread_ok {ws : List Str} {t : Tr} (f : Fm 2 t ws) (ho : t.ok) (hx : (jn ws).length ≤ 1000000) (hs : t.size ≤ 1000) (n : Nat) (hn : 90 ≤ n) (hd : t.depth + 10 < n) :
    gF (n + 1) 9 [.str (jn ws), t.tp, .str t.txt] = .ok (.bl true) := by
  have e : gF (n + 1) 9 [.str (jn ws), t.tp, .str t.txt] = fin (d_l_read (gF n) [.v (.str (jn ws)), .v t.tp, .v (.str t.txt), .no]) := rfl
  rw [e]
  unfold d_l_read
  obtain ⟨k, rfl⟩ : ∃ k, n = k + 1 := ⟨n - 1, by omega⟩
  have rt := read_test_ok f hx k (by omega)
  have s0 : sSet 3 (dC .non) [.v (.str (jn ws)), .v t.tp, .v (.str t.txt), .no] = .nx [.v (.str (jn ws)), .v t.tp, .v (.str t.txt), .v .non] := rfl
  have sp : ∀ s, dSplit (dVar 0) (dC (.str " ")) [.v (.str (jn ws)), .v t.tp, .v (.str t.txt), s] = .ok (ws.map .str) := fun s => split_fm f hx 0 _ rfl
  have tr : sTryC 3 (gF (k + 1) 1) (dCons (dVar 0) dNil) 1 (sSet 3 (dC .non)) [.v (.str (jn ws)), .v t.tp, .v (.str t.txt), .v .non] = (match gF (k + 1) 1 [.str (jn ws)] with | .ok w => .nx [.v (.str (jn ws)), .v t.tp, .v (.str t.txt), .v w] | .exc c => if c = 1 then .nx [.v (.str (jn ws)), .v t.tp, .v (.str t.txt), .v .non] else .bad | .bad => .bad) := rfl
  rw [e_seq, s0, next_nx, e_seq, tr, rt]
  by_cases h : ws.length ≤ 40
  · rw [if_pos h]
    have h' : ¬ (40 : Int) < (ws.length : Int) := by omega
    have hnon : isN t.pv = false := by cases t <;> rfl
    have e1 := lsame_ok t (k + 1) (by omega)
    have e2 := ttext_ok t (k + 1) ho (by omega) (by omega)
    simp [sp, h', hnon, e1, e2]
  · rw [if_neg h]
    have h' : (40 : Int) < (ws.length : Int) := by omega
    simp [sp, h', isN]
theorem depth_size : ∀ t : Tr, t.depth < t.size
  | .yes => by decide
  | .no => by decide
  | .named _ => by show 0 < 1; decide
  | .neg t => by have := depth_size t; show t.depth + 1 < t.size + 1; omega
  | .both l r => by have := depth_size l; have := depth_size r; show max l.depth r.depth + 1 < l.size + r.size + 1; omega
  | .either l r => by have := depth_size l; have := depth_size r; show max l.depth r.depth + 1 < l.size + r.size + 1; omega
theorem cell_ok (n : Nat) (ns : List Int) (k : Nat) (hk : k < 1000) : ∃ z : Int, gF (n + 1) 2 [.lst (ns.map PV.int), .int (k : Int)] = .ok (.int z) := by
  have e : gF (n + 1) 2 [.lst (ns.map PV.int), .int (k : Int)] = fin (d_l_cell_at (gF n) [.v (.lst (ns.map PV.int)), .v (.int (k : Int))]) := rfl
  rw [e]
  unfold d_l_cell_at
  by_cases h : k < ns.length
  · have h' : (k : Int) < (ns.length : Int) := by omega
    have hx : atI (ns.map PV.int) (k : Int) = some (.int ns[k]) := by rw [atI_nat (by rw [List.getElem?_map, List.getElem?_eq_getElem h]; rfl)]
    exact ⟨ns[k], by simp [h', hx]⟩
  · have h' : ¬ (k : Int) < (ns.length : Int) := by omega
    exact ⟨0, by simp [h']⟩
theorem main (ns : List Int) (hl : ns.length ≤ 63) : gF 110 10 [.lst (ns.map PV.int)] = .ok (.bl true) := by
  have e : gF 110 10 [.lst (ns.map PV.int)] = fin (d_law (gF 109) [.v (.lst (ns.map PV.int)), .no, .no, .no]) := rfl
  rw [e]
  unfold d_law
  have hcut : ∃ zs : List Int, cutP (ns.map PV.int) (some 2) (some 15) = zs.map PV.int ∧ zs.length ≤ 13 := by
    refine ⟨(ns.drop (HT.sIx ns.length 0 (some 2))).take (HT.sIx ns.length ns.length (some 15) - HT.sIx ns.length 0 (some 2)), ?_, ?_⟩
    · unfold cutP
      rw [List.length_map, List.map_take, List.map_drop]
    · rw [List.length_take, List.length_drop]
      simp [HT.sIx]
      omega
  obtain ⟨zs, hz, hzl⟩ := hcut
  obtain ⟨t, et, ho, hs⟩ := tree_ok 107 zs (by omega)
  have hd := depth_size t
  obtain ⟨c1, ec1⟩ := cell_ok 108 ns 1 (by decide)
  obtain ⟨c0, ec0⟩ := cell_ok 108 ns 0 (by decide)
  have ec1' : gF 109 2 [.lst (ns.map PV.int), .int 1] = .ok (.int c1) := ec1
  have ec0' : gF 109 2 [.lst (ns.map PV.int), .int 0] = .ok (.int c0) := ec0
  have et' : gF 109 4 [.lst (zs.map PV.int)] = .ok t.tp := et
  have own : gF 109 6 [t.tp, .int (-1)] = .ok (.str t.txt) := by rw [ltext_ok t 109 (-1) ho (by omega) (by omega) (by omega) (by omega), txt_tw]
  have mk := lmade_ok t 109 (by omega)
  have tx := ttext_ok t 109 ho (by omega) (by omega)
  have fo : Fm 2 t (tw t (-1)) := (tw_fm t _ ho).up (lw_le t) (Nat.le_refl 2)
  have tl := tw_len t (-1) ho
  have r1 : gF 109 9 [.str t.txt, t.tp, .str t.txt] = .ok (.bl true) := by
    have := lread_ok fo ho (by omega) (by omega) 108 (by omega) (by omega)
    rw [← txt_tw] at this
    exact this
  have fin2 : ∀ x : Int, -1 ≤ x → x < 2147483647 → ∃ ws, gF 109 5 [t.tp, .int 2, .int x] = .ok (.str (jn ws)) ∧ gF 109 9 [.str (jn ws), t.tp, .str t.txt] = .ok (.bl true) := by
    intro x h0 h1
    have tl := tw_len t x ho
    have wl := jn_wrap_len (t := t) (h := 2) (e := x) (tw_ne t x)
    refine ⟨wrap t 2 x (tw t x), within_of 108 (h := 2) (ltext_ok t 108 x ho (by omega) (by omega) h0 h1) (by omega), ?_⟩
    exact lread_ok (wrap_fm (tw_fm t x ho) (Nat.le_refl 2)) ho (by omega) (by omega) 108 (by omega) (by omega)
  by_cases h3 : c0 % 3 = 0
  · obtain ⟨ws, e1, e2⟩ := fin2 (-1) (by omega) (by omega)
    simp [hz, et', ec1', ec0', h3, own, mk, tx, r1, e1, e2]
  · obtain ⟨ws, e1, e2⟩ := fin2 (c1 % 2147483647) (by omega) (by omega)
    have b3 : (c0 % 3 == 0) = false := by simpa using h3
    simp [hz, et', ec1', ec0', b3, own, mk, tx, r1, e1, e2]
end M02
end
section
set_option Elab.async false
set_option linter.all false
set_option maxRecDepth 100000
set_option maxHeartbeats 4000000
namespace M02
open PySem L2 DN
def cOf (C0 : Addr) (C1 : Addr) (C2 : Addr) (C3 : Addr) (C4 : Addr) (C5 : Addr) (C6 : Addr) (C7 : Addr) (C8 : Addr) (X1 : Addr) : Nat → Addr
  | 0 => C0
  | 1 => C1
  | 2 => C2
  | 3 => C3
  | 4 => C4
  | 5 => C5
  | 6 => C6
  | 7 => C7
  | 8 => C8
  | 1001 => X1
  | _ => 0
abbrev si_Named : Stmt := inClass (top 10) 0
abbrev si_Not : Stmt := inClass (top 11) 0
abbrev si_Both : Stmt := inClass (top 12) 0
abbrev si_Either : Stmt := inClass (top 13) 0
theorem all_mk {l : PySem.W.OpenLaw} {w : World} {K : PySem.W.Frag} {mg : Str → Option Value} {fa : Addr} {h : Heap} {ts : List Addr} {C0 : Addr} {C1 : Addr} {C2 : Addr} {C3 : Addr} {C4 : Addr} {C5 : Addr} {C6 : Addr} {C7 : Addr} {C8 : Addr} {X1 : Addr} {i3 : Addr} {i4 : Addr} {i5 : Addr} {i6 : Addr} {i8 : Addr} {d0 : Addr} {d1 : Addr} {d2 : Addr} {d3 : Addr} {d4 : Addr} {d5 : Addr} {d6 : Addr} {d7 : Addr} {d8 : Addr} {d9 : Addr} {d10 : Addr} {d11 : Addr} {d12 : Addr} {d13 : Addr} {d14 : Addr} {d15 : Addr} {d16 : Addr} {d17 : Addr} {d18 : Addr} {d19 : Addr} {d20 : Addr} {d21 : Addr} {d22 : Addr} {d23 : Addr} {d24 : Addr} {d25 : Addr} {d26 : Addr} {d27 : Addr} {d28 : Addr} {tLETTERS : Addr} {nLETTERS : Nat} {slLETTERS : Array (Option Value)} {kLETTERS0 : Tok} {kLETTERS1 : Tok} {kLETTERS2 : Tok} {kLETTERS3 : Tok} {kMOST_WORDS : Tok} (X : K.In h) (G : h.Ns mainGlobals mg) (hfa : mg "law" = some (.ref fa))
    (xa1 : PySem.W.nsIn K mainGlobals "NoTest" = some (some (.ref X1)))
    (xb1 : PySem.W.excIn K X1 L2.vE "ValueError.__new__" = true)
    (a0 : PySem.W.nsIn K mainGlobals "Test" = some (some (.ref C0)))
    (a1 : PySem.W.nsIn K mainGlobals "Yes" = some (some (.ref C1)))
    (a2 : PySem.W.nsIn K mainGlobals "No" = some (some (.ref C2)))
    (a3 : PySem.W.nsIn K mainGlobals "Named" = some (some (.ref C3)))
    (a4 : PySem.W.nsIn K mainGlobals "Not" = some (some (.ref C4)))
    (a5 : PySem.W.nsIn K mainGlobals "Both" = some (some (.ref C5)))
    (a6 : PySem.W.nsIn K mainGlobals "Either" = some (some (.ref C6)))
    (a7 : PySem.W.nsIn K mainGlobals "WordReader" = some (some (.ref C7)))
    (a8 : PySem.W.nsIn K mainGlobals "SignReader" = some (some (.ref C8)))
    (c0 : ClsF K C0)
    (c1 : ClsF K C1)
    (c2 : ClsF K C2)
    (c3 : ClsF K C3)
    (c4 : ClsF K C4)
    (c5 : ClsF K C5)
    (c6 : ClsF K C6)
    (c7 : ClsF K C7)
    (c8 : ClsF K C8)
    (o1 : PySem.W.findIn K (.ref C1) "__init__" = some (some (.builtin "object.__init__")))
    (o2 : PySem.W.findIn K (.ref C2) "__init__" = some (some (.builtin "object.__init__")))
    (e3 : PySem.W.findIn K (.ref C3) "__init__" = some (some (.ref i3)))
    (f3 : PySem.W.isFn K (.ref i3) = true)
    (I3 : FnF K i3 "__init__" "Named.__init__" si_Named)
    (n3_0 : PySem.W.findIn K (.ref C3) "name" = some none)
    (e4 : PySem.W.findIn K (.ref C4) "__init__" = some (some (.ref i4)))
    (f4 : PySem.W.isFn K (.ref i4) = true)
    (I4 : FnF K i4 "__init__" "Not.__init__" si_Not)
    (n4_0 : PySem.W.findIn K (.ref C4) "inner" = some none)
    (e5 : PySem.W.findIn K (.ref C5) "__init__" = some (some (.ref i5)))
    (f5 : PySem.W.isFn K (.ref i5) = true)
    (I5 : FnF K i5 "__init__" "Both.__init__" si_Both)
    (n5_0 : PySem.W.findIn K (.ref C5) "left" = some none)
    (n5_1 : PySem.W.findIn K (.ref C5) "right" = some none)
    (e6 : PySem.W.findIn K (.ref C6) "__init__" = some (some (.ref i6)))
    (f6 : PySem.W.isFn K (.ref i6) = true)
    (I6 : FnF K i6 "__init__" "Either.__init__" si_Either)
    (n6_0 : PySem.W.findIn K (.ref C6) "left" = some none)
    (n6_1 : PySem.W.findIn K (.ref C6) "right" = some none)
    (n7_0 : PySem.W.findIn K (.ref C7) "words" = some none)
    (n7_1 : PySem.W.findIn K (.ref C7) "place" = some none)
    (e8 : PySem.W.findIn K (.ref C8) "__init__" = some (some (.ref i8)))
    (f8 : PySem.W.isFn K (.ref i8) = true)
    (I8 : FnF K i8 "__init__" "WordReader.__init__" s_SignReader_init)
    (n8_0 : PySem.W.findIn K (.ref C8) "words" = some none)
    (n8_1 : PySem.W.findIn K (.ref C8) "place" = some none)
    (b0 : PySem.W.nsIn K mainGlobals "in_brackets" = some (some (.ref d0)))
    (D0 : FnF K d0 "in_brackets" "in_brackets" s_in_brackets)
    (b1 : PySem.W.nsIn K mainGlobals "read_test" = some (some (.ref d1)))
    (D1 : FnF K d1 "read_test" "read_test" s_read_test)
    (b2 : PySem.W.nsIn K mainGlobals "_law_cell_at" = some (some (.ref d2)))
    (D2 : FnF K d2 "_law_cell_at" "_law_cell_at" s_l_cell_at)
    (b3 : PySem.W.nsIn K mainGlobals "_law_leaf" = some (some (.ref d3)))
    (D3 : FnF K d3 "_law_leaf" "_law_leaf" s_l_leaf)
    (b4 : PySem.W.nsIn K mainGlobals "_law_tree" = some (some (.ref d4)))
    (D4 : FnF K d4 "_law_tree" "_law_tree" s_l_tree)
    (b5 : PySem.W.nsIn K mainGlobals "_law_within" = some (some (.ref d5)))
    (D5 : FnF K d5 "_law_within" "_law_within" s_l_within)
    (b6 : PySem.W.nsIn K mainGlobals "_law_text" = some (some (.ref d6)))
    (D6 : FnF K d6 "_law_text" "_law_text" s_l_text)
    (b7 : PySem.W.nsIn K mainGlobals "_law_made" = some (some (.ref d7)))
    (D7 : FnF K d7 "_law_made" "_law_made" s_l_made)
    (b8 : PySem.W.nsIn K mainGlobals "_law_same" = some (some (.ref d8)))
    (D8 : FnF K d8 "_law_same" "_law_same" s_l_same)
    (b9 : PySem.W.nsIn K mainGlobals "_law_read" = some (some (.ref d9)))
    (D9 : FnF K d9 "_law_read" "_law_read" s_l_read)
    (b10 : PySem.W.nsIn K mainGlobals "law" = some (some (.ref d10)))
    (D10 : FnF K d10 "law" "law" s_law)
    (m11_1 : PySem.W.findIn K (.ref C1) "holds" = some (some (.ref d11)))
    (g11 : PySem.W.isFn K (.ref d11) = true)
    (D11 : FnF K d11 "holds" "Yes.holds" s_Yes_holds)
    (m12_1 : PySem.W.findIn K (.ref C1) "text" = some (some (.ref d12)))
    (g12 : PySem.W.isFn K (.ref d12) = true)
    (D12 : FnF K d12 "text" "Yes.text" s_Yes_text)
    (m13_2 : PySem.W.findIn K (.ref C2) "holds" = some (some (.ref d13)))
    (g13 : PySem.W.isFn K (.ref d13) = true)
    (D13 : FnF K d13 "holds" "No.holds" s_No_holds)
    (m14_2 : PySem.W.findIn K (.ref C2) "text" = some (some (.ref d14)))
    (g14 : PySem.W.isFn K (.ref d14) = true)
    (D14 : FnF K d14 "text" "No.text" s_No_text)
    (m15_3 : PySem.W.findIn K (.ref C3) "holds" = some (some (.ref d15)))
    (g15 : PySem.W.isFn K (.ref d15) = true)
    (D15 : FnF K d15 "holds" "Named.holds" s_Named_holds)
    (m16_3 : PySem.W.findIn K (.ref C3) "text" = some (some (.ref d16)))
    (g16 : PySem.W.isFn K (.ref d16) = true)
    (D16 : FnF K d16 "text" "Named.text" s_Named_text)
    (m17_4 : PySem.W.findIn K (.ref C4) "holds" = some (some (.ref d17)))
    (g17 : PySem.W.isFn K (.ref d17) = true)
    (D17 : FnF K d17 "holds" "Not.holds" s_Not_holds)
    (m18_4 : PySem.W.findIn K (.ref C4) "text" = some (some (.ref d18)))
    (g18 : PySem.W.isFn K (.ref d18) = true)
    (D18 : FnF K d18 "text" "Not.text" s_Not_text)
    (m19_5 : PySem.W.findIn K (.ref C5) "holds" = some (some (.ref d19)))
    (g19 : PySem.W.isFn K (.ref d19) = true)
    (D19 : FnF K d19 "holds" "Both.holds" s_Both_holds)
    (m20_5 : PySem.W.findIn K (.ref C5) "text" = some (some (.ref d20)))
    (g20 : PySem.W.isFn K (.ref d20) = true)
    (D20 : FnF K d20 "text" "Both.text" s_Both_text)
    (m21_6 : PySem.W.findIn K (.ref C6) "holds" = some (some (.ref d21)))
    (g21 : PySem.W.isFn K (.ref d21) = true)
    (D21 : FnF K d21 "holds" "Either.holds" s_Either_holds)
    (m22_6 : PySem.W.findIn K (.ref C6) "text" = some (some (.ref d22)))
    (g22 : PySem.W.isFn K (.ref d22) = true)
    (D22 : FnF K d22 "text" "Either.text" s_Either_text)
    (m23_7 : PySem.W.findIn K (.ref C7) "at_end" = some (some (.ref d23)))
    (m23_8 : PySem.W.findIn K (.ref C8) "at_end" = some (some (.ref d23)))
    (g23 : PySem.W.isFn K (.ref d23) = true)
    (D23 : FnF K d23 "at_end" "WordReader.at_end" s_WordReader_at_end)
    (m24_7 : PySem.W.findIn K (.ref C7) "passes" = some (some (.ref d24)))
    (m24_8 : PySem.W.findIn K (.ref C8) "passes" = some (some (.ref d24)))
    (g24 : PySem.W.isFn K (.ref d24) = true)
    (D24 : FnF K d24 "passes" "WordReader.passes" s_WordReader_passes)
    (m25_8 : PySem.W.findIn K (.ref C8) "read_either" = some (some (.ref d25)))
    (g25 : PySem.W.isFn K (.ref d25) = true)
    (D25 : FnF K d25 "read_either" "SignReader.read_either" s_SignReader_read_either)
    (m26_8 : PySem.W.findIn K (.ref C8) "read_both" = some (some (.ref d26)))
    (g26 : PySem.W.isFn K (.ref d26) = true)
    (D26 : FnF K d26 "read_both" "SignReader.read_both" s_SignReader_read_both)
    (m27_8 : PySem.W.findIn K (.ref C8) "read_single" = some (some (.ref d27)))
    (g27 : PySem.W.isFn K (.ref d27) = true)
    (D27 : FnF K d27 "read_single" "SignReader.read_single" s_SignReader_read_single)
    (m28_8 : PySem.W.findIn K (.ref C8) "read_bracket" = some (some (.ref d28)))
    (g28 : PySem.W.isFn K (.ref d28) = true)
    (D28 : FnF K d28 "read_bracket" "SignReader.read_bracket" s_SignReader_read_bracket)
    (wBoth_0 : PySem.W.kitOne K (.type "NoneType") (.ref C5) = some false)
    (wBoth_1 : PySem.W.kitOne K (.type "bool") (.ref C5) = some false)
    (wBoth_2 : PySem.W.kitOne K (.type "int") (.ref C5) = some false)
    (wBoth_3 : PySem.W.kitOne K (.type "str") (.ref C5) = some false)
    (wBoth_4 : PySem.W.kitOne K (.type "tuple") (.ref C5) = some false)
    (wBoth_5 : PySem.W.kitOne K (.type "list") (.ref C5) = some false)
    (wBoth_6 : PySem.W.kitOne K (.type "dict") (.ref C5) = some false)
    (wBoth_10 : PySem.W.kitOne K (.ref C0) (.ref C5) = some false)
    (wBoth_11 : PySem.W.kitOne K (.ref C1) (.ref C5) = some false)
    (wBoth_12 : PySem.W.kitOne K (.ref C2) (.ref C5) = some false)
    (wBoth_13 : PySem.W.kitOne K (.ref C3) (.ref C5) = some false)
    (wBoth_14 : PySem.W.kitOne K (.ref C4) (.ref C5) = some false)
    (wBoth_15 : PySem.W.kitOne K (.ref C5) (.ref C5) = some true)
    (wBoth_16 : PySem.W.kitOne K (.ref C6) (.ref C5) = some false)
    (wBoth_17 : PySem.W.kitOne K (.ref C7) (.ref C5) = some false)
    (wBoth_18 : PySem.W.kitOne K (.ref C8) (.ref C5) = some false)
    (wEither_0 : PySem.W.kitOne K (.type "NoneType") (.ref C6) = some false)
    (wEither_1 : PySem.W.kitOne K (.type "bool") (.ref C6) = some false)
    (wEither_2 : PySem.W.kitOne K (.type "int") (.ref C6) = some false)
    (wEither_3 : PySem.W.kitOne K (.type "str") (.ref C6) = some false)
    (wEither_4 : PySem.W.kitOne K (.type "tuple") (.ref C6) = some false)
    (wEither_5 : PySem.W.kitOne K (.type "list") (.ref C6) = some false)
    (wEither_6 : PySem.W.kitOne K (.type "dict") (.ref C6) = some false)
    (wEither_10 : PySem.W.kitOne K (.ref C0) (.ref C6) = some false)
    (wEither_11 : PySem.W.kitOne K (.ref C1) (.ref C6) = some false)
    (wEither_12 : PySem.W.kitOne K (.ref C2) (.ref C6) = some false)
    (wEither_13 : PySem.W.kitOne K (.ref C3) (.ref C6) = some false)
    (wEither_14 : PySem.W.kitOne K (.ref C4) (.ref C6) = some false)
    (wEither_15 : PySem.W.kitOne K (.ref C5) (.ref C6) = some false)
    (wEither_16 : PySem.W.kitOne K (.ref C6) (.ref C6) = some true)
    (wEither_17 : PySem.W.kitOne K (.ref C7) (.ref C6) = some false)
    (wEither_18 : PySem.W.kitOne K (.ref C8) (.ref C6) = some false)
    (wNamed_0 : PySem.W.kitOne K (.type "NoneType") (.ref C3) = some false)
    (wNamed_1 : PySem.W.kitOne K (.type "bool") (.ref C3) = some false)
    (wNamed_2 : PySem.W.kitOne K (.type "int") (.ref C3) = some false)
    (wNamed_3 : PySem.W.kitOne K (.type "str") (.ref C3) = some false)
    (wNamed_4 : PySem.W.kitOne K (.type "tuple") (.ref C3) = some false)
    (wNamed_5 : PySem.W.kitOne K (.type "list") (.ref C3) = some false)
    (wNamed_6 : PySem.W.kitOne K (.type "dict") (.ref C3) = some false)
    (wNamed_10 : PySem.W.kitOne K (.ref C0) (.ref C3) = some false)
    (wNamed_11 : PySem.W.kitOne K (.ref C1) (.ref C3) = some false)
    (wNamed_12 : PySem.W.kitOne K (.ref C2) (.ref C3) = some false)
    (wNamed_13 : PySem.W.kitOne K (.ref C3) (.ref C3) = some true)
    (wNamed_14 : PySem.W.kitOne K (.ref C4) (.ref C3) = some false)
    (wNamed_15 : PySem.W.kitOne K (.ref C5) (.ref C3) = some false)
    (wNamed_16 : PySem.W.kitOne K (.ref C6) (.ref C3) = some false)
    (wNamed_17 : PySem.W.kitOne K (.ref C7) (.ref C3) = some false)
    (wNamed_18 : PySem.W.kitOne K (.ref C8) (.ref C3) = some false)
    (wNo_0 : PySem.W.kitOne K (.type "NoneType") (.ref C2) = some false)
    (wNo_1 : PySem.W.kitOne K (.type "bool") (.ref C2) = some false)
    (wNo_2 : PySem.W.kitOne K (.type "int") (.ref C2) = some false)
    (wNo_3 : PySem.W.kitOne K (.type "str") (.ref C2) = some false)
    (wNo_4 : PySem.W.kitOne K (.type "tuple") (.ref C2) = some false)
    (wNo_5 : PySem.W.kitOne K (.type "list") (.ref C2) = some false)
    (wNo_6 : PySem.W.kitOne K (.type "dict") (.ref C2) = some false)
    (wNo_10 : PySem.W.kitOne K (.ref C0) (.ref C2) = some false)
    (wNo_11 : PySem.W.kitOne K (.ref C1) (.ref C2) = some false)
    (wNo_12 : PySem.W.kitOne K (.ref C2) (.ref C2) = some true)
    (wNo_13 : PySem.W.kitOne K (.ref C3) (.ref C2) = some false)
    (wNo_14 : PySem.W.kitOne K (.ref C4) (.ref C2) = some false)
    (wNo_15 : PySem.W.kitOne K (.ref C5) (.ref C2) = some false)
    (wNo_16 : PySem.W.kitOne K (.ref C6) (.ref C2) = some false)
    (wNo_17 : PySem.W.kitOne K (.ref C7) (.ref C2) = some false)
    (wNo_18 : PySem.W.kitOne K (.ref C8) (.ref C2) = some false)
    (wNot_0 : PySem.W.kitOne K (.type "NoneType") (.ref C4) = some false)
    (wNot_1 : PySem.W.kitOne K (.type "bool") (.ref C4) = some false)
    (wNot_2 : PySem.W.kitOne K (.type "int") (.ref C4) = some false)
    (wNot_3 : PySem.W.kitOne K (.type "str") (.ref C4) = some false)
    (wNot_4 : PySem.W.kitOne K (.type "tuple") (.ref C4) = some false)
    (wNot_5 : PySem.W.kitOne K (.type "list") (.ref C4) = some false)
    (wNot_6 : PySem.W.kitOne K (.type "dict") (.ref C4) = some false)
    (wNot_10 : PySem.W.kitOne K (.ref C0) (.ref C4) = some false)
    (wNot_11 : PySem.W.kitOne K (.ref C1) (.ref C4) = some false)
    (wNot_12 : PySem.W.kitOne K (.ref C2) (.ref C4) = some false)
    (wNot_13 : PySem.W.kitOne K (.ref C3) (.ref C4) = some false)
    (wNot_14 : PySem.W.kitOne K (.ref C4) (.ref C4) = some true)
    (wNot_15 : PySem.W.kitOne K (.ref C5) (.ref C4) = some false)
    (wNot_16 : PySem.W.kitOne K (.ref C6) (.ref C4) = some false)
    (wNot_17 : PySem.W.kitOne K (.ref C7) (.ref C4) = some false)
    (wNot_18 : PySem.W.kitOne K (.ref C8) (.ref C4) = some false)
    (wYes_0 : PySem.W.kitOne K (.type "NoneType") (.ref C1) = some false)
    (wYes_1 : PySem.W.kitOne K (.type "bool") (.ref C1) = some false)
    (wYes_2 : PySem.W.kitOne K (.type "int") (.ref C1) = some false)
    (wYes_3 : PySem.W.kitOne K (.type "str") (.ref C1) = some false)
    (wYes_4 : PySem.W.kitOne K (.type "tuple") (.ref C1) = some false)
    (wYes_5 : PySem.W.kitOne K (.type "list") (.ref C1) = some false)
    (wYes_6 : PySem.W.kitOne K (.type "dict") (.ref C1) = some false)
    (wYes_10 : PySem.W.kitOne K (.ref C0) (.ref C1) = some false)
    (wYes_11 : PySem.W.kitOne K (.ref C1) (.ref C1) = some true)
    (wYes_12 : PySem.W.kitOne K (.ref C2) (.ref C1) = some false)
    (wYes_13 : PySem.W.kitOne K (.ref C3) (.ref C1) = some false)
    (wYes_14 : PySem.W.kitOne K (.ref C4) (.ref C1) = some false)
    (wYes_15 : PySem.W.kitOne K (.ref C5) (.ref C1) = some false)
    (wYes_16 : PySem.W.kitOne K (.ref C6) (.ref C1) = some false)
    (wYes_17 : PySem.W.kitOne K (.ref C7) (.ref C1) = some false)
    (wYes_18 : PySem.W.kitOne K (.ref C8) (.ref C1) = some false)
    (bxLETTERS : PySem.W.nsIn K mainGlobals "LETTERS" = some (some (.ref tLETTERS)))
    (lxLETTERS : K.lookup tLETTERS = some ⟨.type "tuple", none, .seq #[.str "a" kLETTERS0, .str "b" kLETTERS1, .str "c" kLETTERS2, .str "d" kLETTERS3] nLETTERS, slLETTERS⟩)
    (bxMOST_WORDS : PySem.W.nsIn K mainGlobals "MOST_WORDS" = some (some (.int (40) kMOST_WORDS)))
    (zisinstance : PySem.W.nsIn K mainGlobals "isinstance" = some none)
    (zlen : PySem.W.nsIn K mainGlobals "len" = some none)
    (zlist : PySem.W.nsIn K mainGlobals "list" = some none) :
    ∃ (cA : Nat → Addr) (fd : FuncData), (∀ (s : Shared) (v : Value), BindsTo s fd ⟨[v], []⟩ [("_law_script", v)]) ∧ ∀ base : Bs, K.In base → base.Ns mainGlobals mg → base.tabs = ts → FnOk l.prog w K mg base CX0 (220 + 3) fa fd ["_law_script"] (spG K (pg cA) [false] (gF 110 10)) := by
  have e := hfa.symm.trans (PySem.W.mg_of X G b10)
  cases e
  obtain ⟨fD0, D0⟩ := D0
  obtain ⟨fD1, D1⟩ := D1
  obtain ⟨fD2, D2⟩ := D2
  obtain ⟨fD3, D3⟩ := D3
  obtain ⟨fD4, D4⟩ := D4
  obtain ⟨fD5, D5⟩ := D5
  obtain ⟨fD6, D6⟩ := D6
  obtain ⟨fD7, D7⟩ := D7
  obtain ⟨fD8, D8⟩ := D8
  obtain ⟨fD9, D9⟩ := D9
  obtain ⟨fD10, D10⟩ := D10
  obtain ⟨fD11, D11⟩ := D11
  obtain ⟨fD12, D12⟩ := D12
  obtain ⟨fD13, D13⟩ := D13
  obtain ⟨fD14, D14⟩ := D14
  obtain ⟨fD15, D15⟩ := D15
  obtain ⟨fD16, D16⟩ := D16
  obtain ⟨fD17, D17⟩ := D17
  obtain ⟨fD18, D18⟩ := D18
  obtain ⟨fD19, D19⟩ := D19
  obtain ⟨fD20, D20⟩ := D20
  obtain ⟨fD21, D21⟩ := D21
  obtain ⟨fD22, D22⟩ := D22
  obtain ⟨fD23, D23⟩ := D23
  obtain ⟨fD24, D24⟩ := D24
  obtain ⟨fD25, D25⟩ := D25
  obtain ⟨fD26, D26⟩ := D26
  obtain ⟨fD27, D27⟩ := D27
  obtain ⟨fD28, D28⟩ := D28
  obtain ⟨fI3, I3⟩ := I3
  obtain ⟨fI4, I4⟩ := I4
  obtain ⟨fI5, I5⟩ := I5
  obtain ⟨fI6, I6⟩ := I6
  obtain ⟨fI8, I8⟩ := I8
  have F : Fs K mg (cOf C0 C1 C2 C3 C4 C5 C6 C7 C8 X1) ts := {
    F_in_brackets := ⟨_, fD0, D0, D0.binds fun _ _ _ _ _ _ us hl => match us, hl with | [_], _ => rfl, PySem.W.mg_of X G b0⟩
    F_read_test := ⟨_, fD1, D1, D1.binds fun _ _ _ _ _ _ us hl => match us, hl with | [_], _ => rfl, PySem.W.mg_of X G b1⟩
    F_l_cell_at := ⟨_, fD2, D2, D2.binds fun _ _ _ _ _ _ us hl => match us, hl with | [_, _], _ => rfl, PySem.W.mg_of X G b2⟩
    F_l_leaf := ⟨_, fD3, D3, D3.binds fun _ _ _ _ _ _ us hl => match us, hl with | [_], _ => rfl, PySem.W.mg_of X G b3⟩
    F_l_tree := ⟨_, fD4, D4, D4.binds fun _ _ _ _ _ _ us hl => match us, hl with | [_], _ => rfl, PySem.W.mg_of X G b4⟩
    F_l_within := ⟨_, fD5, D5, D5.binds fun _ _ _ _ _ _ us hl => match us, hl with | [_, _, _], _ => rfl, PySem.W.mg_of X G b5⟩
    F_l_text := ⟨_, fD6, D6, D6.binds fun _ _ _ _ _ _ us hl => match us, hl with | [_, _], _ => rfl, PySem.W.mg_of X G b6⟩
    F_l_made := ⟨_, fD7, D7, D7.binds fun _ _ _ _ _ _ us hl => match us, hl with | [_], _ => rfl, PySem.W.mg_of X G b7⟩
    F_l_same := ⟨_, fD8, D8, D8.binds fun _ _ _ _ _ _ us hl => match us, hl with | [_, _], _ => rfl, PySem.W.mg_of X G b8⟩
    F_l_read := ⟨_, fD9, D9, D9.binds fun _ _ _ _ _ _ us hl => match us, hl with | [_, _, _], _ => rfl, PySem.W.mg_of X G b9⟩
    F_law := ⟨_, fD10, D10, D10.binds fun _ _ _ _ _ _ us hl => match us, hl with | [_], _ => rfl, PySem.W.mg_of X G b10⟩
    F_Yes_holds := ⟨_, fD11, D11, D11.binds fun _ _ _ _ _ _ us hl => match us, hl with | [_, _], _ => rfl, ⟨m11_1, g11, D11.kp⟩⟩
    F_Yes_text := ⟨_, fD12, D12, D12.binds fun _ _ _ _ _ _ us hl => match us, hl with | [_], _ => rfl, ⟨m12_1, g12, D12.kp⟩⟩
    F_No_holds := ⟨_, fD13, D13, D13.binds fun _ _ _ _ _ _ us hl => match us, hl with | [_, _], _ => rfl, ⟨m13_2, g13, D13.kp⟩⟩
    F_No_text := ⟨_, fD14, D14, D14.binds fun _ _ _ _ _ _ us hl => match us, hl with | [_], _ => rfl, ⟨m14_2, g14, D14.kp⟩⟩
    F_Named_holds := ⟨_, fD15, D15, D15.binds fun _ _ _ _ _ _ us hl => match us, hl with | [_, _], _ => rfl, ⟨m15_3, g15, D15.kp⟩⟩
    F_Named_text := ⟨_, fD16, D16, D16.binds fun _ _ _ _ _ _ us hl => match us, hl with | [_], _ => rfl, ⟨m16_3, g16, D16.kp⟩⟩
    F_Not_holds := ⟨_, fD17, D17, D17.binds fun _ _ _ _ _ _ us hl => match us, hl with | [_, _], _ => rfl, ⟨m17_4, g17, D17.kp⟩⟩
    F_Not_text := ⟨_, fD18, D18, D18.binds fun _ _ _ _ _ _ us hl => match us, hl with | [_], _ => rfl, ⟨m18_4, g18, D18.kp⟩⟩
    F_Both_holds := ⟨_, fD19, D19, D19.binds fun _ _ _ _ _ _ us hl => match us, hl with | [_, _], _ => rfl, ⟨m19_5, g19, D19.kp⟩⟩
    F_Both_text := ⟨_, fD20, D20, D20.binds fun _ _ _ _ _ _ us hl => match us, hl with | [_], _ => rfl, ⟨m20_5, g20, D20.kp⟩⟩
    F_Either_holds := ⟨_, fD21, D21, D21.binds fun _ _ _ _ _ _ us hl => match us, hl with | [_, _], _ => rfl, ⟨m21_6, g21, D21.kp⟩⟩
    F_Either_text := ⟨_, fD22, D22, D22.binds fun _ _ _ _ _ _ us hl => match us, hl with | [_], _ => rfl, ⟨m22_6, g22, D22.kp⟩⟩
    F_WordReader_at_end := ⟨_, fD23, D23, D23.binds fun _ _ _ _ _ _ us hl => match us, hl with | [_], _ => rfl, ⟨m23_7, g23, D23.kp⟩, ⟨m23_8, g23, D23.kp⟩⟩
    F_WordReader_passes := ⟨_, fD24, D24, D24.binds fun _ _ _ _ _ _ us hl => match us, hl with | [_, _], _ => rfl, ⟨m24_7, g24, D24.kp⟩, ⟨m24_8, g24, D24.kp⟩⟩
    F_SignReader_read_either := ⟨_, fD25, D25, D25.binds fun _ _ _ _ _ _ us hl => match us, hl with | [_], _ => rfl, ⟨m25_8, g25, D25.kp⟩⟩
    F_SignReader_read_both := ⟨_, fD26, D26, D26.binds fun _ _ _ _ _ _ us hl => match us, hl with | [_], _ => rfl, ⟨m26_8, g26, D26.kp⟩⟩
    F_SignReader_read_single := ⟨_, fD27, D27, D27.binds fun _ _ _ _ _ _ us hl => match us, hl with | [_], _ => rfl, ⟨m27_8, g27, D27.kp⟩⟩
    F_SignReader_read_bracket := ⟨_, fD28, D28, D28.binds fun _ _ _ _ _ _ us hl => match us, hl with | [_], _ => rfl, ⟨m28_8, g28, D28.kp⟩⟩
    F_SignReader_init := ⟨_, fI8, I8, I8.binds fun _ _ _ _ _ _ us hl => match us, hl with | [_, _], _ => rfl, ⟨c8.mks, e8, f8, c8.kp⟩⟩
  }
  obtain ⟨⟨oc, od, kV, dc, pm, an, cd, ct, osl, rfl, ll, cc⟩, kk⟩ := id D10
  refine ⟨(cOf C0 C1 C2 C3 C4 C5 C6 C7 C8 X1), PySem.W.fnOf "law" "law" (defArgs s_law) (defBody s_law) (defScope s_law) .none kV dc pm an cd ct, fun s v => .of_eq rfl, fun base _ _ htb => ?_⟩
  have C : Ct l.prog w K mg base (cOf C0 C1 C2 C3 C4 C5 C6 C7 C8 X1) ts := {
    tb := htb
    c_Test := PySem.W.mg_of X G a0
    l_Test := c0
    c_Yes := PySem.W.mg_of X G a1
    l_Yes := c1
    c_No := PySem.W.mg_of X G a2
    l_No := c2
    c_Named := PySem.W.mg_of X G a3
    l_Named := c3
    c_Not := PySem.W.mg_of X G a4
    l_Not := c4
    c_Both := PySem.W.mg_of X G a5
    l_Both := c5
    c_Either := PySem.W.mg_of X G a6
    l_Either := c6
    c_WordReader := PySem.W.mg_of X G a7
    l_WordReader := c7
    c_SignReader := PySem.W.mg_of X G a8
    l_SignReader := c8
    xc_NoTest := PySem.W.mg_of X G xa1
    xe_NoTest := xb1
    n_Both := ⟨PySem.W.mg_of X G a5, c5.cls, i5, fI5, _, ⟨c5.mks, e5, f5, c5.kp⟩, init_ok2 I5 rfl ⟨rfl, rfl, rfl, by decide +kernel, rfl, by decide +kernel, by decide +kernel⟩ c5.cls n5_0 n5_1 (by decide) (by decide) (by decide) (by decide) (by decide +kernel), I5.binds fun _ _ _ _ _ _ us hl => match us, hl with | [_, _, _], _ => rfl⟩
    n_Either := ⟨PySem.W.mg_of X G a6, c6.cls, i6, fI6, _, ⟨c6.mks, e6, f6, c6.kp⟩, init_ok2 I6 rfl ⟨rfl, rfl, rfl, by decide +kernel, rfl, by decide +kernel, by decide +kernel⟩ c6.cls n6_0 n6_1 (by decide) (by decide) (by decide) (by decide) (by decide +kernel), I6.binds fun _ _ _ _ _ _ us hl => match us, hl with | [_, _, _], _ => rfl⟩
    n_Named := ⟨PySem.W.mg_of X G a3, c3.cls, i3, fI3, _, ⟨c3.mks, e3, f3, c3.kp⟩, init_ok1 I3 rfl ⟨rfl, rfl, rfl, by decide +kernel, rfl, by decide +kernel, by decide +kernel⟩ c3.cls n3_0 (by decide) (by decide) , I3.binds fun _ _ _ _ _ _ us hl => match us, hl with | [_, _], _ => rfl⟩
    k_No := ⟨c2.mks, o2, c2.kp⟩
    n_Not := ⟨PySem.W.mg_of X G a4, c4.cls, i4, fI4, _, ⟨c4.mks, e4, f4, c4.kp⟩, init_ok1 I4 rfl ⟨rfl, rfl, rfl, by decide +kernel, rfl, by decide +kernel, by decide +kernel⟩ c4.cls n4_0 (by decide) (by decide) , I4.binds fun _ _ _ _ _ _ us hl => match us, hl with | [_, _], _ => rfl⟩
    k_Yes := ⟨c1.mks, o1, c1.kp⟩
    x_SignReader_words := n8_0
    x_SignReader_place := n8_1
    f_inner := (fl_cons c4.cls n4_0 (show (fN 4).Nodup by decide +kernel) rfl fl_nil)
    f_left := (fl_cons c5.cls n5_0 (show (fN 5).Nodup by decide +kernel) rfl (fl_cons c6.cls n6_0 (show (fN 6).Nodup by decide +kernel) rfl fl_nil))
    f_name := (fl_cons c3.cls n3_0 (show (fN 3).Nodup by decide +kernel) rfl fl_nil)
    f_place := (fl_cons c7.cls n7_1 (show (fN 7).Nodup by decide +kernel) rfl (fl_cons c8.cls n8_1 (show (fN 8).Nodup by decide +kernel) rfl fl_nil))
    f_right := (fl_cons c5.cls n5_1 (show (fN 5).Nodup by decide +kernel) rfl (fl_cons c6.cls n6_1 (show (fN 6).Nodup by decide +kernel) rfl fl_nil))
    f_words := (fl_cons c7.cls n7_0 (show (fN 7).Nodup by decide +kernel) rfl (fl_cons c8.cls n8_0 (show (fN 8).Nodup by decide +kernel) rfl fl_nil))
    i_Both := (is_cons wBoth_0 (by decide) (is_cons wBoth_1 (by decide) (is_cons wBoth_2 (by decide) (is_cons wBoth_3 (by decide) (is_cons wBoth_4 (by decide) (is_cons wBoth_5 (by decide) (is_cons wBoth_6 (by decide) (is_consC wBoth_10 (clsTy c0) (is_consC wBoth_11 (clsTy c1) (is_consC wBoth_12 (clsTy c2) (is_consC wBoth_13 (clsTy c3) (is_consC wBoth_14 (clsTy c4) (is_consC wBoth_15 (clsTy c5) (is_consC wBoth_16 (clsTy c6) (is_consC wBoth_17 (clsTy c7) (is_consC wBoth_18 (clsTy c8) is_nil))))))))))))))))
    i_Either := (is_cons wEither_0 (by decide) (is_cons wEither_1 (by decide) (is_cons wEither_2 (by decide) (is_cons wEither_3 (by decide) (is_cons wEither_4 (by decide) (is_cons wEither_5 (by decide) (is_cons wEither_6 (by decide) (is_consC wEither_10 (clsTy c0) (is_consC wEither_11 (clsTy c1) (is_consC wEither_12 (clsTy c2) (is_consC wEither_13 (clsTy c3) (is_consC wEither_14 (clsTy c4) (is_consC wEither_15 (clsTy c5) (is_consC wEither_16 (clsTy c6) (is_consC wEither_17 (clsTy c7) (is_consC wEither_18 (clsTy c8) is_nil))))))))))))))))
    i_Named := (is_cons wNamed_0 (by decide) (is_cons wNamed_1 (by decide) (is_cons wNamed_2 (by decide) (is_cons wNamed_3 (by decide) (is_cons wNamed_4 (by decide) (is_cons wNamed_5 (by decide) (is_cons wNamed_6 (by decide) (is_consC wNamed_10 (clsTy c0) (is_consC wNamed_11 (clsTy c1) (is_consC wNamed_12 (clsTy c2) (is_consC wNamed_13 (clsTy c3) (is_consC wNamed_14 (clsTy c4) (is_consC wNamed_15 (clsTy c5) (is_consC wNamed_16 (clsTy c6) (is_consC wNamed_17 (clsTy c7) (is_consC wNamed_18 (clsTy c8) is_nil))))))))))))))))
    i_No := (is_cons wNo_0 (by decide) (is_cons wNo_1 (by decide) (is_cons wNo_2 (by decide) (is_cons wNo_3 (by decide) (is_cons wNo_4 (by decide) (is_cons wNo_5 (by decide) (is_cons wNo_6 (by decide) (is_consC wNo_10 (clsTy c0) (is_consC wNo_11 (clsTy c1) (is_consC wNo_12 (clsTy c2) (is_consC wNo_13 (clsTy c3) (is_consC wNo_14 (clsTy c4) (is_consC wNo_15 (clsTy c5) (is_consC wNo_16 (clsTy c6) (is_consC wNo_17 (clsTy c7) (is_consC wNo_18 (clsTy c8) is_nil))))))))))))))))
    i_Not := (is_cons wNot_0 (by decide) (is_cons wNot_1 (by decide) (is_cons wNot_2 (by decide) (is_cons wNot_3 (by decide) (is_cons wNot_4 (by decide) (is_cons wNot_5 (by decide) (is_cons wNot_6 (by decide) (is_consC wNot_10 (clsTy c0) (is_consC wNot_11 (clsTy c1) (is_consC wNot_12 (clsTy c2) (is_consC wNot_13 (clsTy c3) (is_consC wNot_14 (clsTy c4) (is_consC wNot_15 (clsTy c5) (is_consC wNot_16 (clsTy c6) (is_consC wNot_17 (clsTy c7) (is_consC wNot_18 (clsTy c8) is_nil))))))))))))))))
    i_Yes := (is_cons wYes_0 (by decide) (is_cons wYes_1 (by decide) (is_cons wYes_2 (by decide) (is_cons wYes_3 (by decide) (is_cons wYes_4 (by decide) (is_cons wYes_5 (by decide) (is_cons wYes_6 (by decide) (is_consC wYes_10 (clsTy c0) (is_consC wYes_11 (clsTy c1) (is_consC wYes_12 (clsTy c2) (is_consC wYes_13 (clsTy c3) (is_consC wYes_14 (clsTy c4) (is_consC wYes_15 (clsTy c5) (is_consC wYes_16 (clsTy c6) (is_consC wYes_17 (clsTy c7) (is_consC wYes_18 (clsTy c8) is_nil))))))))))))))))
    e_LETTERS := ⟨tLETTERS, PySem.W.mg_of X G bxLETTERS, topT_mk lxLETTERS (by show 4 ≤ sizeLine; decide) (.cons ⟨_, rfl⟩ (.cons ⟨_, rfl⟩ (.cons ⟨_, rfl⟩ (.cons ⟨_, rfl⟩ (.nil)))))⟩
    e_MOST_WORDS := ⟨kMOST_WORDS, PySem.W.mg_of X G bxMOST_WORDS⟩
    z_isinstance := PySem.W.mg_none_of X G zisinstance
    z_len := PySem.W.mg_none_of X G zlen
    z_list := PySem.W.mg_none_of X G zlist
  }
  obtain ⟨f', fd', ps', e1, e2, e3, e4⟩ := (all_fn C F 110).h_law.ex
  exact fn_ok D10 sc_law rfl fun _ _ _ _ _ _ hr => b_law C (all_fn C F 109) hr
end M02
def PySem.W.Fast.tw9908333540905901888 : Nat := 0
def PySem.W.Fast.tw7994878033186812408 : Nat := 0
def PySem.W.Fast.tw8129458242463003415 : Nat := 0
def PySem.W.Fast.tw3249296232383946320 : Nat := 0
def PySem.W.Fast.tw10997920996799122152 : Nat := 0
def PySem.W.Fast.tw2922505270986013882 : Nat := 0
def PySem.W.Fast.tw7229532888129660299 : Nat := 0
def PySem.W.Fast.tw7084101575901699211 : Nat := 0
def PySem.W.Fast.tw6405788386430365023 : Nat := 0
def PySem.W.Fast.tw6136875023367105971 : Nat := 0
def PySem.W.Fast.tw4439434306386284405 : Nat := 0
def PySem.W.Fast.tw14086491333068752319 : Nat := 0
def PySem.W.Fast.tw8985995437164408394 : Nat := 0
def PySem.W.Fast.tw9783697768503454637 : Nat := 0
def PySem.W.Fast.tw7535248027138619700 : Nat := 0
def PySem.W.Fast.tw17190102924249330883 : Nat := 0
open PySem PySem.W PyProof.Rows
set_option maxRecDepth 100000 in
set_option maxHeartbeats 0 in
theorem PySem.Challenge.cw_anymeaning_k02_tests_written_holds : PySem.Challenge.rw_anymeaning_k02_tests_written.Holds := by
  w_on; o_law; k_head; (case hw => w_witness2)
  k_fill
  refine L2.walk_ofK (l := PySem.Challenge.rw_anymeaning_k02_tests_written) (n := 63) (k := 220 + 3) (x := "_law_script") (CX := L2.CX0) (sp := fun K => DN.spL K M02.fN M02.nF (M02.gF 110 10)) rfl (by decide) rfl ⟨rfl, by decide, by decide⟩ (fun w h Y => PySem.W.kIn_of Y) (ts := []) (fun w h Y P hP => by cases hP) ?F (fun K H a ns hl hO hS cA => DN.law_sp hO hS (M02.main ns hl)) (fun _ _ _ _ z => z)
  case F =>
    intro w mg fa h KX G hmg
    refine DN.law_of ?_
    refine' M02.all_mk KX G hmg ?kkxa1 ?kkxb1 ?kka0 ?kka1 ?kka2 ?kka3 ?kka4 ?kka5 ?kka6 ?kka7 ?kka8 ?kkc0 ?kkc1 ?kkc2 ?kkc3 ?kkc4 ?kkc5 ?kkc6 ?kkc7 ?kkc8 ?kko1 ?kko2 ?kke3 ?kkf3 ?kkI3 ?kkn3_0 ?kke4 ?kkf4 ?kkI4 ?kkn4_0 ?kke5 ?kkf5 ?kkI5 ?kkn5_0 ?kkn5_1 ?kke6 ?kkf6 ?kkI6 ?kkn6_0 ?kkn6_1 ?kkn7_0 ?kkn7_1 ?kke8 ?kkf8 ?kkI8 ?kkn8_0 ?kkn8_1 ?kkb0 ?kkD0 ?kkb1 ?kkD1 ?kkb2 ?kkD2 ?kkb3 ?kkD3 ?kkb4 ?kkD4 ?kkb5 ?kkD5 ?kkb6 ?kkD6 ?kkb7 ?kkD7 ?kkb8 ?kkD8 ?kkb9 ?kkD9 ?kkb10 ?kkD10 ?kkm11_1 ?kkg11 ?kkD11 ?kkm12_1 ?kkg12 ?kkD12 ?kkm13_2 ?kkg13 ?kkD13 ?kkm14_2 ?kkg14 ?kkD14 ?kkm15_3 ?kkg15 ?kkD15 ?kkm16_3 ?kkg16 ?kkD16 ?kkm17_4 ?kkg17 ?kkD17 ?kkm18_4 ?kkg18 ?kkD18 ?kkm19_5 ?kkg19 ?kkD19 ?kkm20_5 ?kkg20 ?kkD20 ?kkm21_6 ?kkg21 ?kkD21 ?kkm22_6 ?kkg22 ?kkD22 ?kkm23_7 ?kkm23_8 ?kkg23 ?kkD23 ?kkm24_7 ?kkm24_8 ?kkg24 ?kkD24 ?kkm25_8 ?kkg25 ?kkD25 ?kkm26_8 ?kkg26 ?kkD26 ?kkm27_8 ?kkg27 ?kkD27 ?kkm28_8 ?kkg28 ?kkD28 ?kkwBoth_0 ?kkwBoth_1 ?kkwBoth_2 ?kkwBoth_3 ?kkwBoth_4 ?kkwBoth_5 ?kkwBoth_6 ?kkwBoth_10 ?kkwBoth_11 ?kkwBoth_12 ?kkwBoth_13 ?kkwBoth_14 ?kkwBoth_15 ?kkwBoth_16 ?kkwBoth_17 ?kkwBoth_18 ?kkwEither_0 ?kkwEither_1 ?kkwEither_2 ?kkwEither_3 ?kkwEither_4 ?kkwEither_5 ?kkwEither_6 ?kkwEither_10 ?kkwEither_11 ?kkwEither_12 ?kkwEither_13 ?kkwEither_14 ?kkwEither_15 ?kkwEither_16 ?kkwEither_17 ?kkwEither_18 ?kkwNamed_0 ?kkwNamed_1 ?kkwNamed_2 ?kkwNamed_3 ?kkwNamed_4 ?kkwNamed_5 ?kkwNamed_6 ?kkwNamed_10 ?kkwNamed_11 ?kkwNamed_12 ?kkwNamed_13 ?kkwNamed_14 ?kkwNamed_15 ?kkwNamed_16 ?kkwNamed_17 ?kkwNamed_18 ?kkwNo_0 ?kkwNo_1 ?kkwNo_2 ?kkwNo_3 ?kkwNo_4 ?kkwNo_5 ?kkwNo_6 ?kkwNo_10 ?kkwNo_11 ?kkwNo_12 ?kkwNo_13 ?kkwNo_14 ?kkwNo_15 ?kkwNo_16 ?kkwNo_17 ?kkwNo_18 ?kkwNot_0 ?kkwNot_1 ?kkwNot_2 ?kkwNot_3 ?kkwNot_4 ?kkwNot_5 ?kkwNot_6 ?kkwNot_10 ?kkwNot_11 ?kkwNot_12 ?kkwNot_13 ?kkwNot_14 ?kkwNot_15 ?kkwNot_16 ?kkwNot_17 ?kkwNot_18 ?kkwYes_0 ?kkwYes_1 ?kkwYes_2 ?kkwYes_3 ?kkwYes_4 ?kkwYes_5 ?kkwYes_6 ?kkwYes_10 ?kkwYes_11 ?kkwYes_12 ?kkwYes_13 ?kkwYes_14 ?kkwYes_15 ?kkwYes_16 ?kkwYes_17 ?kkwYes_18 ?kkbxLETTERS ?kklxLETTERS ?kkbxMOST_WORDS ?kkzisinstance ?kkzlen ?kkzlist
    (case kkxa1 => k_is)
    (case kkxb1 => k_exc)
    (case kka0 => k_is)
    (case kka1 => k_is)
    (case kka2 => k_is)
    (case kka3 => k_is)
    (case kka4 => k_is)
    (case kka5 => k_is)
    (case kka6 => k_is)
    (case kka7 => k_is)
    (case kka8 => k_is)
    (case kkc0 => exact ⟨by k_is, by k_is, by k_is, by k_is, by k_is, by k_is, by k_is, by k_is, by k_is, by k_is⟩)
    (case kkc1 => exact ⟨by k_is, by k_is, by k_is, by k_is, by k_is, by k_is, by k_is, by k_is, by k_is, by k_is⟩)
    (case kkc2 => exact ⟨by k_is, by k_is, by k_is, by k_is, by k_is, by k_is, by k_is, by k_is, by k_is, by k_is⟩)
    (case kkc3 => exact ⟨by k_is, by k_is, by k_is, by k_is, by k_is, by k_is, by k_is, by k_is, by k_is, by k_is⟩)
    (case kkc4 => exact ⟨by k_is, by k_is, by k_is, by k_is, by k_is, by k_is, by k_is, by k_is, by k_is, by k_is⟩)
    (case kkc5 => exact ⟨by k_is, by k_is, by k_is, by k_is, by k_is, by k_is, by k_is, by k_is, by k_is, by k_is⟩)
    (case kkc6 => exact ⟨by k_is, by k_is, by k_is, by k_is, by k_is, by k_is, by k_is, by k_is, by k_is, by k_is⟩)
    (case kkc7 => exact ⟨by k_is, by k_is, by k_is, by k_is, by k_is, by k_is, by k_is, by k_is, by k_is, by k_is⟩)
    (case kkc8 => exact ⟨by k_is, by k_is, by k_is, by k_is, by k_is, by k_is, by k_is, by k_is, by k_is, by k_is⟩)
    (case kko1 => k_is)
    (case kko2 => k_is)
    (case kke3 => k_is)
    (case kkf3 => k_is)
    (case kkI3 => (refine' L2.fnf_mk ?l ?c ?k; (case l => k_is); (case c => k_is); (case k => k_is)))
    (case kkn3_0 => k_is)
    (case kke4 => k_is)
    (case kkf4 => k_is)
    (case kkI4 => (refine' L2.fnf_mk ?l ?c ?k; (case l => k_is); (case c => k_is); (case k => k_is)))
    (case kkn4_0 => k_is)
    (case kke5 => k_is)
    (case kkf5 => k_is)
    (case kkI5 => (refine' L2.fnf_mk ?l ?c ?k; (case l => k_is); (case c => k_is); (case k => k_is)))
    (case kkn5_0 => k_is)
    (case kkn5_1 => k_is)
    (case kke6 => k_is)
    (case kkf6 => k_is)
    (case kkI6 => (refine' L2.fnf_mk ?l ?c ?k; (case l => k_is); (case c => k_is); (case k => k_is)))
    (case kkn6_0 => k_is)
    (case kkn6_1 => k_is)
    (case kkn7_0 => k_is)
    (case kkn7_1 => k_is)
    (case kke8 => k_is)
    (case kkf8 => k_is)
    (case kkI8 => (refine' L2.fnf_mk ?l ?c ?k; (case l => k_is); (case c => k_is); (case k => k_is)))
    (case kkn8_0 => k_is)
    (case kkn8_1 => k_is)
    (case kkb0 => k_is)
    (case kkD0 => (refine' L2.fnf_mk ?l ?c ?k; (case l => k_is); (case c => k_is); (case k => k_is)))
    (case kkb1 => k_is)
    (case kkD1 => (refine' L2.fnf_mk ?l ?c ?k; (case l => k_is); (case c => k_is); (case k => k_is)))
    (case kkb2 => k_is)
    (case kkD2 => (refine' L2.fnf_mk ?l ?c ?k; (case l => k_is); (case c => k_is); (case k => k_is)))
    (case kkb3 => k_is)
    (case kkD3 => (refine' L2.fnf_mk ?l ?c ?k; (case l => k_is); (case c => k_is); (case k => k_is)))
    (case kkb4 => k_is)
    (case kkD4 => (refine' L2.fnf_mk ?l ?c ?k; (case l => k_is); (case c => k_is); (case k => k_is)))
    (case kkb5 => k_is)
    (case kkD5 => (refine' L2.fnf_mk ?l ?c ?k; (case l => k_is); (case c => k_is); (case k => k_is)))
    (case kkb6 => k_is)
    (case kkD6 => (refine' L2.fnf_mk ?l ?c ?k; (case l => k_is); (case c => k_is); (case k => k_is)))
    (case kkb7 => k_is)
    (case kkD7 => (refine' L2.fnf_mk ?l ?c ?k; (case l => k_is); (case c => k_is); (case k => k_is)))
    (case kkb8 => k_is)
    (case kkD8 => (refine' L2.fnf_mk ?l ?c ?k; (case l => k_is); (case c => k_is); (case k => k_is)))
    (case kkb9 => k_is)
    (case kkD9 => (refine' L2.fnf_mk ?l ?c ?k; (case l => k_is); (case c => k_is); (case k => k_is)))
    (case kkb10 => k_is)
    (case kkD10 => (refine' L2.fnf_mk ?l ?c ?k; (case l => k_is); (case c => k_is); (case k => k_is)))
    (case kkm11_1 => k_is)
    (case kkg11 => k_is)
    (case kkD11 => (refine' L2.fnf_mk ?l ?c ?k; (case l => k_is); (case c => k_is); (case k => k_is)))
    (case kkm12_1 => k_is)
    (case kkg12 => k_is)
    (case kkD12 => (refine' L2.fnf_mk ?l ?c ?k; (case l => k_is); (case c => k_is); (case k => k_is)))
    (case kkm13_2 => k_is)
    (case kkg13 => k_is)
    (case kkD13 => (refine' L2.fnf_mk ?l ?c ?k; (case l => k_is); (case c => k_is); (case k => k_is)))
    (case kkm14_2 => k_is)
    (case kkg14 => k_is)
    (case kkD14 => (refine' L2.fnf_mk ?l ?c ?k; (case l => k_is); (case c => k_is); (case k => k_is)))
    (case kkm15_3 => k_is)
    (case kkg15 => k_is)
    (case kkD15 => (refine' L2.fnf_mk ?l ?c ?k; (case l => k_is); (case c => k_is); (case k => k_is)))
    (case kkm16_3 => k_is)
    (case kkg16 => k_is)
    (case kkD16 => (refine' L2.fnf_mk ?l ?c ?k; (case l => k_is); (case c => k_is); (case k => k_is)))
    (case kkm17_4 => k_is)
    (case kkg17 => k_is)
    (case kkD17 => (refine' L2.fnf_mk ?l ?c ?k; (case l => k_is); (case c => k_is); (case k => k_is)))
    (case kkm18_4 => k_is)
    (case kkg18 => k_is)
    (case kkD18 => (refine' L2.fnf_mk ?l ?c ?k; (case l => k_is); (case c => k_is); (case k => k_is)))
    (case kkm19_5 => k_is)
    (case kkg19 => k_is)
    (case kkD19 => (refine' L2.fnf_mk ?l ?c ?k; (case l => k_is); (case c => k_is); (case k => k_is)))
    (case kkm20_5 => k_is)
    (case kkg20 => k_is)
    (case kkD20 => (refine' L2.fnf_mk ?l ?c ?k; (case l => k_is); (case c => k_is); (case k => k_is)))
    (case kkm21_6 => k_is)
    (case kkg21 => k_is)
    (case kkD21 => (refine' L2.fnf_mk ?l ?c ?k; (case l => k_is); (case c => k_is); (case k => k_is)))
    (case kkm22_6 => k_is)
    (case kkg22 => k_is)
    (case kkD22 => (refine' L2.fnf_mk ?l ?c ?k; (case l => k_is); (case c => k_is); (case k => k_is)))
    (case kkm23_7 => k_is)
    (case kkm23_8 => k_is)
    (case kkg23 => k_is)
    (case kkD23 => (refine' L2.fnf_mk ?l ?c ?k; (case l => k_is); (case c => k_is); (case k => k_is)))
    (case kkm24_7 => k_is)
    (case kkm24_8 => k_is)
    (case kkg24 => k_is)
    (case kkD24 => (refine' L2.fnf_mk ?l ?c ?k; (case l => k_is); (case c => k_is); (case k => k_is)))
    (case kkm25_8 => k_is)
    (case kkg25 => k_is)
    (case kkD25 => (refine' L2.fnf_mk ?l ?c ?k; (case l => k_is); (case c => k_is); (case k => k_is)))
    (case kkm26_8 => k_is)
    (case kkg26 => k_is)
    (case kkD26 => (refine' L2.fnf_mk ?l ?c ?k; (case l => k_is); (case c => k_is); (case k => k_is)))
    (case kkm27_8 => k_is)
    (case kkg27 => k_is)
    (case kkD27 => (refine' L2.fnf_mk ?l ?c ?k; (case l => k_is); (case c => k_is); (case k => k_is)))
    (case kkm28_8 => k_is)
    (case kkg28 => k_is)
    (case kkD28 => (refine' L2.fnf_mk ?l ?c ?k; (case l => k_is); (case c => k_is); (case k => k_is)))
    (case kkwBoth_0 => kit_is)
    (case kkwBoth_1 => kit_is)
    (case kkwBoth_2 => kit_is)
    (case kkwBoth_3 => kit_is)
    (case kkwBoth_4 => kit_is)
    (case kkwBoth_5 => kit_is)
    (case kkwBoth_6 => kit_is)
    (case kkwBoth_10 => kit_is)
    (case kkwBoth_11 => kit_is)
    (case kkwBoth_12 => kit_is)
    (case kkwBoth_13 => kit_is)
    (case kkwBoth_14 => kit_is)
    (case kkwBoth_15 => kit_is)
    (case kkwBoth_16 => kit_is)
    (case kkwBoth_17 => kit_is)
    (case kkwBoth_18 => kit_is)
    (case kkwEither_0 => kit_is)
    (case kkwEither_1 => kit_is)
    (case kkwEither_2 => kit_is)
    (case kkwEither_3 => kit_is)
    (case kkwEither_4 => kit_is)
    (case kkwEither_5 => kit_is)
    (case kkwEither_6 => kit_is)
    (case kkwEither_10 => kit_is)
    (case kkwEither_11 => kit_is)
    (case kkwEither_12 => kit_is)
    (case kkwEither_13 => kit_is)
    (case kkwEither_14 => kit_is)
    (case kkwEither_15 => kit_is)
    (case kkwEither_16 => kit_is)
    (case kkwEither_17 => kit_is)
    (case kkwEither_18 => kit_is)
    (case kkwNamed_0 => kit_is)
    (case kkwNamed_1 => kit_is)
    (case kkwNamed_2 => kit_is)
    (case kkwNamed_3 => kit_is)
    (case kkwNamed_4 => kit_is)
    (case kkwNamed_5 => kit_is)
    (case kkwNamed_6 => kit_is)
    (case kkwNamed_10 => kit_is)
    (case kkwNamed_11 => kit_is)
    (case kkwNamed_12 => kit_is)
    (case kkwNamed_13 => kit_is)
    (case kkwNamed_14 => kit_is)
    (case kkwNamed_15 => kit_is)
    (case kkwNamed_16 => kit_is)
    (case kkwNamed_17 => kit_is)
    (case kkwNamed_18 => kit_is)
    (case kkwNo_0 => kit_is)
    (case kkwNo_1 => kit_is)
    (case kkwNo_2 => kit_is)
    (case kkwNo_3 => kit_is)
    (case kkwNo_4 => kit_is)
    (case kkwNo_5 => kit_is)
    (case kkwNo_6 => kit_is)
    (case kkwNo_10 => kit_is)
    (case kkwNo_11 => kit_is)
    (case kkwNo_12 => kit_is)
    (case kkwNo_13 => kit_is)
    (case kkwNo_14 => kit_is)
    (case kkwNo_15 => kit_is)
    (case kkwNo_16 => kit_is)
    (case kkwNo_17 => kit_is)
    (case kkwNo_18 => kit_is)
    (case kkwNot_0 => kit_is)
    (case kkwNot_1 => kit_is)
    (case kkwNot_2 => kit_is)
    (case kkwNot_3 => kit_is)
    (case kkwNot_4 => kit_is)
    (case kkwNot_5 => kit_is)
    (case kkwNot_6 => kit_is)
    (case kkwNot_10 => kit_is)
    (case kkwNot_11 => kit_is)
    (case kkwNot_12 => kit_is)
    (case kkwNot_13 => kit_is)
    (case kkwNot_14 => kit_is)
    (case kkwNot_15 => kit_is)
    (case kkwNot_16 => kit_is)
    (case kkwNot_17 => kit_is)
    (case kkwNot_18 => kit_is)
    (case kkwYes_0 => kit_is)
    (case kkwYes_1 => kit_is)
    (case kkwYes_2 => kit_is)
    (case kkwYes_3 => kit_is)
    (case kkwYes_4 => kit_is)
    (case kkwYes_5 => kit_is)
    (case kkwYes_6 => kit_is)
    (case kkwYes_10 => kit_is)
    (case kkwYes_11 => kit_is)
    (case kkwYes_12 => kit_is)
    (case kkwYes_13 => kit_is)
    (case kkwYes_14 => kit_is)
    (case kkwYes_15 => kit_is)
    (case kkwYes_16 => kit_is)
    (case kkwYes_17 => kit_is)
    (case kkwYes_18 => kit_is)
    (case kkbxLETTERS => k_is)
    (case kklxLETTERS => k_is)
    (case kkbxMOST_WORDS => k_is)
    (case kkzisinstance => k_is)
    (case kkzlen => k_is)
    (case kkzlist => k_is)
#print axioms PySem.Challenge.cw_anymeaning_k02_tests_written_holds
end
