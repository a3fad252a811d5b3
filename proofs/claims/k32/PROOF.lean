import PyProof.Rows.All
import Wide.All
import OpenK.AllK
import Wide.FinOn
import Lean
import PyProof.EqAt
import PyProof.EqKinds
import PyProof.TupleCall
import PyProof.CompFree
import PyProof.NeKinds
import PyProof.Rows.SumAny
import KE.KNest
import KE.KLam
import KE.KNestM
import KE.LcSums
import PyProof.EnumFor
import PyProof.EnumMake
import PyProof.EnumStmt
import PyProof.CompUse
import PyProof.RulesTry
import PyProof.StrCalls2
import PyProof.StrCalls5
import PyProof.StrLawsTight
import PyProof.Rows.StrNews2
import PyProof.Rows.StrItems
import KE.KRevIter
import PyProof.PureStr
import PyProof.SliceStr2
import PyProof.StrLawsIdx
import PyProof.WalkInts
import PyProof.SeqI3
import PySem.Challenge.RW_anymeaning_k32_one_loop
section
set_option Elab.async false
set_option linter.all false
set_option maxRecDepth 100000
/-! THE HAND LAYER, for ints, bools, texts, own classes, LISTS and tuples (index, slices, in, append, pop ..), calls, loops. Paste it whole ahead of your own text; what your proof does not reach may be deleted. -/
namespace L2
open PySem PySem.Spec PyProof.Rows
/-- a key: an int or a str -/
abbrev Key := Sum Int Str
def keyIs : Key → Value → Bool
  | .inl k, v => Value.isInt k v
  | .inr x, v => Value.isStrOf x v
def keyH (w : World) : Key → Int
  | .inl k => hashInt k
  | .inr x => hashStr w x
theorem keyIs_shape : ∀ {k : Key} {v : Value}, keyIs k v = true → (∃ i t, k = Sum.inl i ∧ v = Value.int i t) ∨ (∃ x t, k = Sum.inr x ∧ v = Value.str x t)
  | .inl i, v, h => by
    obtain ⟨t, e⟩ := Value.isInt_shape (k := i) (v := v) h
    exact .inl ⟨i, t, rfl, e⟩
  | .inr x, v, h => by
    obtain ⟨t, e⟩ := Value.isStrOf_shape (x := x) (v := v) h
    exact .inr ⟨x, t, rfl, e⟩
theorem key_ll (a b : Int) : decide ((Sum.inl a : Key) = Sum.inl b) = (a == b) := by
  by_cases e : a = b
  · subst e; simp
  · have h : ¬ (Sum.inl a : Key) = Sum.inl b := fun q => e (Sum.inl.inj q)
    rw [decide_eq_false h]
    exact (beq_eq_false_iff_ne.mpr e).symm
theorem key_rr (a b : Str) : decide ((Sum.inr a : Key) = Sum.inr b) = decide (a = b) := by
  by_cases e : a = b
  · subst e; simp
  · have h : ¬ (Sum.inr a : Key) = Sum.inr b := fun q => e (Sum.inr.inj q)
    rw [decide_eq_false h, decide_eq_false e]
theorem key_lr (a : Int) (b : Str) : decide ((Sum.inl a : Key) = Sum.inr b) = false := decide_eq_false (fun q => nomatch q)
theorem key_rl (a : Str) (b : Int) : decide ((Sum.inr a : Key) = Sum.inl b) = false := decide_eq_false (fun q => nomatch q)
def mixKind (prog : Program) (w : World) : PySem.KeyKind prog w Key where
  is := keyIs
  hash := keyH w
  inj := fun v a b ha hb => by
    rcases keyIs_shape ha with ⟨i, t, rfl, rfl⟩ | ⟨x, t, rfl, rfl⟩
    · rcases keyIs_shape hb with ⟨j, u, rfl, e⟩ | ⟨y, u, rfl, e⟩
      · injection e with e1 _; rw [e1]
      · exact nomatch e
    · rcases keyIs_shape hb with ⟨j, u, rfl, e⟩ | ⟨y, u, rfl, e⟩
      · exact nomatch e
      · injection e with e1 _; rw [e1]
  byValue := fun k v h => by
    rcases keyIs_shape h with ⟨i, t, rfl, rfl⟩ | ⟨x, t, rfl, rfl⟩ <;> rfl
  pyHash := fun hv h => by
    rcases keyIs_shape hv with ⟨i, t, rfl, rfl⟩ | ⟨x, t, rfl, rfl⟩
    · exact wpAny_pyHash_int h
    · exact wpAny_pyHash_str h
  eqBool := fun hu hv h => by
    rcases keyIs_shape hu with ⟨i, t, rfl, rfl⟩ | ⟨x, t, rfl, rfl⟩
    · rcases keyIs_shape hv with ⟨j, u, rfl, rfl⟩ | ⟨y, u, rfl, rfl⟩
      · rw [key_ll] at h; exact wpAny_eqBool_int h
      · rw [key_lr] at h; exact SeqAt.EqAt.int_str i t y u _ _ _ _ h
    · rcases keyIs_shape hv with ⟨j, u, rfl, rfl⟩ | ⟨y, u, rfl, rfl⟩
      · rw [key_rl] at h; exact SeqAt.EqAt.str_int x t j u _ _ _ _ h
      · rw [key_rr] at h; exact wpAny_eqBool_str h
  «strs» := fun k x t v h => by
    rcases keyIs_shape h with ⟨i, u, rfl, e⟩ | ⟨y, u, rfl, e⟩
    · exact nomatch e
    · injection e with e1 _
      subst e1
      cases v <;> rfl
end L2
namespace L2
open PySem PySem.Spec PyProof.Rows
/-- a value, without the heap -/
inductive V where
  | non | bl (b : Bool) | int (i : Int) | str (x : Str) | byt (b : Array UInt8) | flt (b : UInt64) | ref (a : Addr) | ty (n : String)
  deriving DecidableEq
def RelV : V → Value → Prop
  | .non, u => u = Value.none
  | .bl b, u => u = Value.bool b
  | .int i, u => ∃ t, u = Value.int i t
  | .str x, u => ∃ t, u = Value.str x t
  | .byt b, u => ∃ t, u = Value.bytes b t
  | .flt b, u => ∃ t, u = Value.float b t
  | .ref a, u => u = Value.ref a
  | .ty n, u => u = Value.type n
abbrev Vals : List V → List Value → Prop := Paired RelV
theorem Vals.length {xs : List V} {us : List Value} (r : Vals xs us) : xs.length = us.length := Paired.length r
theorem Vals.get : ∀ {xs : List V} {us : List Value} {i : Nat} {x : V}, Vals xs us → xs[i]? = some x → ∃ u, us[i]? = some u ∧ RelV x u
  | _, _, _, _, .nil, e => by simp at e
  | _, _, 0, _, .cons r _, e => by simp at e; subst e; exact ⟨_, rfl, r⟩
  | _, _, i + 1, x, .cons _ t, e => by
    obtain ⟨u, h1, h2⟩ := Vals.get (i := i) (x := x) t (by simpa using e)
    exact ⟨u, by simpa using h1, h2⟩
theorem Vals.set {x : V} {u : Value} (r : RelV x u) : ∀ {xs : List V} {us : List Value} (i : Nat), Vals xs us → Vals (xs.set i x) (us.set i u)
  | _, _, _, .nil => .nil
  | _, _, 0, .cons _ t => .cons r t
  | _, _, i + 1, .cons q t => .cons q (Vals.set r i t)
theorem Vals.append : ∀ {xs ys : List V} {us ws : List Value}, Vals xs us → Vals ys ws → Vals (xs ++ ys) (us ++ ws)
  | _, _, _, _, .nil, s => s
  | _, _, _, _, .cons r t, s => .cons r (Vals.append t s)
theorem Vals.take : ∀ {xs : List V} {us : List Value} (n : Nat), Vals xs us → Vals (xs.take n) (us.take n)
  | _, _, 0, _ => .nil
  | _, _, _ + 1, .nil => .nil
  | _, _, n + 1, .cons r t => .cons r (Vals.take n t)
theorem Vals.drop : ∀ {xs : List V} {us : List Value} (n : Nat), Vals xs us → Vals (xs.drop n) (us.drop n)
  | _, _, 0, r => r
  | _, _, _ + 1, .nil => .nil
  | _, _, n + 1, .cons _ t => Vals.drop n t
theorem Vals.none_of : ∀ {xs : List V} {us : List Value} {i : Nat}, Vals xs us → xs[i]? = none → us[i]? = none := fun {xs us i} r e => by
  have h1 := r.length
  have h2 : xs.length ≤ i := List.getElem?_eq_none_iff.mp e
  exact List.getElem?_eq_none_iff.mpr (by omega)
def RelO : Option V → Option Value → Prop
  | some v, some u => RelV v u
  | none, none => True
  | _, _ => False
def KV {κ : Type} : List (κ × V) → List (κ × Value) → Prop := Paired fun (p : κ × V) (q : κ × Value) => p.1 = q.1 ∧ RelV p.2 q.2
/-- a key of a dict (00_mix): an int or a text -/
def kV : Key → V
  | .inl i => .int i
  | .inr x => .str x
/-- what stands at a tracked address -/
inductive HO where
  /-- a list -/
  | lst (xs : List V)
  /-- a tuple (never changes) -/
  | tup (xs : List V)
  /-- a dict whose keys are ints and texts; one whose keys are tuples of ints and texts (the empty one is both) -/
  | dK (kvs : List (Key × V)) | dT (kvs : List (List Key × V))
  /-- a set of ints: its members, its size -/
  | set (S : Int → Bool) (n : Nat)
  /-- an instance of the class at C, its dict at dx, its attributes -/
  | ins (C dx : Addr) (fs : List (Str × V))
  /-- the dict of the instance at x -/
  | own (x : Addr)
  /-- the dict of an exception -/
  | xd (fs : List (Str × V))
  /-- a bound method, f of x -/
  | met (f x : Addr)
  /-- a range object lo, lo + 1, .. below hi -/
  | rng (lo hi : Int)
  /-- a thing that is known to the object (the script; a dict while a loop walks it): read, never written while it is so -/
  | frz (o : Obj) (u : HO)
  /-- a code object's table -/
  | tbl (q : Nat)
  /-- any other thing, by what is true of its one object (a def of one's own: SetO a S n := HO.ext fun h => ..) -/
  | ext (φ : Heap → Prop)
abbrev Hp := Addr → Option HO
def upd (H : Hp) (a : Addr) (o : HO) : Hp := fun b => if b = a then some o else H b
theorem upd_same {H : Hp} {a : Addr} {o : HO} : upd H a o a = some o := by unfold upd; rw [if_pos rfl]
theorem upd_ne {H : Hp} {a b : Addr} {o : HO} (h : b ≠ a) : upd H a o b = H b := by unfold upd; rw [if_neg h]
theorem upd_upd {H : Hp} {a : Addr} {o u : HO} : upd (upd H a o) a u = upd H a u := by
  funext b; unfold upd; split <;> rfl
theorem ne_of_none {H : Hp} {a b : Addr} {o : HO} (h : H a = some o) (h' : H b = none) : a ≠ b := by
  intro e; subst e; rw [h] at h'; cases h'
/-- a code object: its name for frames stands in it -/
def CodeO (o : Obj) : Prop := ∃ (vs : Array Value) (q : Str) (t : Tok), o.data = .fields vs ∧ vs[1]? = some (.str q t)
section
variable (P : Program) (w : World)
def ObjOk (H : Hp) (h : Heap) (a : Addr) : HO → Prop
  | .lst xs => xs.length ≤ sizeLine ∧ ∃ (its : List Value) (n : Nat), Vals xs its ∧ h.get? a = some { cls := .type "list", data := .seq its.toArray n }
  | .tup xs => xs.length ≤ sizeLine ∧ ∃ its : List Value, Vals xs its ∧ IsTup h a its.toArray
  | .dK kvs => kvs.length ≤ sizeLine ∧ (a == sysModules) = false ∧ ∃ vs, KV kvs vs ∧ h.DictOf (mixKind P w) a vs
  | .dT kvs => kvs.length ≤ sizeLine ∧ (a == sysModules) = false ∧ ∃ xs : List (List Key × Addr × Value),
      Paired (fun (p : List Key × V) (q : List Key × Addr × Value) => p.1 = q.1 ∧ H q.2.1 = some (.tup (p.1.map kV)) ∧ RelV p.2 q.2.2) kvs xs ∧
      ∃ o es ep, h.get? a = some o ∧ o.ExactDict ∧ o.data = .dict es ep ∧ es.toList = xs.map (entryOfKey (tupleKind (mixKind P w))) ∧ (xs.map (·.1)).Nodup
  | .set S n => h.SetOf (intKind P w) a S n
  | .ins C dx fs => H dx = some (.own a) ∧ fs.length ≤ 1000 ∧ dx ≠ a ∧ h.get? a = some (PySem.W.instObj C dx) ∧
      ∃ mA, h.Ns1 dx mA ∧ (∀ f, RelO (fs.lookup f) (mA f)) ∧ PySem.Within mA (fs.map (·.1))
  | .own _ => ∃ o, h.get? a = some o
  | .xd fs => ∃ mA, h.Ns1 a mA ∧ ∀ f, RelO (fs.lookup f) (mA f)
  | .rng lo hi => ∃ t u v, h.get? a = some { cls := .type "range", data := .fields #[.int lo t, .int hi u, .int 1 v] }
  | .frz o u => h.get? a = some o ∧ ObjOk H h a u
  | .tbl _ => ∃ ps : Array Value, h.get? a = some (PySem.W.tabObj ps) ∧ TriplesOk ps.toList ∧ ∀ pos cv, codeAmong pos ps.toList = some cv → ∃ c oc u, cv = .ref c ∧ H c = some (.frz oc u) ∧ CodeO oc
  | .met f x => h.get? a = some (PySem.W.methodObj (.ref f) (.ref x))
  | .ext φ => φ h ∧ (∃ o, h.get? a = some o) ∧ ∀ h1 h2 : Heap, φ h1 → (∀ o, h1.get? a = some o → h2.get? a = some o) → φ h2
/-- the abstract heap is held -/
def HOk (H : Hp) (h : Heap) : Prop := ∀ a o, H a = some o → ObjOk P w H h a o
end
section
variable {P : Program} {w : World} {H H' : Hp} {h h' : Heap} {a : Addr} {o : HO}
theorem ObjOk.lt (x : ObjOk P w H h a o) : a < h.objs.size := by
  cases o with
  | lst xs => obtain ⟨_, _, _, _, e⟩ := x; exact Heap.lt_size e
  | tup xs => obtain ⟨_, _, _, p⟩ := x; exact p.lt
  | dK kvs => obtain ⟨_, _, _, _, o, _, _, e, _⟩ := x; exact Heap.lt_size e
  | dT kvs => obtain ⟨_, _, _, _, o, _, _, e, _⟩ := x; exact Heap.lt_size e
  | set S n => obtain ⟨o, _, _, _, e, _⟩ := x; exact Heap.lt_size e
  | ins C dx fs => obtain ⟨_, _, _, e, _⟩ := x; exact Heap.lt_size e
  | own y => obtain ⟨_, e⟩ := x; exact Heap.lt_size e
  | xd fs => obtain ⟨_, ⟨_, _, _, e, _⟩, _⟩ := x; exact Heap.lt_size e
  | rng lo hi => obtain ⟨_, _, _, e⟩ := x; exact Heap.lt_size e
  | frz ob u => obtain ⟨e, _⟩ := x; exact Heap.lt_size e
  | tbl q => obtain ⟨_, e, _⟩ := x; exact Heap.lt_size e
  | met f y => exact Heap.lt_size (show h.get? a = some _ from x)
  | ext φ => obtain ⟨_, ⟨_, e⟩, _⟩ := x; exact Heap.lt_size e
theorem Paired.mapP {α β : Type} {F G : α → β → Prop} : ∀ {l₁ : List α} {l₂ : List β}, Paired F l₁ l₂ → (∀ a b, F a b → G a b) → Paired G l₁ l₂
  | _, _, .nil, _ => .nil
  | _, _, .cons r t, f => .cons (f _ _ r) (Paired.mapP t f)
/-- what an object's description leans on: its own object, its own dict, the tuples -/
theorem ObjOk.stay (x : ObjOk P w H h a o) (k : ∀ b u, (b = a ∨ H b = some (.own a)) → h.get? b = some u → h'.get? b = some u)
    (ho : ∀ b, H b = some (.own a) → H' b = some (.own a)) (ht : ∀ b xs, H b = some (.tup xs) → H' b = some (.tup xs)) (hz : ∀ b o u, H b = some (.frz o u) → H' b = some (.frz o u)) : ObjOk P w H' h' a o := by
  induction o with
  | lst xs => obtain ⟨z, its, n, r, e⟩ := x; exact ⟨z, its, n, r, k _ _ (.inl rfl) e⟩
  | tup xs => obtain ⟨z, its, r, ob, e, c⟩ := x; exact ⟨z, its, r, ob, k _ _ (.inl rfl) e, c⟩
  | dK kvs => obtain ⟨z, y, vs, r, ob, es, ep, e, c⟩ := x; exact ⟨z, y, vs, r, ob, es, ep, k _ _ (.inl rfl) e, c⟩
  | dT kvs =>
    obtain ⟨z, y, xs, r, ob, es, ep, e, c⟩ := x
    exact ⟨z, y, xs, Paired.mapP r fun p q z => ⟨z.1, ht _ _ z.2.1, z.2.2⟩, ob, es, ep, k _ _ (.inl rfl) e, c⟩
  | set S n => obtain ⟨ob, es, ep, t, e, c⟩ := x; exact ⟨ob, es, ep, t, k _ _ (.inl rfl) e, c⟩
  | ins C dx fs =>
    obtain ⟨d, z, ne, e, mA, ⟨od, es, ep, e2, c⟩, r⟩ := x
    exact ⟨ho _ d, z, ne, k _ _ (.inl rfl) e, mA, ⟨od, es, ep, k _ _ (.inr d) e2, c⟩, r⟩
  | own y => obtain ⟨ob, e⟩ := x; exact ⟨ob, k _ _ (.inl rfl) e⟩
  | xd fs => obtain ⟨mA, ⟨od, es, ep, e, c⟩, r⟩ := x; exact ⟨mA, ⟨od, es, ep, k _ _ (.inl rfl) e, c⟩, r⟩
  | rng lo hi => obtain ⟨t, u, v, e⟩ := x; exact ⟨t, u, v, k _ _ (.inl rfl) e⟩
  | frz ob u ih => obtain ⟨e, q⟩ := x; exact ⟨k _ _ (.inl rfl) e, ih q⟩
  | tbl q =>
    obtain ⟨ps, e, t, r⟩ := x
    exact ⟨ps, k a _ (.inl rfl) e, t, fun pos cv z => let ⟨c, oc, u, e1, e2, e3⟩ := r pos cv z; ⟨c, oc, u, e1, hz _ _ _ e2, e3⟩⟩
  | met f y =>
    have e : h.get? a = some (PySem.W.methodObj (.ref f) (.ref y)) := x
    show h'.get? a = some (PySem.W.methodObj (.ref f) (.ref y))
    exact k a _ (.inl rfl) e
  | ext φ => obtain ⟨p, ⟨o, e⟩, st⟩ := x; exact ⟨st _ _ p fun o q => k _ _ (.inl rfl) q, ⟨o, k _ _ (.inl rfl) e⟩, st⟩
theorem HOk.lt (x : HOk P w H h) (e : H a = some o) : a < h.objs.size := (x a o e).lt
theorem HOk.fresh (x : HOk P w H h) (e : h.objs.size ≤ a) : H a = none := by
  cases q : H a with
  | none => rfl
  | some u => exact absurd (Nat.lt_of_lt_of_le (x.lt q) e) (Nat.lt_irrefl _)
/-- every object of the heap is kept -/
theorem HOk.kept (x : HOk P w H h) (k : ∀ b u, h.get? b = some u → h'.get? b = some u) : HOk P w H h' := fun a o e =>
  (x a o e).stay (fun b u _ q => k b u q) (fun _ q => q) (fun _ _ q => q) fun _ _ _ q => q
/-- a new object is laid and tracked -/
theorem HOk.laid (x : HOk P w H h) (k : ∀ b u, h.get? b = some u → h'.get? b = some u) (hp : h.objs.size ≤ a) (new : ObjOk P w (upd H a o) h' a o) : HOk P w (upd H a o) h' := fun b u e => by
  have hn := x.fresh hp
  by_cases hb : b = a
  · subst hb; rw [upd_same] at e; cases e; exact new
  · rw [upd_ne hb] at e
    exact (x b u e).stay (fun c v _ q => k c v q) (fun c q => by rw [upd_ne (ne_of_none q hn)]; exact q) (fun c xs q => by rw [upd_ne (ne_of_none q hn)]; exact q) fun c o u q => by rw [upd_ne (ne_of_none q hn)]; exact q
end
/-- what may be read as u: it is u, or a known u -/
def Rd (H : Hp) (a : Addr) (u : HO) : Prop := H a = some u ∨ ∃ o, H a = some (.frz o u)
theorem Rd.of {H : Hp} {a : Addr} {u : HO} (h : H a = some u) : Rd H a u := .inl h
theorem Rd.ok {P : Program} {w : World} {H : Hp} {h : Heap} {a : Addr} {u : HO} (r : Rd H a u) (x : HOk P w H h) : ObjOk P w H h a u := by
  rcases r with r | ⟨o, r⟩
  · exact x a u r
  · obtain ⟨_, q⟩ := x a _ r
    exact q
/-- what may be written -/
def Mut : Option HO → Prop
  | some (.lst _) => True
  | some (.dK _) => True
  | some (.dT _) => True
  | some (.set _ _) => True
  | some (.ins _ _ _) => True
  | some (.ext _) => True
  | _ => False
section
variable {P : Program} {w : World} {H : Hp} {h h' : Heap} {x e : Addr} {o' : HO}
/-- the object at e is changed: x itself, or the dict of the instance x -/
theorem HOk.write (ok : HOk P w H h) (mu : Mut (H x)) (he : e = x ∨ H e = some (.own x)) (k : ∀ b u, b ≠ e → h.get? b = some u → h'.get? b = some u) (heo : ∃ u, h'.get? e = some u)
    (new : ObjOk P w (upd H x o') h' x o') : HOk P w (upd H x o') h' := fun b u q => by
  have nown : ∀ c y, H c = some (.own y) → c ≠ x := fun c y r z => by subst z; rw [r] at mu; exact mu
  have nfrz : ∀ c o u, H c = some (.frz o u) → c ≠ x := fun c o u r z => by subst z; rw [r] at mu; exact mu
  have ntup : ∀ c xs, H c = some (.tup xs) → c ≠ x := fun c xs r z => by subst z; rw [r] at mu; exact mu
  by_cases hb : b = x
  · subst hb; rw [upd_same] at q; cases q; exact new
  · rw [upd_ne hb] at q
    by_cases hbe : b = e
    · have q' : H b = some (.own x) := by
        rcases he with z | z
        · exact absurd (hbe.trans z) hb
        · rw [hbe]; exact z
      rw [q] at q'; cases q'
      obtain ⟨v, hv⟩ := heo
      exact ⟨v, by rw [hbe]; exact hv⟩
    · refine (ok b u q).stay (fun c v hc r => k c v ?_ r) (fun c r => by rw [upd_ne (nown c b r)]; exact r) (fun c xs r => by rw [upd_ne (ntup c xs r)]; exact r) fun c o u r => by rw [upd_ne (nfrz c o u r)]; exact r
      rcases hc with rfl | hc
      · exact hbe
      · rintro rfl
        rcases he with z | z
        · exact nown c b hc z
        · rw [hc] at z; cases z; exact hb rfl
end
/-! ### kept unless tracked; of the frames at fs (the callers') the slots may change (an exception that passes writes there); of the records at ex (iterators) nothing is said -/
structure Un (fs ex : List Addr) (H H' : Hp) (h h' : Heap) : Prop where
  keep : ∀ b o, h.get? b = some o → H b = none → b ∉ fs → b ∉ ex → h'.get? b = some o
  slot : ∀ b o, h.get? b = some o → H b = none → b ∈ fs → b ∉ ex → ∃ sl, h'.get? b = some { o with slots := sl }
  free : ∀ b o, h.get? b = some o → H b = none → b ∉ ex → H' b = none
  there : ∀ b o, h.get? b = some o → b ∉ ex → ∃ o', h'.get? b = some o'
  tups : ∀ b xs, H b = some (.tup xs) → H' b = some (.tup xs)
  frzs : ∀ b o u, H b = some (.frz o u) → H' b = some (.frz o u)
  tbls : ∀ b q, H b = some (.tbl q) → H' b = some (.tbl q)
section
variable {fs fs' ex ex' : List Addr} {H H1 H2 : Hp} {h h1 h2 h' : Heap} {a x e : Addr} {o : HO}
theorem Un.any (u : Un fs ex H H1 h h1) {b : Addr} {ob : Obj} (q : h.get? b = some ob) (n : H b = none) (hx : b ∉ ex) : ∃ sl, h1.get? b = some { ob with slots := sl } := by
  by_cases hb : b ∈ fs
  · exact u.slot b ob q n hb hx
  · exact ⟨ob.slots, u.keep b ob q n hb hx⟩
theorem Un.trans (a : Un fs ex H H1 h h1) (b : Un fs ex H1 H2 h1 h2) : Un fs ex H H2 h h2 where
  keep := fun c ob q n hc hx => b.keep c ob (a.keep c ob q n hc hx) (a.free c ob q n hx) hc hx
  slot := fun c ob q n hc hx => by
    obtain ⟨sl, e1⟩ := a.slot c ob q n hc hx
    obtain ⟨sl', e2⟩ := b.slot c _ e1 (a.free c ob q n hx) hc hx
    exact ⟨sl', e2⟩
  free := fun c ob q n hx => by
    obtain ⟨o', e1⟩ := a.there c ob q hx
    exact b.free c o' e1 (a.free c ob q n hx) hx
  there := fun c ob q hx => by
    obtain ⟨o', e1⟩ := a.there c ob q hx
    exact b.there c o' e1 hx
  tups := fun c xs q => b.tups c xs (a.tups c xs q)
  frzs := fun c ob xs q => b.frzs c ob xs (a.frzs c ob xs q)
  tbls := fun c ps q => b.tbls c ps (a.tbls c ps q)
theorem Un.kept (k : ∀ b u, h.get? b = some u → h'.get? b = some u) : Un fs ex H H h h' :=
  ⟨fun b ob q _ _ _ => k b ob q, fun b ob q _ _ _ => ⟨ob.slots, k b ob q⟩, fun _ _ _ n _ => n, fun b ob q _ => ⟨ob, k b ob q⟩, fun _ _ q => q, fun _ _ _ q => q, fun _ _ q => q⟩
theorem Un.refl : Un fs ex H H h h := Un.kept fun _ _ q => q
theorem Un.laid (k : ∀ b u, h.get? b = some u → h'.get? b = some u) (hp : h.objs.size ≤ a) (hn : H a = none) : Un fs ex H (upd H a o) h h' where
  keep := fun b u q _ _ _ => k b u q
  slot := fun b u q _ _ _ => ⟨u.slots, k b u q⟩
  free := fun b u q n _ => by rw [upd_ne (Nat.ne_of_lt (Nat.lt_of_lt_of_le (Heap.lt_size q) hp))]; exact n
  there := fun b u q _ => ⟨u, k b u q⟩
  tups := fun b xs q => by rw [upd_ne (ne_of_none q hn)]; exact q
  frzs := fun b u xs q => by rw [upd_ne (ne_of_none q hn)]; exact q
  tbls := fun b ps q => by rw [upd_ne (ne_of_none q hn)]; exact q
theorem Un.write (mu : Mut (H x)) (he : e = x ∨ H e = some (.own x)) (k : ∀ b u, b ≠ e → h.get? b = some u → h'.get? b = some u) (heo : ∃ u, h'.get? e = some u) : Un fs ex H (upd H x o) h h' := by
  have hx : ∀ b, H b = none → b ≠ x := fun b n z => by subst z; rw [n] at mu; exact mu
  have hb : ∀ b, H b = none → b ≠ e := fun b n z => by
    subst z
    rcases he with r | r
    · exact hx b n r
    · rw [n] at r; cases r
  have hm : ∀ b u, H b = some u → ¬ Mut (some u) → b ≠ x := fun b u q nm z => by subst z; rw [q] at mu; exact nm mu
  refine ⟨fun b u q n _ _ => k b u (hb b n) q, fun b u q n _ _ => ⟨u.slots, k b u (hb b n) q⟩, fun b u q n _ => by rw [upd_ne (hx b n)]; exact n, fun b u q _ => ?_,
    fun b xs q => by rw [upd_ne (hm b _ q fun z => z)]; exact q, fun b u xs q => by rw [upd_ne (hm b _ q fun z => z)]; exact q, fun b ps q => by rw [upd_ne (hm b _ q fun z => z)]; exact q⟩
  by_cases hbe : b = e
  · subst hbe; exact heo
  · exact ⟨u, k b u hbe q⟩
theorem Un.mono (u : Un fs ex H H1 h h1) (hs : ∀ b ∈ fs, b ∈ fs') (hx : ∀ b ∈ ex, b ∈ ex') : Un fs' ex' H H1 h h1 :=
  ⟨fun b ob q n hb he => u.keep b ob q n (fun z => hb (hs b z)) fun z => he (hx b z), fun _ _ q n _ he => u.any q n fun z => he (hx _ z), fun b ob q n he => u.free b ob q n fun z => he (hx b z), fun b ob q he => u.there b ob q fun z => he (hx b z), u.tups, u.frzs, u.tbls⟩
end
/-! ### the heap without what is tracked -/
def trk (h : Heap) (H : Hp) : List Addr := (List.range h.objs.size).filter fun a => (H a).isSome
def hidT (h : Heap) (H : Hp) : Heap := PySem.W.hideAll h (trk h H)
theorem hidT_size (h : Heap) (H : Hp) : (hidT h H).objs.size = h.objs.size := PySem.W.hideAll_size _ _
theorem hidT_get {h : Heap} {H : Hp} {b : Addr} {o : Obj} (e : h.get? b = some o) (n : H b = none) : (hidT h H).get? b = some o :=
  PySem.W.hideAll_get _ e fun hm => by
    have q : (H b).isSome = true := (List.mem_filter.mp hm).2
    rw [n] at q; simp at q
theorem of_hidT {h : Heap} {H : Hp} {b : Addr} {o : Obj} (e : (hidT h H).get? b = some o) : h.get? b = some o ∧ H b = none := by
  have e' : h.get? b = some o := PySem.W.of_hideAll (trk h H) e
  refine ⟨e', ?_⟩
  cases q : H b with
  | none => rfl
  | some x =>
    have hm : b ∈ trk h H := List.mem_filter.mpr ⟨List.mem_range.mpr (Heap.lt_size e'), by simp [q]⟩
    have z : (hidT h H).get? b = none := PySem.W.hideAll_none (trk h H) hm
    rw [z] at e; cases e
/-! ### OpenK's ledger, filled with every new object but one -/
def allNews (g h : Heap) (L : Addr) : List (Addr × Obj) := (List.range h.objs.size).filterMap fun a => if a = L ∨ (g.get? a).isSome = true then none else (h.get? a).map fun o => (a, o)
def rest (g h : Heap) (L d : Addr) : List (Addr × Obj) := (allNews g h L).filter fun p => decide (p.1 ≠ d)
end L2
namespace L2
open PySem PySem.Spec PyProof.Rows
/-- the base; the tables of code objects that are tracked -/
structure Bs extends Heap where
  tabs : List Addr
instance : Coe Bs Heap := ⟨Bs.toHeap⟩
/-- the module's facts, over the base: the heap at the law's entry without what is tracked there -/
structure Mod (K : PySem.W.Frag) (mg : Str → Option Value) (base : Bs) : Prop where
  kin : K.In base
  glob : base.Ns mainGlobals mg
  blt : ∃ mb, base.Ns builtinsNs mb ∧ ∀ x : Str, x ≠ "__name__" → mb x = bootBuiltins x
  nolimit : base.NoLimit
  bmain : ∃ bm ob, mg "__builtins__" = some (.ref bm) ∧ bm ≠ builtinsNs ∧ base.get? bm = some ob ∧ ob.cls = .type "module" ∧ ob.dict = some builtinsNs ∧ ob.data = .plain
/-- the context: a def's body (or a comprehension's block) running. base: fixed through the whole law; s₀, H₀: the entry; outer: the frames whose slots others may change (a def's callers); stack: all frames that run;
   ex: iterators that were made ahead of the entry and are walked here (a comprehension's); fn: the names whose cells were made at the entry (a def: all; a comprehension's block: its own); calm: not within an except suite; pn: pins that every state bears; xe: what is wanted of an exception that leaves the code -/
structure Cx where
  prog : Program
  w : World
  K : PySem.W.Frag
  mg : Str → Option Value
  base : Bs
  A : Around
  N : List Str
  s₀ : Shared
  H₀ : Hp
  env : Env
  outer : List Env
  stack : List Env
  ex : List Addr
  fn : Str → Bool
  cw : Str → Bool
  calm : Bool
  pn : List (Addr × Obj)
  xe : Value → Shared → Prop
/-- the callers' frames -/
def frs (l : List Env) : List Addr := l.filterMap (·.frame)
abbrev Cx.fs (X : Cx) : List Addr := frs X.outer
def Vis (sc : Scope) (x : Str) : Prop := sc.names.lookup x = some .local ∨ sc.names.lookup x = some .cell ∨ sc.names.lookup x = some .free
def Loc (sc : Scope) (x : Str) : Prop := sc.names.lookup x = some .local ∨ sc.names.lookup x = some .cell
def Look (env : Env) (h : Heap) (m : Str → Option Value) (x : Str) (u : Value) : Prop :=
  (env.kindOf x = some .local ∧ m x = some u) ∨ ((env.kindOf x = some .cell ∨ env.kindOf x = some .free) ∧ ∃ c, env.cells.lookup x = some c ∧ h.IsCell c (some u))
structure Cx.Ok (X : Cx) : Prop where
  mod : Mod X.K X.mg X.base
  kind : X.env.scope.kind = .function
  glob : X.env.globals = mainGlobals
  blt : X.env.builtins = builtinsNs
  above : X.s₀.heap.objs.size ≤ X.env.locals
  inj : ∀ x y c, X.env.cells.lookup x = some c → X.env.cells.lookup y = some c → x = y
  has : ∀ x, (X.env.kindOf x = some .cell ∨ X.env.kindOf x = some .free) → ∃ c, X.env.cells.lookup x = some c
  cab : ∀ x c, X.cw x = true → X.env.cells.lookup x = some c → X.s₀.heap.objs.size ≤ c
  hd : X.calm = true → X.A.handled = none
  frames : X.A.frames = some X.stack
  stk : X.stack = X.outer ∨ (X.stack = X.env :: X.outer ∧ X.env.frame = some X.env.locals)
  exf : ∀ b ∈ X.ex, b ≠ X.env.locals ∧ ∀ x c, X.env.cells.lookup x = some c → c ≠ b
  bs : ∀ b o, X.base.get? b = some o → X.s₀.heap.get? b = some o ∧ X.H₀ b = none
  bsz : X.base.objs.size ≤ X.s₀.heap.objs.size
  noex : ∀ b o, X.base.get? b = some o → b ∉ X.ex
  exfs : ∀ b ∈ X.ex, b ∉ X.fs
  funs : X.s₀.heap.FunFrames X.base X.outer
  frf : ∀ b ∈ X.fs, X.H₀ b = none
  tab : ∀ P ∈ X.base.tabs, X.H₀ P = some (.tbl 0)
  fc : ∀ x, X.fn x = true → X.cw x = true
structure Inv (X : Cx) (pins : List (Addr × Obj)) (σ : List (Option V)) (H : Hp) (s : Shared) : Prop where
  ok : X.Ok
  os : s.os = X.s₀.os
  bare : AllBare s.gens
  base : Un X.fs X.ex X.H₀ H X.s₀.heap s.heap
  loc : ∃ m, s.heap.Ns X.env.locals m ∧ ∀ (i : Nat) (x : Str) (v : V), X.N[i]? = some x → σ[i]? = some (some v) → Vis X.env.scope x → ∃ u, RelV v u ∧ Look X.env s.heap m x u
  cell : ∀ x c, X.env.cells.lookup x = some c → ∃ v, s.heap.IsCell c v
  free : H X.env.locals = none
  freeC : ∀ x c, X.env.cells.lookup x = some c → H c = none ∨ (X.fn x = false ∧ ∃ o u, H c = some (.frz o u))
  pin : ∀ p ∈ X.pn ++ pins, s.heap.get? p.1 = some p.2 ∧ H p.1 = none ∧ p.1 ≠ X.env.locals ∧ p.1 ∉ X.fs ∧ ∀ v, p.2.data ≠ .cell v
  hok : HOk X.prog X.w H s.heap
  len : σ.length = X.N.length
section
variable {X : Cx} {pins : List (Addr × Obj)} {σ : List (Option V)} {H H' : Hp} {s : Shared} {h' : Heap}
theorem Cx.Ok.nofr (ok : X.Ok) {b : Addr} {o : Obj} (e : X.base.get? b = some o) : b ∉ X.fs := fun hb => by
  have := (ok.funs.mem hb).1
  rw [e] at this; cases this
theorem Inv.bs (I : Inv X pins σ H s) : ∀ b o, X.base.get? b = some o → s.heap.get? b = some o ∧ H b = none := fun b o e =>
  ⟨I.base.keep b o (I.ok.bs b o e).1 (I.ok.bs b o e).2 (I.ok.nofr e) (I.ok.noex b o e), I.base.free b o (I.ok.bs b o e).1 (I.ok.bs b o e).2 (I.ok.noex b o e)⟩
theorem Inv.bk (I : Inv X pins σ H s) : ∀ b o, X.base.get? b = some o → s.heap.get? b = some o := fun b o e => (I.bs b o e).1
theorem Inv.mod (I : Inv X pins σ H s) : Mod X.K X.mg X.base := I.ok.mod
theorem Inv.kIn (I : Inv X pins σ H s) : X.K.In s.heap := I.ok.mod.kin.keeps I.bk
theorem Inv.nolimit (I : Inv X pins σ H s) : s.heap.NoLimit := I.ok.mod.nolimit.keeps I.bk
/-- the frame over the base: for OpenK's rules (K.In X.base is I.mod.kin) -/
theorem Inv.fr (I : Inv X pins σ H s) : ∃ m, Fr X.base X.env.locals s.heap m :=
  let ⟨m, hn, _⟩ := I.loc
  ⟨m, hn, I.bk, Nat.le_trans I.ok.bsz I.ok.above⟩
theorem Inv.lt (I : Inv X pins σ H s) : X.env.locals < s.heap.objs.size := let ⟨_, hn, _⟩ := I.loc; hn.lt
theorem Inv.sz (I : Inv X pins σ H s) : X.s₀.heap.objs.size ≤ s.heap.objs.size := Nat.le_trans I.ok.above (Nat.le_of_lt I.lt)
theorem Inv.nofs (I : Inv X pins σ H s) {a : Addr} (h : s.heap.objs.size ≤ a) : a ∉ X.fs := fun hb => by
  obtain ⟨_, o, ho, _⟩ := I.ok.funs.mem hb
  exact absurd (Nat.lt_of_lt_of_le (Heap.lt_size ho) (Nat.le_trans I.sz h)) (Nat.lt_irrefl _)
theorem Inv.cne (I : Inv X pins σ H s) : ∀ x c, X.env.cells.lookup x = some c → c ≠ X.env.locals := fun x c e z => by
  obtain ⟨v, o, ho, hd⟩ := I.cell x c e
  obtain ⟨m, ⟨o', es, ep, ho', hd', _⟩, _⟩ := I.loc
  rw [z, ho'] at ho; cases ho; rw [hd'] at hd; cases hd
theorem Inv.funs (I : Inv X pins σ H s) : s.heap.FunFrames X.base X.outer := by
  have all : ∀ (l : List Env), (∀ b ∈ frs l, b ∈ X.fs) → X.s₀.heap.FunFrames X.base l → s.heap.FunFrames X.base l := by
    intro l
    induction l with
    | nil => intro _ _; trivial
    | cons env r ih =>
      intro hs hl
      obtain ⟨hk, ⟨L, o, hf, hn, ho, hd⟩, hr⟩ := hl
      have hL : L ∈ X.fs := hs L (by unfold frs; rw [List.filterMap_cons, hf]; exact List.mem_cons_self)
      obtain ⟨sl, e⟩ := I.base.slot L o ho (I.ok.frf L hL) hL fun z => I.ok.exfs L z hL
      exact ⟨hk, ⟨L, _, hf, hn, e, hd⟩, ih (fun b hb => hs b (by unfold frs; rw [List.filterMap_cons, hf]; exact List.mem_cons_of_mem _ hb)) hr⟩
  exact all X.outer (fun _ hb => hb) I.ok.funs
/-- the frames that run, for a call -/
theorem Inv.stack (I : Inv X pins σ H s) : s.heap.FunFrames X.base X.stack := by
  rcases I.ok.stk with e | ⟨e, hf⟩
  · rw [e]; exact I.funs
  · rw [e]
    obtain ⟨m, hn, _⟩ := I.loc
    refine .cons (by rw [I.ok.kind]; decide) hf hn ?_ I.funs
    exact Heap.get?_none_of_le (Nat.le_trans I.ok.bsz I.ok.above)
theorem Inv.stkSub (I : Inv X pins σ H s) : ∀ b ∈ frs X.stack, b ∈ X.env.locals :: X.fs := fun b hb => by
  rcases I.ok.stk with e | ⟨e, hf⟩
  · rw [e] at hb; exact List.mem_cons_of_mem _ hb
  · rw [e] at hb
    unfold frs at hb
    rw [List.filterMap_cons, hf] at hb
    exact hb
theorem Inv.stkFree (I : Inv X pins σ H s) : ∀ b ∈ frs X.stack, H b = none := fun b hb => by
  rcases List.mem_cons.mp (I.stkSub b hb) with e | hb
  · rw [e]; exact I.free
  · obtain ⟨_, o, ho, _⟩ := I.ok.funs.mem hb
    exact I.base.free b o ho (I.ok.frf b hb) fun z => I.ok.exfs b z hb
/-- THE STEP: the untracked objects but the frame and the records at ch are kept (the callers' frames up to slots), the frame's map is kept, the new abstract heap is held -/
theorem Inv.step {g' : Array GenState} {t' : Nat} {d' : Drawn} {ch : List Addr} (I : Inv X pins σ H s)
    (hch : ∀ b ∈ ch, (b ∈ X.ex ∨ X.s₀.heap.objs.size ≤ b) ∧ b ≠ X.env.locals ∧ (∀ x c, X.env.cells.lookup x = some c → c ≠ b) ∧ ∀ p ∈ X.pn ++ pins, p.1 ≠ b)
    (keep : ∀ b o, b ≠ X.env.locals → b ∉ X.fs → b ∉ ch → s.heap.get? b = some o → H b = none → h'.get? b = some o)
    (slot : ∀ b o, b ≠ X.env.locals → b ∈ X.fs → b ∉ ch → s.heap.get? b = some o → H b = none → ∃ sl, h'.get? b = some { o with slots := sl }) (free : ∀ b o, b ∉ ch → s.heap.get? b = some o → H b = none → H' b = none)
    (there : ∀ b o, b ∉ ch → s.heap.get? b = some o → ∃ o', h'.get? b = some o')
    (tups : ∀ b xs, H b = some (.tup xs) → H' b = some (.tup xs)) (frzs : ∀ b o u, H b = some (.frz o u) → H' b = some (.frz o u)) (tbls : ∀ b q, H b = some (.tbl q) → H' b = some (.tbl q))
    (ns : ∀ m, s.heap.Ns X.env.locals m → h'.Ns X.env.locals m) (hok : HOk X.prog X.w H' h') (hg : AllBare g') :
    Inv X pins σ H' { s with heap := h', gens := g', drawn := d', toks := t' } := by
  have neL : ∀ b o, X.s₀.heap.get? b = some o → b ≠ X.env.locals := fun b o e => Nat.ne_of_lt (Nat.lt_of_lt_of_le (Heap.lt_size e) I.ok.above)
  have neC : ∀ b o, X.s₀.heap.get? b = some o → b ∉ X.ex → b ∉ ch := fun b o e hx hb => by
    rcases (hch b hb).1 with z | z
    · exact hx z
    · exact absurd (Nat.lt_of_lt_of_le (Heap.lt_size e) z) (Nat.lt_irrefl _)
  have cellK : ∀ x c, X.env.cells.lookup x = some c → ∀ v, s.heap.IsCell c v → h'.IsCell c v := fun x c e v ⟨o, ho, hd⟩ => by
    have nch : c ∉ ch := fun z => (hch c z).2.2.1 x c e rfl
    rcases I.freeC x c e with fc | ⟨_, ob, u, fc⟩
    · by_cases hc : c ∈ X.fs
      · obtain ⟨sl, q⟩ := slot c o (I.cne x c e) hc nch ho fc
        exact ⟨_, q, hd⟩
      · exact ⟨o, keep c o (I.cne x c e) hc nch ho fc, hd⟩
    · obtain ⟨e1, _⟩ := I.hok c _ fc
      obtain ⟨e2, _⟩ := hok c _ (frzs c ob u fc)
      rw [e1] at ho; cases ho
      exact ⟨_, e2, hd⟩
  refine ⟨I.ok, I.os, hg, ⟨fun b o e n hb hx => ?_, fun b o e n hb hx => ?_, fun b o e n hx => ?_, fun b o e hx => ?_, fun b xs e => tups b xs (I.base.tups b xs e), fun b o xs e => frzs b o xs (I.base.frzs b o xs e), fun b ps e => ?_⟩, ?_, fun x c e => ?_, ?_, fun x c e => ?_, fun p hp => ?_, hok, I.len⟩
  · exact keep b o (neL b o e) hb (neC b o e hx) (I.base.keep b o e n hb hx) (I.base.free b o e n hx)
  · obtain ⟨sl, e1⟩ := I.base.slot b o e n hb hx
    obtain ⟨sl', e2⟩ := slot b _ (neL b o e) hb (neC b o e hx) e1 (I.base.free b o e n hx)
    exact ⟨sl', e2⟩
  · obtain ⟨o', e1⟩ := I.base.there b o e hx
    exact free b o' (neC b o e hx) e1 (I.base.free b o e n hx)
  · obtain ⟨o', e1⟩ := I.base.there b o e hx
    exact there b o' (neC b o e hx) e1
  · exact tbls b ps (I.base.tbls b ps e)
  · obtain ⟨m, hn, hl⟩ := I.loc
    refine ⟨m, ns m hn, fun i x v e1 e2 e3 => ?_⟩
    obtain ⟨u, r, l⟩ := hl i x v e1 e2 e3
    refine ⟨u, r, ?_⟩
    rcases l with l | ⟨k, c, e, z⟩
    · exact .inl l
    · exact .inr ⟨k, c, e, cellK x c e _ z⟩
  · obtain ⟨v, z⟩ := I.cell x c e
    exact ⟨v, cellK x c e v z⟩
  · obtain ⟨m, ⟨o, _, _, ho, _⟩, _⟩ := I.loc
    exact free _ o (fun z => (hch _ z).2.1 rfl) ho I.free
  · obtain ⟨v, o, ho, hd⟩ := I.cell x c e
    rcases I.freeC x c e with fc | ⟨f, ob, u, fc⟩
    · exact .inl (free c o (fun z => (hch c z).2.2.1 x c e rfl) ho fc)
    · exact .inr ⟨f, ob, u, frzs c ob u fc⟩
  · obtain ⟨e, n, ne, nf, d⟩ := I.pin p hp
    have nch : p.1 ∉ ch := fun z => (hch p.1 z).2.2.2 p hp rfl
    exact ⟨keep p.1 p.2 ne nf nch e n, free p.1 p.2 nch e n, ne, nf, d⟩
/-- .. where the frame's own object is kept too -/
theorem Inv.un {t' : Nat} (I : Inv X pins σ H s) (u : Un X.fs [] H H' s.heap h') (hok : HOk X.prog X.w H' h') : Inv X pins σ H' { s with heap := h', toks := t' } := by
  obtain ⟨m, ⟨o, es, ep, ho, r⟩, _⟩ := id I.loc
  obtain ⟨sl, hL⟩ := u.any ho I.free (by simp)
  exact I.step (g' := s.gens) (d' := s.drawn) (ch := []) (fun _ z => nomatch z) (fun b o _ hb _ e n => u.keep b o e n hb (by simp)) (fun b o _ hb _ e n => u.slot b o e n hb (by simp)) (fun b o _ e n => u.free b o e n (by simp)) (fun b o _ e => u.there b o e (by simp)) u.tups u.frzs u.tbls (fun m' hm => by
    obtain ⟨o', es', ep', ho', r'⟩ := hm
    rw [ho] at ho'; cases ho'
    exact ⟨_, es', ep', hL, r'⟩) hok I.bare
/-- behind a call (or a comprehension's block): the slots of this frame may have changed too, the records at ch may have turned -/
theorem Inv.call {g' : Array GenState} {t' : Nat} {d' : Drawn} {ch : List Addr} (I : Inv X pins σ H s) (u : Un (frs X.stack) ch H H' s.heap h') (hok : HOk X.prog X.w H' h') (hg : AllBare g')
    (hch : ∀ b ∈ ch, (b ∈ X.ex ∨ X.s₀.heap.objs.size ≤ b) ∧ b ≠ X.env.locals ∧ (∀ x c, X.env.cells.lookup x = some c → c ≠ b) ∧ ∀ p ∈ X.pn ++ pins, p.1 ≠ b) :
    Inv X pins σ H' { s with heap := h', gens := g', drawn := d', toks := t' } := by
  obtain ⟨m, ⟨o, es, ep, ho, r⟩, _⟩ := id I.loc
  obtain ⟨sl, hL⟩ := u.any ho I.free fun z => (hch _ z).2.1 rfl
  exact I.step (ch := ch) hch (fun b o hL hb hc e n => u.keep b o e n (fun z => (List.mem_cons.mp (I.stkSub b z)).elim hL hb) hc) (fun b o _ _ hc e n => u.any e n hc) (fun b o hc e n => u.free b o e n hc) (fun b o hc e => u.there b o e hc) u.tups u.frzs u.tbls (fun m' hm => by
    obtain ⟨o', es', ep', ho', r'⟩ := hm
    rw [ho] at ho'; cases ho'
    exact ⟨_, es', ep', hL, r'⟩) hok hg
/-- an untracked record of ours (an iterator) has turned -/
theorem Inv.turned {t' : Nat} {it : Addr} (I : Inv X pins σ H s) (k : ∀ b o, b ≠ it → s.heap.get? b = some o → h'.get? b = some o) (hn : H it = none) (hL : it ≠ X.env.locals)
    (h1 : it ∈ X.ex ∨ X.s₀.heap.objs.size ≤ it) (h2 : ∀ x c, X.env.cells.lookup x = some c → c ≠ it) (h3 : ∀ p ∈ X.pn ++ pins, p.1 ≠ it) : Inv X pins σ H { s with heap := h', toks := t' } := by
  have nit : ∀ b u, H b = some u → b ≠ it := fun b u e z => by rw [z, hn] at e; cases e
  refine I.step (g' := s.gens) (d' := s.drawn) (ch := [it]) (fun b hb => ?_) (fun b o _ _ hc e _ => k b o (fun z => hc (by simp [z])) e) (fun b o _ _ hc e _ => ⟨o.slots, k b o (fun z => hc (by simp [z])) e⟩) (fun _ _ _ _ n => n)
    (fun b o hc e => ⟨o, k b o (fun z => hc (by simp [z])) e⟩) (fun _ _ e => e) (fun _ _ _ e => e) (fun _ _ e => e) (fun m hm => ?_) (fun b u e => ?_) I.bare
  · have e : b = it := by simpa using hb
    subst e
    exact ⟨h1, hL, h2, h3⟩
  · obtain ⟨o, es, ep, ho, r⟩ := hm
    exact ⟨o, es, ep, k _ o (Ne.symm hL) ho, r⟩
  · refine (I.hok b u e).stay (fun c v hc q => k c v ?_ q) (fun _ q => q) (fun _ _ q => q) fun _ _ _ q => q
    rcases hc with z | z
    · rw [z]; exact nit b u e
    · exact nit c _ z
theorem Inv.tok (I : Inv X pins σ H s) (t : Nat) : Inv X pins σ H { s with toks := t } := I.un (h' := s.heap) (t' := t) Un.refl I.hok
/-- all objects kept -/
theorem Inv.kept {t' : Nat} (I : Inv X pins σ H s) (k : ∀ b u, s.heap.get? b = some u → h'.get? b = some u) : Inv X pins σ H { s with heap := h', toks := t' } := I.un (Un.kept k) (I.hok.kept k)
/-- a new object laid and tracked -/
theorem Inv.laid {a : Addr} {o : HO} {t' : Nat} (I : Inv X pins σ H s) (k : ∀ b u, s.heap.get? b = some u → h'.get? b = some u) (hp : s.heap.objs.size ≤ a) (new : ObjOk X.prog X.w (upd H a o) h' a o) :
    Inv X pins σ (upd H a o) { s with heap := h', toks := t' } := I.un (Un.laid k hp (I.hok.fresh hp)) (I.hok.laid k hp new)
/-- an object written -/
theorem Inv.write {x e : Addr} {o : HO} {t' : Nat} (I : Inv X pins σ H s) (mu : Mut (H x)) (he : e = x ∨ H e = some (.own x)) (k : ∀ b u, b ≠ e → s.heap.get? b = some u → h'.get? b = some u) (heo : ∃ u, h'.get? e = some u)
    (new : ObjOk X.prog X.w (upd H x o) h' x o) : Inv X pins σ (upd H x o) { s with heap := h', toks := t' } := I.un (Un.write mu he k heo) (I.hok.write mu he k heo new)
/-- forgetting slots, pins -/
theorem Inv.weak {σ' : List (Option V)} (I : Inv X pins σ H s) (hl : σ'.length = σ.length) (w : ∀ (i : Nat) v, σ'[i]? = some (some v) → σ[i]? = some (some v)) : Inv X pins σ' H s :=
  ⟨I.ok, I.os, I.bare, I.base, let ⟨m, hn, hl'⟩ := I.loc; ⟨m, hn, fun i x v e1 e2 e3 => hl' i x v e1 (w i v e2) e3⟩, I.cell, I.free, I.freeC, I.pin, I.hok, hl.trans I.len⟩
theorem Inv.pins_of {pins' : List (Addr × Obj)} (I : Inv X pins σ H s) (h : ∀ p ∈ pins', s.heap.get? p.1 = some p.2 ∧ H p.1 = none ∧ p.1 ≠ X.env.locals ∧ p.1 ∉ X.fs ∧ ∀ v, p.2.data ≠ .cell v) : Inv X pins' σ H s :=
  ⟨I.ok, I.os, I.bare, I.base, I.loc, I.cell, I.free, I.freeC, fun p hp => (List.mem_append.mp hp).elim (fun z => I.pin p (List.mem_append_left _ z)) (h p), I.hok, I.len⟩
theorem nodup_ix {N : List Str} (hN : N.Nodup) {i j : Nat} {x : Str} (a : N[i]? = some x) (b : N[j]? = some x) : i = j := by
  obtain ⟨h1, e1⟩ := List.getElem?_eq_some_iff.mp a
  obtain ⟨h2, e2⟩ := List.getElem?_eq_some_iff.mp b
  exact (List.getElem_inj hN).mp (e1.trans e2.symm)
/-- a name is stored; what changed -/
theorem store_ok2 {M : Model} {A : Around} {E : Value → Shared → Prop} {i : Nat} {x : Str} {v : V} {u : Value} {Q : Unit → Shared → Prop} (I : Inv X pins σ H s) (hN : X.N.Nodup) (hi : X.N[i]? = some x) (hx : Loc X.env.scope x) (r : RelV v u)
    (h : ∀ s', Inv X pins (σ.set i (some v)) H s' → (∃ a, Heap.SameBut a s.heap s'.heap ∧ (a = X.env.locals ∨ X.env.cells.lookup x = some a)) → Q () s') (hf : X.fn x = true ∨ X.env.scope.names.lookup x = some .local := by first | exact .inl rfl | exact .inr rfl | assumption) : wpAny M A (storeName X.env x u) Q E s := by
  obtain ⟨m, hn, hl⟩ := id I.loc
  have hcls : (X.env.scope.kind == .class || (X.env.scope.kind == .module && X.env.locals != X.env.globals)) = false := by rw [I.ok.kind]; rfl
  have hiσ : i < σ.length := by rw [I.len]; exact (List.getElem?_eq_some_iff.mp hi).1
  have cne := I.cne
  have tracked : ∀ {a : Addr} {h' : Heap}, (∃ o, s.heap.get? a = some o ∧ H a = none) → Heap.SameBut a s.heap h' → HOk X.prog X.w H h' := fun {a h'} ha hs b ob e => by
    obtain ⟨_, _, hfree⟩ := ha
    refine (I.hok b ob e).stay (fun c w' hc q => (hs.2 c ?_).trans q) (fun _ q => q) (fun _ _ q => q) fun _ _ _ q => q
    rintro rfl
    rcases hc with rfl | hc
    · rw [hfree] at e; cases e
    · rw [hfree] at hc; cases hc
  rcases hx with hk | hk
  · refine wpAny_storeName_local hk hn (fun h' hn' hs => ?_) hcls
    obtain ⟨oL, _, _, hoL, _⟩ := id hn
    refine h _ ⟨I.ok, I.os, I.bare, ⟨fun b o e n hb hx => ?_, fun b o e n hb hx => ?_, I.base.free, fun b o e hx => ?_, I.base.tups, I.base.frzs, I.base.tbls⟩, ⟨_, hn', fun j y v' e1 e2 e3 => ?_⟩, fun y c e => ?_, I.free, I.freeC, fun p hp => ?_, tracked ⟨oL, hoL, I.free⟩ hs, by simpa using I.len⟩ ⟨_, hs, .inl rfl⟩
    · exact (hs.2 b (Nat.ne_of_lt (Nat.lt_of_lt_of_le (Heap.lt_size e) I.ok.above))).trans (I.base.keep b o e n hb hx)
    · obtain ⟨sl, e1⟩ := I.base.slot b o e n hb hx
      exact ⟨sl, (hs.2 b (Nat.ne_of_lt (Nat.lt_of_lt_of_le (Heap.lt_size e) I.ok.above))).trans e1⟩
    · obtain ⟨o', e1⟩ := I.base.there b o e hx
      exact ⟨o', (hs.2 b (Nat.ne_of_lt (Nat.lt_of_lt_of_le (Heap.lt_size e) I.ok.above))).trans e1⟩
    · by_cases hj : j = i
      · subst hj
        rw [hi] at e1; cases e1
        rw [List.getElem?_set_self hiσ] at e2
        cases e2
        exact ⟨u, r, .inl ⟨hk, by simp⟩⟩
      · rw [List.getElem?_set_ne (Ne.symm hj)] at e2
        obtain ⟨u', r', q⟩ := hl j y v' e1 e2 e3
        refine ⟨u', r', ?_⟩
        rcases q with ⟨k, e⟩ | ⟨k, c, e, z⟩
        · refine .inl ⟨k, ?_⟩
          have : y ≠ x := fun e => hj (nodup_ix hN e1 (e ▸ hi))
          simp [this, e]
        · exact .inr ⟨k, c, e, z.sameBut hs (cne y c e)⟩
    · obtain ⟨w', z⟩ := I.cell y c e
      exact ⟨w', z.sameBut hs (cne y c e)⟩
    · obtain ⟨e, n, ne, nf, d⟩ := I.pin p hp
      exact ⟨(hs.2 p.1 ne).trans e, n, ne, nf, d⟩
  · have hfn : X.fn x = true := by
      rcases hf with z | z
      · exact z
      · rw [z] at hk; cases hk
    obtain ⟨c, hc⟩ := I.ok.has x (.inl hk)
    obtain ⟨w', z⟩ := I.cell x c hc
    refine wpAny_storeName_cell I.ok.kind hk hc z (fun h' hc' hs => ?_)
    obtain ⟨oc, hoc, hocd⟩ := id z
    have hcf : H c = none := by
      rcases I.freeC x c hc with q | ⟨q, _⟩
      · exact q
      · rw [hfn] at q; cases q
    refine h { s with heap := h' } ⟨I.ok, I.os, I.bare, ⟨fun b o e n hb hx => ?_, fun b o e n hb hx => ?_, I.base.free, fun b o e hx => ?_, I.base.tups, I.base.frzs, I.base.tbls⟩, ⟨m, hn.sameBut hs (Ne.symm (cne x c hc)), fun j y v' e1 e2 e3 => ?_⟩, fun y c' e => ?_, I.free, I.freeC, fun p hp => ?_, tracked ⟨oc, hoc, hcf⟩ hs, by simpa using I.len⟩ ⟨c, hs, .inr hc⟩
    · exact (hs.2 b (Nat.ne_of_lt (Nat.lt_of_lt_of_le (Heap.lt_size e) (I.ok.cab x c (I.ok.fc x hfn) hc)))).trans (I.base.keep b o e n hb hx)
    · obtain ⟨sl, e1⟩ := I.base.slot b o e n hb hx
      exact ⟨sl, (hs.2 b (Nat.ne_of_lt (Nat.lt_of_lt_of_le (Heap.lt_size e) (I.ok.cab x c (I.ok.fc x hfn) hc)))).trans e1⟩
    · obtain ⟨o', e1⟩ := I.base.there b o e hx
      exact ⟨o', (hs.2 b (Nat.ne_of_lt (Nat.lt_of_lt_of_le (Heap.lt_size e) (I.ok.cab x c (I.ok.fc x hfn) hc)))).trans e1⟩
    · by_cases hj : j = i
      · subst hj
        rw [hi] at e1; cases e1
        rw [List.getElem?_set_self hiσ] at e2
        cases e2
        exact ⟨u, r, .inr ⟨.inl hk, c, hc, hc'⟩⟩
      · rw [List.getElem?_set_ne (Ne.symm hj)] at e2
        obtain ⟨u', r', q⟩ := hl j y v' e1 e2 e3
        refine ⟨u', r', ?_⟩
        rcases q with q | ⟨k, c', e, z'⟩
        · exact .inl q
        · refine .inr ⟨k, c', e, z'.sameBut hs ?_⟩
          rintro rfl
          exact hj (nodup_ix hN e1 (I.ok.inj _ _ _ e hc ▸ hi))
    · by_cases hcc : c' = c
      · subst hcc; exact ⟨_, hc'⟩
      · obtain ⟨w2, z2⟩ := I.cell y c' e
        exact ⟨w2, z2.sameBut hs hcc⟩
    · obtain ⟨e, n, ne, nf, d⟩ := I.pin p hp
      refine ⟨(hs.2 p.1 ?_).trans e, n, ne, nf, d⟩
      intro q
      rw [q, hoc] at e
      have q' : oc = p.2 := Option.some.inj e
      exact d w' (by rw [← q']; exact hocd)
theorem store_ok {M : Model} {A : Around} {E : Value → Shared → Prop} {i : Nat} {x : Str} {v : V} {u : Value} {Q : Unit → Shared → Prop} (I : Inv X pins σ H s) (hN : X.N.Nodup) (hi : X.N[i]? = some x) (hx : Loc X.env.scope x) (r : RelV v u)
    (h : ∀ s', Inv X pins (σ.set i (some v)) H s' → Q () s') (hf : X.fn x = true ∨ X.env.scope.names.lookup x = some .local := by first | exact .inl rfl | exact .inr rfl | assumption) : wpAny M A (storeName X.env x u) Q E s :=
  store_ok2 I hN hi hx r (fun s' I' _ => h s' I') hf
end
/-! ### the judgements -/
/-- an exception: its class, its own dict's address (where it has one), the abstract heap behind it -/
abbrev XK := Value → Option Addr → Hp → Prop
abbrev St := List (Option V)
abbrev VK := V → Hp → Prop
/-- an expression's reading; a test's; an argument list's -/
abbrev TE := St → Hp → VK → Prop
abbrev TT := St → Hp → (Bool → Hp → Prop) → Prop
abbrev TA := St → Hp → (List V → Hp → Prop) → Prop
/-- what is wanted behind a statement -/
structure Ends where
  nx : St → Hp → Prop
  rt : VK
  bk : St → Hp → Prop := fun _ _ => False
  ct : St → Hp → Prop := fun _ _ => False
abbrev TS := Ends → St → Hp → Prop
/-- what is left of the state when the frame is gone -/
structure Fin (X : Cx) (H : Hp) (s : Shared) : Prop where
  os : s.os = X.s₀.os
  bare : AllBare s.gens
  base : Un X.fs X.ex X.H₀ H X.s₀.heap s.heap
  hok : HOk X.prog X.w H s.heap
theorem Inv.fin {X : Cx} {pins : List (Addr × Obj)} {σ : St} {H : Hp} {s : Shared} (I : Inv X pins σ H s) : Fin X H s := ⟨I.os, I.bare, I.base, I.hok⟩
def EP (X : Cx) (pins : List (Addr × Obj)) (σ : St) (Q : VK) (u : Value) (s' : Shared) : Prop := ∃ v H', Inv X pins σ H' s' ∧ RelV v u ∧ Q v H'
def TP (X : Cx) (pins : List (Addr × Obj)) (σ : St) (Q : Bool → Hp → Prop) (b : Bool) (s' : Shared) : Prop := ∃ H', Inv X pins σ H' s' ∧ Q b H'
def AP (X : Cx) (pins : List (Addr × Obj)) (σ : St) (Q : List V → Hp → Prop) (us : List Value) (s' : Shared) : Prop := ∃ vs H', Inv X pins σ H' s' ∧ Vals vs us ∧ Q vs H'
def SP (X : Cx) (pins : List (Addr × Obj)) (D : Ends) (f : Flow) (s' : Shared) : Prop :=
  match f with
  | .next => ∃ σ' H', Inv X pins σ' H' s' ∧ D.nx σ' H'
  | .brk => ∃ σ' H', Inv X pins σ' H' s' ∧ D.bk σ' H'
  | .cont => ∃ σ' H', Inv X pins σ' H' s' ∧ D.ct σ' H'
  | .ret u => ∃ v H', Fin X H' s' ∧ RelV v u ∧ D.rt v H'
def PE (X : Cx) (e : Expr) (t : TE) : Prop :=
  ∀ (pins : List (Addr × Obj)) (s : Shared) (σ : St) (H : Hp) (Q : VK), Inv X pins σ H s → t σ H Q → wpAny (model X.prog X.w) X.A (eval e X.env) (EP X pins σ Q) X.xe s
def PT (X : Cx) (e : Expr) (t : TT) : Prop :=
  ∀ (pins : List (Addr × Obj)) (s : Shared) (σ : St) (H : Hp) (Q : Bool → Hp → Prop), Inv X pins σ H s → t σ H Q → wpAny (model X.prog X.w) X.A (isTrue e X.env (eval e X.env)) (TP X pins σ Q) X.xe s
/-- a test whatever its 'whole' is (and, or) -/
def PW (X : Cx) (e : Expr) (t : TT) : Prop :=
  ∀ (whole : Sem Value) (pins : List (Addr × Obj)) (s : Shared) (σ : St) (H : Hp) (Q : Bool → Hp → Prop), Inv X pins σ H s → t σ H Q → wpAny (model X.prog X.w) X.A (isTrue e X.env whole) (TP X pins σ Q) X.xe s
theorem PW.pt {X : Cx} {e : Expr} {t : TT} (h : PW X e t) : PT X e t := h _
/-- an argument list (no star), from the left -/
def PA (X : Cx) (es : List Expr) (t : TA) : Prop :=
  ∀ (pos : Pos) (pins : List (Addr × Obj)) (s : Shared) (σ : St) (H : Hp) (Q : List V → Hp → Prop), Inv X pins σ H s → t σ H Q → wpAny (model X.prog X.w) X.A (spliced (backTo pos (starEach es X.env))) (AP X pins σ Q) X.xe s
def PS (X : Cx) (st : Stmt) (t : TS) : Prop :=
  ∀ (pins : List (Addr × Obj)) (s : Shared) (σ : St) (H : Hp) (D : Ends), Inv X pins σ H s → t D σ H → wpAny (model X.prog X.w) X.A (exec st X.env) (SP X pins D) X.xe s
def PSs (X : Cx) (st : List Stmt) (t : TS) : Prop :=
  ∀ (pins : List (Addr × Obj)) (s : Shared) (σ : St) (H : Hp) (D : Ends), Inv X pins σ H s → t D σ H → wpAny (model X.prog X.w) X.A (execs st X.env) (SP X pins D) X.xe s
/-- weaken the end -/
theorem thn {α : Type} {t : Sem α} {Q Q' : α → Shared → Prop} {M : Model} {A : Around} {E : Value → Shared → Prop} {s : Shared} (h : wpAny M A t Q E s) (hQ : ∀ a s, Q a s → Q' a s) : wpAny M A t Q' E s := wpAny_mono h hQ fun _ _ x => x
end L2
namespace L2
open PySem PySem.Spec PyProof.Rows
section
variable {X : Cx}
/-! ### names and constants -/
def tVar (i : Nat) : TE := fun σ H Q => ∃ v, σ[i]? = some (some v) ∧ Q v H
def tC (v : V) : TE := fun _ H Q => Q v H
theorem pe_var {i : Nat} {x : Str} {pos : Pos} (hN : X.N[i]? = some x) (hv : Vis X.env.scope x) (hd : (x == ("__debug__" : Str)) = false := by decide) (hcd : (x == ("__classdict__" : Str)) = false := by decide) : PE X (.Name x pos) (tVar i) := by
  intro pins s σ H Q I h
  obtain ⟨v, e, h⟩ := h
  obtain ⟨m, hn, hl⟩ := I.loc
  obtain ⟨u, r, l⟩ := hl i x v hN e hv
  have fin : EP X pins σ Q u s := ⟨v, H, I, r, h⟩
  rcases l with ⟨hk, hm⟩ | ⟨hk, c, hc, hcell⟩
  · exact wpAny_Name (wpAny_loadName_local I.ok.kind hk hn hm fin) hd
  · rcases hk with hk | hk
    · exact wpAny_Name (wpAny_loadName_cell I.ok.kind hk hc hcell fin) hd
    · exact wpAny_Name (wpAny_loadName_free I.ok.kind hk hc hcell fin hcd) hd
theorem pe_int {i j pos} : PE X (.Constant (.int i) j pos) (tC (.int i)) := fun _ _ _ H _ I h => wpAny_Constant_int ⟨.int i, H, I.tok _, ⟨_, rfl⟩, h⟩
theorem pe_bl {b j pos} : PE X (.Constant (.bool b) j pos) (tC (.bl b)) := fun _ _ _ H _ I h => Constant_bool ⟨.bl b, H, I, rfl, h⟩
theorem pe_non {j pos} : PE X (.Constant .none j pos) (tC .non) := fun _ _ _ H _ I h => Constant_none ⟨.non, H, I, rfl, h⟩
theorem pe_str {x j pos} : PE X (.Constant (.str x) j pos) (tC (.str x)) := fun _ _ _ H _ I h => Calls.Constant_str ⟨.str x, H, I.tok _, ⟨_, rfl⟩, h⟩
/-- a global name of the def -/
def Gl (X : Cx) (x : Str) : Prop := X.env.kindOf x = some .globalImplicit
theorem ld_glob {E : Value → Shared → Prop} {pins : List (Addr × Obj)} {s : Shared} {σ : St} {H : Hp} {x : Str} {u : Value} {pos : Pos} {Q : Value → Shared → Prop} (I : Inv X pins σ H s) (hg : Gl X x) (hm : X.mg x = some u) (h : Q u s)
    (hd : (x == ("__debug__" : Str)) = false := by decide) : wpAny (model X.prog X.w) X.A (eval (.Name x pos) X.env) Q E s :=
  Calls.Name_function_global I.ok.kind hg (Calls.loadGlobal_global (by rw [I.ok.glob]; exact I.mod.glob.keeps I.bk) hm h) hd
theorem ld_blt {E : Value → Shared → Prop} {pins : List (Addr × Obj)} {s : Shared} {σ : St} {H : Hp} {x : Str} {u : Value} {pos : Pos} {Q : Value → Shared → Prop} (I : Inv X pins σ H s) (hg : Gl X x) (hm : X.mg x = none) (hv : bootBuiltins x = some u) (h : Q u s)
    (hn : x ≠ "__name__" := by decide) (hd : (x == ("__debug__" : Str)) = false := by decide) : wpAny (model X.prog X.w) X.A (eval (.Name x pos) X.env) Q E s := by
  obtain ⟨mb, h1, h2⟩ := I.mod.blt
  exact Calls.Name_function_global I.ok.kind hg (Calls.loadGlobal_builtin (by rw [I.ok.glob]; exact I.mod.glob.keeps I.bk) hm (by rw [I.ok.blt]; exact h1.keeps I.bk) ((h2 x hn).trans hv) h) hd
/-- a module's constant, a class, a function, as a value -/
theorem pe_glob {x : Str} {v : V} {u : Value} {pos : Pos} (hg : Gl X x) (hm : X.mg x = some u) (r : RelV v u) (hd : (x == ("__debug__" : Str)) = false := by decide) : PE X (.Name x pos) (tC v) :=
  fun _ _ _ H _ I h => ld_glob I hg hm ⟨v, H, I, r, h⟩ hd
theorem pe_bltn {x : Str} {v : V} {u : Value} {pos : Pos} (hg : Gl X x) (hm : X.mg x = none) (hv : bootBuiltins x = some u) (r : RelV v u) (hn : x ≠ "__name__" := by decide) (hd : (x == ("__debug__" : Str)) = false := by decide) : PE X (.Name x pos) (tC v) :=
  fun _ _ _ H _ I h => ld_blt I hg hm hv ⟨v, H, I, r, h⟩ hn hd
variable {a b : Expr} {ta tb : TE} {pos : Pos}
/-! ### comparisons -/
def PC (X : Cx) (op : CmpOp) (a b : Expr) (t : TE) : Prop :=
  ∀ (pins : List (Addr × Obj)) (s : Shared) (σ : St) (H : Hp) (Q : VK), Inv X pins σ H s → t σ H Q →
    wpAny (model X.prog X.w) X.A (eval a X.env) (fun v s₁ => wpAny (model X.prog X.w) X.A (eval b X.env) (fun u s₂ => wpAny (model X.prog X.w) X.A (compareOp op v u) (EP X pins σ Q) X.xe s₂) X.xe s₁) X.xe s
theorem nobehind (b : Expr) {op : CmpOp} (h : op ≠ .In) (h2 : op ≠ .NotIn) : behindInMarks op b = false := by
  have e1 : (op == CmpOp.In) = false := by cases op <;> first | rfl | exact absurd rfl h
  have e2 : (op == CmpOp.NotIn) = false := by cases op <;> first | rfl | exact absurd rfl h2
  cases b <;> simp [behindInMarks, e1, e2]
/-- is None -/
def tIsN (ta : TE) : TE := fun σ H Q => ta σ H fun x H1 => Q (.bl (decide (x = .non))) H1
def tNotN (ta : TE) : TE := fun σ H Q => ta σ H fun x H1 => Q (.bl (!decide (x = .non))) H1
theorem RelV.none_iff {x : V} {v : Value} (r : RelV x v) : (v == Value.none) = decide (x = .non) := by
  cases x with
  | non => cases r; rfl
  | bl _ => cases r; rfl
  | int _ => obtain ⟨t, rfl⟩ := r; rfl
  | str _ => obtain ⟨t, rfl⟩ := r; rfl
  | byt _ => obtain ⟨t, rfl⟩ := r; rfl
  | flt _ => obtain ⟨t, rfl⟩ := r; rfl
  | ref _ => cases r; rfl
  | ty _ => cases r; rfl
theorem pc_isN {j pos'} (ha : PE X a ta) : PC X .Is a (.Constant .none j pos') (tIsN ta) := by
  intro pins s σ H Q I h
  refine thn (ha pins s σ H _ I h) fun v s1 ⟨x, H1, I1, r1, q1⟩ => ?_
  exact Constant_none (is_none_gen ⟨.bl _, H1, I1, by rw [r1.none_iff]; rfl, q1⟩)
theorem pc_notN {j pos'} (ha : PE X a ta) : PC X .IsNot a (.Constant .none j pos') (tNotN ta) := by
  intro pins s σ H Q I h
  refine thn (ha pins s σ H _ I h) fun v s1 ⟨x, H1, I1, r1, q1⟩ => ?_
  exact Constant_none (isnot_none_gen ⟨.bl _, H1, I1, by rw [r1.none_iff]; rfl, q1⟩)
/-- a comparison as a value, as a test -/
def tB (t : TE) : TT := fun σ H Q => t σ H fun x H1 => ∃ c, x = .bl c ∧ Q c H1
theorem pt_cmp {op : CmpOp} {t : TE} (h : PC X op a b t) (h1 : behindInMarks op b = false := by first | exact nobehind _ (by decide) (by decide) | rfl) : PT X (.Compare a [op] [b] pos) (tB t) := by
  intro pins s σ H Q I hw
  refine wpAny_isTrue_Compare1 (thn (h pins s σ H _ I hw) fun v s1 h1 => thn h1 fun u s2 h2 => thn h2 fun c s3 ⟨x, H1, I1, r1, q1⟩ => ?_) h1
  obtain ⟨d, rfl, q⟩ := q1
  cases r1
  exact wpAny_truthy_bool ⟨H1, I1, q⟩
/-- an expression whose value is a bool, as a test -/
theorem pt_val {e : Expr} {t : TE} (h : PE X e t) (he : ∀ whole, isTrue e X.env whole = (do let v ← whole; standAt e.pos; holding [v] (truthy v)) := by intro _; rfl) : PT X e (tB t) := by
  intro pins s σ H Q I hw
  refine isTrue_plain (thn (h pins s σ H _ I hw) fun v s1 ⟨x, H1, I1, r1, q1⟩ => ?_) (he _)
  obtain ⟨d, rfl, q⟩ := q1
  cases r1
  exact wpAny_truthy_bool ⟨H1, I1, q⟩
/-! ### and, or, not -/
variable {tA tB' : TT} {rest : List Expr}
def tAnd (t u : TT) : TT := fun σ H Q => t σ H fun c H1 => if c = true then u σ H1 Q else Q false H1
def tOr (t u : TT) : TT := fun σ H Q => t σ H fun c H1 => if c = true then Q true H1 else u σ H1 Q
def tNot (t : TT) : TT := fun σ H Q => t σ H fun c H1 => Q (!c) H1
theorem pw_and1 (ha : PT X a tA) : PW X (.BoolOp .And [a] pos) tA := by
  intro wh pins s σ H Q I h
  refine isTrue_and (thn (ha pins s σ H Q I h) fun c s1 e => ?_)
  cases c with
  | true => exact isTrue_and_nil e
  | false => exact e
theorem pw_or1 (ha : PT X a tA) : PW X (.BoolOp .Or [a] pos) tA := by
  intro wh pins s σ H Q I h
  refine isTrue_or (thn (ha pins s σ H Q I h) fun c s1 e => ?_)
  cases c with
  | false => exact isTrue_or_nil e
  | true => exact e
theorem pw_and (ha : PT X a tA) (hb : PW X (.BoolOp .And (b :: rest) pos) tB') : PW X (.BoolOp .And (a :: b :: rest) pos) (tAnd tA tB') := by
  intro wh pins s σ H Q I h
  refine isTrue_and (thn (ha pins s σ H _ I h) fun c s1 ⟨H1, I1, q1⟩ => ?_)
  cases c with
  | true => exact hb wh pins s1 σ H1 Q I1 q1
  | false => exact ⟨H1, I1, q1⟩
theorem pw_or (ha : PT X a tA) (hb : PW X (.BoolOp .Or (b :: rest) pos) tB') : PW X (.BoolOp .Or (a :: b :: rest) pos) (tOr tA tB') := by
  intro wh pins s σ H Q I h
  refine isTrue_or (thn (ha pins s σ H _ I h) fun c s1 ⟨H1, I1, q1⟩ => ?_)
  cases c with
  | true => exact ⟨H1, I1, q1⟩
  | false => exact hb wh pins s1 σ H1 Q I1 q1
theorem pt_not (ha : PT X a tA) : PT X (.UnaryOp .Not a pos) (tNot tA) := by
  intro pins s σ H Q I h
  exact isTrue_not (ha pins s σ H (fun c H1 => Q (!c) H1) I h)
/-- .. as values (bools) -/
def tAndV (ta tb : TE) : TE := fun σ H Q => ta σ H fun x H1 => ∃ c, x = .bl c ∧ if c = true then tb σ H1 Q else Q (.bl false) H1
def tOrV (ta tb : TE) : TE := fun σ H Q => ta σ H fun x H1 => ∃ c, x = .bl c ∧ if c = true then Q (.bl true) H1 else tb σ H1 Q
def tNotV (ta : TE) : TE := fun σ H Q => ta σ H fun x H1 => ∃ c, x = .bl c ∧ Q (.bl (!c)) H1
theorem pe_one {op} {t : TE} (h : PE X a t) : PE X (.BoolOp op [a] pos) t := fun pins s σ H Q I hw => BoolOp_one (h pins s σ H Q I hw)
theorem pe_and (ha : PE X a ta) (hb : PE X (.BoolOp .And (b :: rest) pos) tb) : PE X (.BoolOp .And (a :: b :: rest) pos) (tAndV ta tb) := by
  intro pins s σ H Q I h
  refine BoolOp_and (thn (ha pins s σ H _ I h) fun v s1 ⟨x, H1, I1, r1, q1⟩ => ?_)
  obtain ⟨c, rfl, q1⟩ := q1
  cases r1
  refine wpAny_truthy_bool ?_
  cases c with
  | true => exact hb pins s1 σ H1 Q I1 q1
  | false => exact ⟨.bl false, H1, I1, rfl, q1⟩
theorem pe_or (ha : PE X a ta) (hb : PE X (.BoolOp .Or (b :: rest) pos) tb) : PE X (.BoolOp .Or (a :: b :: rest) pos) (tOrV ta tb) := by
  intro pins s σ H Q I h
  refine BoolOp_or (thn (ha pins s σ H _ I h) fun v s1 ⟨x, H1, I1, r1, q1⟩ => ?_)
  obtain ⟨c, rfl, q1⟩ := q1
  cases r1
  refine wpAny_truthy_bool ?_
  cases c with
  | false => exact hb pins s1 σ H1 Q I1 q1
  | true => exact ⟨.bl true, H1, I1, rfl, q1⟩
theorem pe_not (ha : PE X a ta) : PE X (.UnaryOp .Not a pos) (tNotV ta) := by
  intro pins s σ H Q I h
  refine UnaryOp_ (thn (ha pins s σ H _ I h) fun v s1 ⟨x, H1, I1, r1, q1⟩ => ?_)
  obtain ⟨c, rfl, q1⟩ := q1
  cases r1
  exact not_of (wpAny_truthy_bool ⟨.bl (!c), H1, I1, rfl, q1⟩)
/-- a if t else b -/
def tIf (t : TT) (ta tb : TE) : TE := fun σ H Q => t σ H fun c H1 => if c = true then ta σ H1 Q else tb σ H1 Q
theorem pe_ifExp {c : Expr} (hc : PT X c tA) (ha : PE X a ta) (hb : PE X b tb) : PE X (.IfExp c a b pos) (tIf tA ta tb) := by
  intro pins s σ H Q I h
  refine wpAny_IfExp (thn (hc pins s σ H _ I h) fun d s1 ⟨H1, I1, q1⟩ => ?_)
  cases d with
  | true => exact ha pins s1 σ H1 Q I1 q1
  | false => exact hb pins s1 σ H1 Q I1 q1
end
end L2
namespace L2
open PySem PySem.Spec PyProof.Rows
/-! ### a list, a tuple that is read: tracked, frozen, or an object of the module -/
def SqL (K : PySem.W.Frag) (H : Hp) (a : Addr) (xs : List V) : Prop :=
  Rd H a (.lst xs) ∨
    ∃ (o : Obj) (its : Array Value) (n : Nat), K.lookup a = some o ∧ o.cls = .type "list" ∧ o.dict = none ∧ o.data = .seq its n ∧ its.size ≤ sizeLine ∧ Vals xs its.toList
def SqT (K : PySem.W.Frag) (H : Hp) (a : Addr) (xs : List V) : Prop :=
  Rd H a (.tup xs) ∨
    ∃ (o : Obj) (its : Array Value) (n : Nat), K.lookup a = some o ∧ o.cls = .type "tuple" ∧ o.data = .seq its n ∧ its.size ≤ sizeLine ∧ Vals xs its.toList
def absV : Value → Option V
  | .none => some .non
  | .bool b => some (.bl b)
  | .int i _ => some (.int i)
  | .str x _ => some (.str x)
  | .bytes b _ => some (.byt b)
  | .float b _ => some (.flt b)
  | .ref a => some (.ref a)
  | .type n => some (.ty n)
  | _ => none
theorem RelV.abs {x : V} {u : Value} (r : RelV x u) : absV u = some x := by
  cases x with
  | non => cases r; rfl
  | bl _ => cases r; rfl
  | int _ => obtain ⟨t, rfl⟩ := r; rfl
  | str _ => obtain ⟨t, rfl⟩ := r; rfl
  | byt _ => obtain ⟨t, rfl⟩ := r; rfl
  | flt _ => obtain ⟨t, rfl⟩ := r; rfl
  | ref _ => cases r; rfl
  | ty _ => cases r; rfl
theorem RelV.inj {x y : V} {u : Value} (r : RelV x u) (q : RelV y u) : x = y := Option.some.inj (r.abs.symm.trans q.abs)
theorem Vals.inj : ∀ {xs ys : List V} {us : List Value}, Vals xs us → Vals ys us → xs = ys
  | _, _, _, .nil, .nil => rfl
  | _, _, _, .cons r t, .cons r' t' => by rw [r.inj r', Vals.inj t t']
section
variable {X : Cx} {pins : List (Addr × Obj)} {σ : St} {H : Hp} {s : Shared} {a : Addr} {xs ys : List V}
theorem SqL.of {K : PySem.W.Frag} (h : H a = some (.lst xs)) : SqL K H a xs := .inl (.inl h)
theorem SqT.of {K : PySem.W.Frag} (h : H a = some (.tup xs)) : SqT K H a xs := .inl (.inl h)
theorem Inv.list (I : Inv X pins σ H s) (h : SqL X.K H a xs) : ∃ its : List Value, Vals xs its ∧ PlainL s.heap a its.toArray ∧ xs.length ≤ sizeLine := by
  rcases h with h | ⟨o, its, n, hk, hc, hd, hs, hz, r⟩
  · obtain ⟨z, its, n, r, e⟩ := h.ok I.hok
    exact ⟨its, r, ⟨_, n, e, rfl, rfl, rfl⟩, z⟩
  · refine ⟨its.toList, r, ⟨o, n, I.kIn a o hk, hc, hd, by simpa using hs⟩, ?_⟩
    have e := r.length
    simp only [Array.length_toList] at e
    omega
theorem Inv.tuple (I : Inv X pins σ H s) (h : SqT X.K H a xs) : ∃ its : List Value, Vals xs its ∧ IsTup s.heap a its.toArray ∧ xs.length ≤ sizeLine := by
  rcases h with h | ⟨o, its, n, hk, hc, hs, hz, r⟩
  · obtain ⟨z, its, r, p⟩ := h.ok I.hok
    exact ⟨its, r, p, z⟩
  · refine ⟨its.toList, r, ⟨o, I.kIn a o hk, hc, n, by simpa using hs⟩, ?_⟩
    have e := r.length
    simp only [Array.length_toList] at e
    omega
theorem Inv.list_inj (I : Inv X pins σ H s) (h : SqL X.K H a xs) (h' : SqL X.K H a ys) : xs = ys := by
  obtain ⟨its, r, ⟨o, n, e, _, _, d⟩, _⟩ := I.list h
  obtain ⟨its', r', ⟨o', n', e', _, _, d'⟩, _⟩ := I.list h'
  rw [e] at e'; cases e'
  rw [d] at d'
  injection d' with d1 _
  have : its = its' := by simpa using congrArg Array.toList d1
  subst this
  exact r.inj r'
theorem Inv.tuple_inj (I : Inv X pins σ H s) (h : SqT X.K H a xs) (h' : SqT X.K H a ys) : xs = ys := by
  obtain ⟨its, r, ⟨o, e, _, n, d⟩, _⟩ := I.tuple h
  obtain ⟨its', r', ⟨o', e', _, n', d'⟩, _⟩ := I.tuple h'
  rw [e] at e'; cases e'
  rw [d] at d'
  injection d' with d1 _
  have : its = its' := by simpa using congrArg Array.toList d1
  subst this
  exact r.inj r'
end
/-! ### another wish about exceptions -/
abbrev Cx.wish (X : Cx) (E : Value → Shared → Prop) : Cx := { X with xe := E }
/-- no exception leaves -/
abbrev Cx.nox (X : Cx) : Cx := X.wish fun _ _ => False
theorem Cx.Ok.wish {X : Cx} (ok : X.Ok) (E : Value → Shared → Prop) : (X.wish E).Ok :=
  ⟨ok.mod, ok.kind, ok.glob, ok.blt, ok.above, ok.inj, ok.has, ok.cab, ok.hd, ok.frames, ok.stk, ok.exf, ok.bs, ok.bsz, ok.noex, ok.exfs, ok.funs, ok.frf, ok.tab, ok.fc⟩
theorem Cx.Ok.unwish {X : Cx} {E : Value → Shared → Prop} (ok : (X.wish E).Ok) : X.Ok :=
  ⟨ok.mod, ok.kind, ok.glob, ok.blt, ok.above, ok.inj, ok.has, ok.cab, ok.hd, ok.frames, ok.stk, ok.exf, ok.bs, ok.bsz, ok.noex, ok.exfs, ok.funs, ok.frf, ok.tab, ok.fc⟩
section
variable {X : Cx} {pins : List (Addr × Obj)} {σ : St} {H : Hp} {s : Shared} {E : Value → Shared → Prop}
theorem Inv.wish (I : Inv X pins σ H s) (E : Value → Shared → Prop) : Inv (X.wish E) pins σ H s := ⟨I.ok.wish E, I.os, I.bare, I.base, I.loc, I.cell, I.free, I.freeC, I.pin, I.hok, I.len⟩
theorem Inv.unwish (I : Inv (X.wish E) pins σ H s) : Inv X pins σ H s := ⟨I.ok.unwish, I.os, I.bare, I.base, I.loc, I.cell, I.free, I.freeC, I.pin, I.hok, I.len⟩
theorem SP.unwish {D : Ends} {f : Flow} {s' : Shared} (h : SP (X.wish E) pins D f s') : SP X pins D f s' := by
  cases f with
  | next => obtain ⟨σ', H', I, q⟩ := h; exact ⟨σ', H', I.unwish, q⟩
  | brk => obtain ⟨σ', H', I, q⟩ := h; exact ⟨σ', H', I.unwish, q⟩
  | cont => obtain ⟨σ', H', I, q⟩ := h; exact ⟨σ', H', I.unwish, q⟩
  | ret u => obtain ⟨v, H', I, r, q⟩ := h; exact ⟨v, H', ⟨I.os, I.bare, I.base, I.hok⟩, r, q⟩
theorem PE.nox {e : Expr} {t : TE} (h : PE X.nox e t) : PE X e t := fun pins s σ H Q I hw =>
  wpAny_mono (h pins s σ H Q (I.wish _) hw) (fun _ _ ⟨v, H', I', r, q⟩ => ⟨v, H', I'.unwish, r, q⟩) fun _ _ z => False.elim z
theorem PT.nox {e : Expr} {t : TT} (h : PT X.nox e t) : PT X e t := fun pins s σ H Q I hw =>
  wpAny_mono (h pins s σ H Q (I.wish _) hw) (fun _ _ ⟨H', I', q⟩ => ⟨H', I'.unwish, q⟩) fun _ _ z => False.elim z
theorem PSs.nox {st : List Stmt} {t : TS} (h : PSs X.nox st t) : PSs X st t := fun pins s σ H D I hw =>
  wpAny_mono (h pins s σ H D (I.wish _) hw) (fun _ _ q => q.unwish) fun _ _ z => False.elim z
end
/-! ### blocks and small statements -/
section
variable {X : Cx} {st : Stmt} {rest : List Stmt} {t u : TS} {e : Expr} {te : TE} {pos : Pos}
def tNext : TS := fun D σ H => D.nx σ H
def tSeq (t u : TS) : TS := fun D σ H => t { D with nx := u D } σ H
theorem pss_nil : PSs X [] tNext := fun _ _ σ H _ I h => wpAny_execs_nil ⟨σ, H, I, h⟩
theorem pss_cons (h1 : PS X st t) (h2 : PSs X rest u) : PSs X (st :: rest) (tSeq t u) := by
  intro pins s σ H D I h
  refine wpAny_execs_cons (thn (h1 pins s σ H { D with nx := u D } I h) fun f s1 q => ?_)
  cases f with
  | next =>
    obtain ⟨σ', H', I', q⟩ := q
    exact h2 pins s1 σ' H' D I' q
  | ret v => exact q
  | brk => exact q
  | cont => exact q
theorem pss_one (h1 : PS X st t) : PSs X [st] t := by
  intro pins s σ H D I h
  refine wpAny_execs_cons (thn (h1 pins s σ H D I h) fun f s1 q => ?_)
  cases f with
  | next => exact wpAny_execs_nil q
  | ret v => exact q
  | brk => exact q
  | cont => exact q
/-- in a def's body nothing is shown -/
theorem Inv.quiet {pins : List (Addr × Obj)} {σ : St} {H : Hp} {s : Shared} (I : Inv X pins σ H s) : interactive X.env = false := by simp [interactive, I.ok.kind]
/-- an expression whose value is dropped -/
def tDrop (te : TE) : TS := fun D σ H => te σ H fun _ H1 => D.nx σ H1
theorem ps_expr (he : PE X e te) (hs : swapsWith e none pos.line X.env = pure false := by rfl) : PS X (.Expr e pos) (tDrop te) := by
  intro pins s σ H D I h
  exact wpAny_Expr_any (thn (he pins s σ H _ I h) fun v s1 ⟨x, H1, I1, r1, q1⟩ => ⟨σ, H1, I1, q1⟩) I.quiet hs
def tRet (te : TE) : TS := fun D σ H => te σ H D.rt
theorem ps_ret (he : PE X e te) : PS X (.Return (some e) pos) (tRet te) := by
  intro pins s σ H D I h
  exact wpAny_Return_some (thn (he pins s σ H _ I h) fun v s1 ⟨x, H1, I1, r1, q1⟩ => ⟨x, H1, I1.fin, r1, q1⟩)
def tIfS (c : TT) (t u : TS) : TS := fun D σ H => c σ H fun b H1 => if b = true then t D σ H1 else u D σ H1
theorem ps_if {c : Expr} {a b : List Stmt} {tc : TT} (hc : PT X c tc) (ha : PSs X a t) (hb : PSs X b u) : PS X (.If c a b pos) (tIfS tc t u) := by
  intro pins s σ H D I h
  refine wpAny_If (thn (hc pins s σ H _ I h) fun d s1 ⟨H1, I1, q1⟩ => ?_)
  cases d with
  | true => exact ha pins s1 σ H1 D I1 q1
  | false => exact hb pins s1 σ H1 D I1 q1
end
/-! ### targets -/
abbrev TG := V → St → Hp → (St → Hp → Prop) → Prop
abbrev TGs := List V → St → Hp → (St → Hp → Prop) → Prop
def PG (X : Cx) (target : Expr) (t : TG) : Prop :=
  ∀ (pins : List (Addr × Obj)) (s : Shared) (σ : St) (H : Hp) (v : V) (u : Value) (Q : St → Hp → Prop), Inv X pins σ H s → RelV v u → t v σ H Q →
    wpAny (model X.prog X.w) X.A (assign target X.env u) (fun _ s' => ∃ σ' H', Inv X pins σ' H' s' ∧ Q σ' H') X.xe s
/-- several targets, one after another -/
def PGs (X : Cx) (ts : List Expr) (t : TGs) : Prop :=
  ∀ (pins : List (Addr × Obj)) (s : Shared) (σ : St) (H : Hp) (vs : List V) (us : List Value) (Q : St → Hp → Prop), Inv X pins σ H s → Vals vs us → t vs σ H Q →
    wpAny (model X.prog X.w) X.A (assignInOrder ((assignEach ts X.env).map (·.2)) us) (fun _ s' => ∃ σ' H', Inv X pins σ' H' s' ∧ Q σ' H') X.xe s
section
variable {X : Cx} {pos : Pos}
def gName (i : Nat) : TG := fun v σ H Q => Q (σ.set i (some v)) H
theorem pg_name {i : Nat} {x : Str} (hN : X.N.Nodup) (hi : X.N[i]? = some x) (hx : Loc X.env.scope x) (hf : X.fn x = true ∨ X.env.scope.names.lookup x = some .local := by first | exact .inl rfl | exact .inr rfl | assumption) : PG X (.Name x pos) (gName i) := by
  intro pins s σ H v u Q I r h
  exact wpAny_assign_Name (store_ok I hN hi hx r (fun s' I' => ⟨_, H, I', h⟩) hf)
def gNil : TGs := fun vs σ H Q => vs = [] ∧ Q σ H
def gCons (t : TG) (u : TGs) : TGs := fun vs σ H Q => ∃ v r, vs = v :: r ∧ t v σ H fun σ' H' => u r σ' H' Q
theorem pgs_nil : PGs X [] gNil := by
  intro pins s σ H vs us Q I r h
  obtain ⟨e, h⟩ := h
  subst e
  cases r
  exact assignInOrder_nil ⟨σ, H, I, h⟩
theorem pgs_cons {e : Expr} {es : List Expr} {t : TG} {u : TGs} (h1 : PG X e t) (h2 : PGs X es u)
    (hs : (assignEach (e :: es) X.env).map (·.2) = assign e X.env :: (assignEach es X.env).map (·.2) := by rfl) : PGs X (e :: es) (gCons t u) := by
  intro pins s σ H vs us Q I r h
  obtain ⟨v, vr, e1, h⟩ := h
  subst e1
  cases r with
  | cons r rr =>
    rw [hs]
    refine assignInOrder_cons (thn (h1 pins s σ H _ _ _ I r h) fun _ s1 ⟨σ1, H1, I1, q1⟩ => ?_)
    exact h2 pins s1 σ1 H1 _ _ Q I1 rr q1
/-- (a, b, ..) = a tuple of that length -/
def gTup (K : PySem.W.Frag) (n : Nat) (t : TGs) : TG := fun v σ H Q => ∃ a xs, v = .ref a ∧ SqT K H a xs ∧ xs.length = n ∧ t xs σ H Q
theorem pg_tup {es : List Expr} {k : Nat} {t : TGs} {n : Nat} (hc : X.calm = true) (h : PGs X es t)
    (hn : (assignEach es X.env).length = n := by rfl) (hst : (assignEach es X.env).findIdx? (·.1) = none := by rfl) : PG X (.Tuple es k pos) (gTup X.K n t) := by
  intro pins s σ H v u Q I r hw
  obtain ⟨a, xs, e1, hq, hl, hw⟩ := hw
  subst e1
  cases r
  obtain ⟨its, rv, ht, hz⟩ := I.tuple hq
  refine assign_Tuple_tuple (I.ok.hd hc) ht (by simp [hn, ← hl, rv.length]) hst fun h' hx => ?_
  have I1 : Inv X pins σ H { s with heap := h' } := I.kept (t' := s.toks) fun b o e => hx b o (Nat.ne_of_lt (Heap.lt_size e)) e
  exact h pins _ σ H xs _ Q I1 (by simpa using rv) hw
/-- target = value -/
def tAsg (te : TE) (g : TG) : TS := fun D σ H => te σ H fun x H1 => g x σ H1 D.nx
theorem ps_asg {tg e : Expr} {te : TE} {g : TG} (he : PE X e te) (hg : PG X tg g) (hs : swapsWithSole [tg] e pos.line X.env = pure false := by rfl) (hw : swappedStores [tg] e X.env = pure none := by rfl)
    (h1 : (assignEach [tg] X.env).map (·.2) = [assign tg X.env] := by rfl) : PS X (.Assign [tg] e pos) (tAsg te g) := by
  intro pins s σ H D I h
  refine wpAny_Assign_stores (thn (he pins s σ H _ I h) fun v s1 ⟨x, H1, I1, r1, q1⟩ => ?_) hs hw
  rw [h1]
  exact thn (hg pins s1 σ H1 x v _ I1 r1 q1) fun _ s2 q => q
/-- name = value -/
theorem ps_set {i : Nat} {x : Str} {e : Expr} {te : TE} {pos' : Pos} (hN : X.N.Nodup) (hi : X.N[i]? = some x) (hx : Loc X.env.scope x) (he : PE X e te) (hs : swapsWith e (some (.Name x pos')) pos.line X.env = pure false := by rfl) (hf : X.fn x = true ∨ X.env.scope.names.lookup x = some .local := by first | exact .inl rfl | exact .inr rfl | assumption) :
    PS X (.Assign [.Name x pos'] e pos) (tAsg te (gName i)) := by
  intro pins s σ H D I h
  refine wpAny_Assign_Name (thn (he pins s σ H _ I h) fun v s1 ⟨y, H1, I1, r1, q1⟩ => ?_) hs
  exact store_ok I1 hN hi hx r1 (fun s2 I2 => ⟨_, H1, I2, q1⟩) hf
end
/-! ### while -/
section
variable {X : Cx} {pos : Pos}
/-- the invariant W with its measure -/
def tWhile (c : TT) (tb : TS) : TS := fun D σ H => ∃ W : Nat → St → Hp → Prop, (∃ m, W m σ H) ∧ ∀ m σ H, W m σ H →
  c σ H fun b H1 => if b = true then ∃ N : St → Hp → Prop, (∀ σ' H', N σ' H' → ∃ m', m' < m ∧ W m' σ' H') ∧ tb { D with nx := N, ct := N, bk := D.nx } σ H1 else D.nx σ H1
theorem ps_while {c : Expr} {body : List Stmt} {tc : TT} {tb : TS} (hp : PassesOwn (model X.prog X.w) X.A X.env X.xe) (hc : PT X c tc) (hb : PSs X body tb) : PS X (.While c body [] pos) (tWhile tc tb) := by
  intro pins s σ H D I h
  obtain ⟨W, ⟨m0, w0⟩, turn⟩ := h
  refine wpAny_While (codeAny_whileLoop (fun n s' => ∃ σ' H', Inv X pins σ' H' s' ∧ W n σ' H') ?_ m0 ⟨σ, H, I, w0⟩)
  rintro n s1 ⟨σ1, H1, I1, w1⟩
  refine wpAny_passesOwn hp (thn (hc pins s1 σ1 H1 _ I1 (turn n σ1 H1 w1)) fun b s2 ⟨H2, I2, q2⟩ => ?_)
  cases b with
  | true =>
    obtain ⟨N, hN, q2⟩ := q2
    rw [if_pos rfl]
    refine wpAny_passesOwn hp (thn (hb pins s2 σ1 H2 _ I2 q2) fun f s3 q3 => ?_)
    cases f with
    | next =>
      obtain ⟨σ3, H3, I3, n3⟩ := q3
      obtain ⟨m', hm, w3⟩ := hN σ3 H3 n3
      exact ⟨m', hm, σ3, H3, I3, w3⟩
    | cont =>
      obtain ⟨σ3, H3, I3, n3⟩ := q3
      obtain ⟨m', hm, w3⟩ := hN σ3 H3 n3
      exact ⟨m', hm, σ3, H3, I3, w3⟩
    | brk => exact q3
    | ret v => exact q3
  | false =>
    rw [if_neg Bool.false_ne_true]
    exact wpAny_execs_nil ⟨σ1, H2, I2, q2⟩
end
/-! ### what a loop or a comprehension walks -/
/-- at turn i: it yields x (the heap may grow), or it stops -/
structure It where
  go : Nat → Hp → Prop
  yld : Nat → Hp → V → Hp → Prop
  stop : Nat → Hp → Prop
/-- the iterator's own objects may turn: they are not the frame's, not pinned, younger than the entry (or a comprehension's own) -/
def FpOk (X : Cx) (pins : List (Addr × Obj)) (H : Hp) (b : Addr) : Prop :=
  H b = none ∧ b ≠ X.env.locals ∧ b ∉ X.fs ∧ (b ∈ X.ex ∨ X.s₀.heap.objs.size ≤ b) ∧ (∀ x c, X.env.cells.lookup x = some c → c ≠ b) ∧ ∀ p ∈ X.pn ++ pins, p.1 ≠ b
theorem Inv.fpOk {X : Cx} {pins : List (Addr × Obj)} {σ : St} {H H' : Hp} {s : Shared} {b : Addr} (I : Inv X pins σ H s) (hb : s.heap.objs.size ≤ b) (hn : H' b = none) : FpOk X pins H' b := by
  refine ⟨hn, Nat.ne_of_gt (Nat.lt_of_lt_of_le I.lt hb), I.nofs hb, .inr (Nat.le_trans I.sz hb), fun x c e z => ?_, fun p hp z => ?_⟩
  · obtain ⟨v, q⟩ := I.cell x c e
    exact absurd (Nat.lt_of_lt_of_le q.lt (by rw [z]; exact hb)) (Nat.lt_irrefl _)
  · exact absurd (Nat.lt_of_lt_of_le (Heap.lt_size (I.pin p hp).1) (by rw [z]; exact hb)) (Nat.lt_irrefl _)
structure Turn (P : Program) (w : World) (K : PySem.W.Frag) (tg : Expr) (J : It) (fp : List Addr) (it : Addr) (tn : Nat → Heap → Prop) : Prop where
  mem : it ∈ fp
  obj : ∀ i h, tn i h → ∀ b ∈ fp, ∃ o, h.get? b = some o ∧ ∀ v, o.data ≠ .cell v
  keep : ∀ i h h', tn i h → (∀ b ∈ fp, ∀ o, h.get? b = some o → h'.get? b = some o) → tn i h'
  item : ∀ (X : Cx), X.prog = P → X.w = w → X.K = K → X.calm = true → ∀ (i : Nat) (pins : List (Addr × Obj)) (s : Shared) (σ : St) (H : Hp) (E : Value → Shared → Prop), Inv X pins σ H s → (∀ b ∈ fp, FpOk X pins H b) → tn i s.heap → J.go i H →
    wpAny (model P w) X.A (pyNext (.ref it)) (fun r s1 => ∃ u, r = some u ∧
      wpAny (model P w) X.A (letOwnedTupleGo tg (.ref it) u) (fun _ s2 => ∃ x H', Inv X pins σ H' s2 ∧ RelV x u ∧ J.yld i H x H' ∧ tn (i + 1) s2.heap ∧ ∀ b ∈ fp, H' b = none) E s1) E s
  done : ∀ (X : Cx), X.prog = P → X.w = w → X.K = K → X.calm = true → ∀ (i : Nat) (pins : List (Addr × Obj)) (s : Shared) (σ : St) (H : Hp) (E : Value → Shared → Prop), Inv X pins σ H s → (∀ b ∈ fp, FpOk X pins H b) → tn i s.heap → J.stop i H →
    wpAny (model P w) X.A (pyNext (.ref it)) (fun r s1 => r = none ∧ Inv X pins σ H s1) E s
  self : ∀ (A : Around) (i : Nat) (s : Shared) (Q : Value → Shared → Prop) (E : Value → Shared → Prop), tn i s.heap → Q (.ref it) s → wpAny (model P w) A (pyIter (.ref it)) Q E s
abbrev TI := St → Hp → (It → Hp → Prop) → Prop
/-- an iterator has come -/
def PIE (X : Cx) (pins : List (Addr × Obj)) (σ : St) (tg : Expr) (R : It → Hp → Prop) (itv : Value) (s2 : Shared) : Prop :=
  ∃ (it : Addr) (fp : List Addr) (tn : Nat → Heap → Prop) (J : It) (H' : Hp), itv = .ref it ∧ Inv X pins σ H' s2 ∧ Turn X.prog X.w X.K tg J fp it tn ∧ tn 0 s2.heap ∧ (∀ b ∈ fp, FpOk X pins H' b) ∧ R J H'
def PI (X : Cx) (tg iter : Expr) (wi : TI) : Prop :=
  ∀ (pins : List (Addr × Obj)) (s : Shared) (σ : St) (H : Hp) (R : It → Hp → Prop), Inv X pins σ H s → wi σ H R →
    wpAny (model X.prog X.w) X.A (eval iter X.env) (fun v s1 => wpAny (model X.prog X.w) X.A (pyIter v) (PIE X pins σ tg R) X.xe s1) X.xe s
/-- the step ahead of the store is nothing for an iterator that keeps no tuple -/
theorem go_of {M : Model} {A : Around} {E : Value → Shared → Prop} {s : Shared} {tg : Expr} {it : Addr} {u : Value} {o : Obj} {n : String} {vs : Array Value} {Q : Unit → Shared → Prop} (ho : s.heap.get? it = some o) (hc : o.cls = .type n) (hd : o.data = .fields vs)
    (hn : ["enumerate", "zip", "dict_itemiterator", "dict_reverseitemiterator", "odict_iterator", "itertools.zip_longest", "itertools.pairwise"].contains n = false) (hQ : Q () s) : wpAny M A (letOwnedTupleGo tg (.ref it) u) Q E s := by
  unfold letOwnedTupleGo
  cases tg <;> first
    | exact wpAny_pure hQ
    | (cases u <;> first
        | exact wpAny_pure hQ
        | (refine wpAny_bind (wpAny_load ho ?_)
           rw [hc, hd]
           show wpAny M A (if (["enumerate", "zip", "dict_itemiterator", "dict_reverseitemiterator", "odict_iterator", "itertools.zip_longest", "itertools.pairwise"].contains n && vs[0]? == some (rawInt _)) = true then _ else _) Q E s
           rw [if_neg (by intro h; rw [hn, Bool.false_and] at h; cases h)]
           exact wpAny_pure hQ))
/-- the list at a, as it stands at each turn (a loop may append to it) -/
def Itl (K : PySem.W.Frag) (a : Addr) : It :=
  ⟨fun i H => ∃ xs x, SqL K H a xs ∧ xs[i]? = some x, fun i H x H' => H' = H ∧ ∀ xs, SqL K H a xs → xs[i]? = some x, fun i H => ∃ xs, SqL K H a xs ∧ xs.length ≤ i⟩
/-- lo, lo + 1, .. (n of them) -/
def Itr (lo : Int) (n : Nat) : It := ⟨fun i _ => i < n, fun i H x H' => H' = H ∧ x = .int (lo + i), fun i _ => n ≤ i⟩
theorem turn_list {P : Program} {w : World} {K : PySem.W.Frag} {tg : Expr} (a it : Addr) : Turn P w K tg (Itl K a) [it] it (fun i h => h.IsListIter it a i) where
  mem := by simp
  obj := fun i h st b hb => by
    have e : b = it := by simpa using hb
    subst e
    obtain ⟨o, e, c, d⟩ := st
    exact ⟨o, e, fun v z => by rw [d] at z; cases z⟩
  keep := fun i h h' st k => st.at fun o e => k it (by simp) o e
  item := by
    intro X hP hw hK hc i pins s σ H E I hf st hg
    subst hP hw hK
    obtain ⟨xs, x, hq, hx⟩ := hg
    obtain ⟨its, rv, p, hz⟩ := I.list hq
    obtain ⟨u, hu, ru⟩ := rv.get hx
    obtain ⟨f0, f1, f2, f3, f4, f5⟩ := hf it (by simp)
    refine wpAny_pyNext_list_item st p.isList (x := u) (by simpa using hu) fun h' st' sb => ?_
    have I1 : Inv X pins σ H { s with heap := h' } := I.turned (t' := s.toks) (fun b o hb e => (sb.2 b hb).trans e) f0 f1 f3 f4 f5
    obtain ⟨o, e, c, d⟩ := id st'
    exact ⟨u, rfl, go_of (s := { s with heap := h' }) e c d (by decide) ⟨x, H, I1, ru, ⟨rfl, fun ys hy => by rw [I.list_inj hy hq]; exact hx⟩, st', fun b hb => (hf b hb).1⟩⟩
  done := by
    intro X hP hw hK hc i pins s σ H E I hf st hg
    subst hP hw hK
    obtain ⟨xs, hq, hx⟩ := hg
    obtain ⟨its, rv, p, hz⟩ := I.list hq
    obtain ⟨f0, f1, f2, f3, f4, f5⟩ := hf it (by simp)
    have hl := rv.length
    exact wpAny_pyNext_list_end (I.ok.hd hc) st p.isList (by simp; omega) fun h' eb => ⟨rfl, I.turned (t' := s.toks) (fun b o hb e => eb b o hb e) f0 f1 f3 f4 f5⟩
  self := fun _ _ _ _ _ st h => wpAny_pyIter_listiter st h
theorem turn_range {P : Program} {w : World} {K : PySem.W.Frag} {tg : Expr} (it : Addr) (lo : Int) (n : Nat) : Turn P w K tg (Itr lo n) [it] it (fun i h => IsRangeIter h it (lo + (i : Nat) * 1) ((n : Int) - (i : Nat)) 1) where
  mem := by simp
  obj := fun i h st b hb => by
    have e : b = it := by simpa using hb
    subst e
    exact ⟨_, st, fun v z => by
      have z' : Data.fields _ = Data.cell v := z
      cases z'⟩
  keep := fun i h h' st k => k it (by simp) _ st
  item := by
    intro X hP hw hK hc i pins s σ H E I hf st hg
    subst hP hw hK
    obtain ⟨f0, f1, f2, f3, f4, f5⟩ := hf it (by simp)
    have W := Walks.range (prog := X.prog) (w := X.w) (I.ok.hd hc) it lo 1 n
    refine W.item i s _ _ hg st fun v h' tk hv st' kk => ?_
    obtain ⟨t, rfl⟩ := hv
    have I1 : Inv X pins σ H { s with heap := h', toks := tk } := I.turned (fun b o hb e => kk b o (by simpa using hb) e) f0 f1 f3 f4 f5
    refine ⟨_, rfl, go_of (s := { s with heap := h', toks := tk }) (n := "range_iterator") st' rfl rfl (by decide) ⟨.int (lo + i), H, I1, ⟨t, ?_⟩, ⟨rfl, rfl⟩, st', fun b hb => (hf b hb).1⟩⟩
    rw [Int.mul_one]
  done := by
    intro X hP hw hK hc i pins s σ H E I hf st hg
    subst hP hw hK
    obtain ⟨f0, f1, f2, f3, f4, f5⟩ := hf it (by simp)
    exact wpAny_pyNext_range_end (I.ok.hd hc) st (by have : n ≤ i := hg; omega) fun h' eb => ⟨rfl, I.turned (t' := s.toks) (fun b o hb e => eb b o hb e) f0 f1 f3 f4 f5⟩
  self := fun _ _ _ _ _ st h => wpAny_pyIter_rangeiter st h
end L2
namespace L2
open PySem PySem.Spec PyProof.Rows
section
variable {X : Cx} {tg : Expr}
def iList (K : PySem.W.Frag) (tl : TE) : TI := fun σ H R => tl σ H fun x H1 => ∃ a, x = .ref a ∧ (∃ xs, SqL K H1 a xs) ∧ R (Itl K a) H1
theorem pi_list {l : Expr} {tl : TE} (hl : PE X l tl) : PI X tg l (iList X.K tl) := by
  intro pins s σ H R I h
  refine thn (hl pins s σ H _ I h) fun v s1 ⟨x, H1, I1, r1, q1⟩ => ?_
  obtain ⟨a, e, ⟨xs, hq⟩, q⟩ := q1
  subst e
  cases r1
  obtain ⟨its, rv, p, hz⟩ := I1.list hq
  refine wpAny_pyIter_list p.isList ?_
  refine ⟨s1.heap.objs.size, [s1.heap.objs.size], _, _, H1, rfl, I1.kept (t' := s1.toks) fun b o e => Heap.get?_push_of_some _ e, turn_list a _, ⟨_, Heap.get?_push_size _ rfl, rfl, rfl⟩, fun b hb => ?_, q⟩
  have e : b = s1.heap.objs.size := by simpa using hb
  subst e
  exact I1.fpOk (Nat.le_refl _) (I1.hok.fresh (Nat.le_refl _))
/-- a range object just made, walked -/
theorem range_it {pins : List (Addr × Obj)} {σ : St} {H : Hp} {s : Shared} {R : It → Hp → Prop} {E : Value → Shared → Prop} {lo hi : Int} {t u v : Tok} {tk : Nat} (I : Inv X pins σ H s) (h1 : -(2 ^ 62) ≤ lo) (h2 : lo < 2 ^ 62) (h3 : -(2 ^ 62) ≤ hi) (h4 : hi < 2 ^ 62)
    (q : R (Itr lo (hi - lo).toNat) H) : wpAny (model X.prog X.w) X.A (pyIter (.ref s.heap.objs.size)) (PIE X pins σ tg R) E { s with heap := s.heap.push { cls := .type "range", data := .fields #[.int lo t, .int hi u, .int 1 v] }, toks := tk } := by
  refine wpAny_pyIter_range (IsRange.new ..) (small_one h1 h2 h3 h4) ?_
  have I1 : Inv X pins σ H { s with heap := s.heap.push { cls := .type "range", data := .fields #[.int lo t, .int hi u, .int 1 v] }, toks := tk } := I.kept fun b o e => Heap.get?_push_of_some _ e
  refine ⟨(s.heap.push { cls := .type "range", data := .fields #[.int lo t, .int hi u, .int 1 v] }).objs.size, [(s.heap.push { cls := .type "range", data := .fields #[.int lo t, .int hi u, .int 1 v] }).objs.size], _, _, H, rfl,
    I1.kept (t' := tk) fun b o e => Heap.get?_push_of_some _ e, turn_range _ lo (hi - lo).toNat, ?_, fun b hb => ?_, q⟩
  · have e1 : lo + ((0 : Nat) : Int) * 1 = lo := by simp
    have e2 : (((hi - lo).toNat : Nat) : Int) - ((0 : Nat) : Int) = Builtin.Range.rangeSize lo hi 1 := by rw [rangeSize_one]; split <;> omega
    show IsRangeIter _ _ (lo + ((0 : Nat) : Int) * 1) ((((hi - lo).toNat : Nat) : Int) - ((0 : Nat) : Int)) 1
    rw [e1, e2]
    exact Heap.get?_push_size _ rfl
  · have e : b = (s.heap.push { cls := .type "range", data := .fields #[.int lo t, .int hi u, .int 1 v] }).objs.size := by simpa using hb
    subst e
    exact I1.fpOk (Nat.le_refl _) (I1.hok.fresh (Nat.le_refl _))
def iRng1 (ta : TA) : TI := fun σ H R => ta σ H fun vs H1 => ∃ j : Int, vs = [.int j] ∧ -(2 ^ 62) ≤ j ∧ j < 2 ^ 62 ∧ R (Itr 0 j.toNat) H1
theorem pi_range1 {a : Expr} {ta : TA} {p pos : Pos} (hg : Gl X "range") (hm : X.mg "range" = none) (ha : PA X [a] ta) (hs : starEach [a] X.env = [(false, eval a X.env)] := by rfl) : PI X tg (.Call (.Name "range" p) [a] [] pos) (iRng1 ta) := by
  intro pins s σ H R I h
  refine Call_ (ld_blt I hg hm boot_range (PyProof.Rows.callWith_type1 (thn (ha pos pins s σ H _ I h) fun us s1 ⟨vs, H1, I1, r1, q1⟩ => ?_) hs rfl))
  obtain ⟨j, e, q1, q2, q⟩ := q1
  subst e
  cases r1 with
  | cons r rr =>
    cases rr
    obtain ⟨t, rfl⟩ := r
    exact call_range_1 (range_it I1 (by omega) (by omega) q1 q2 (by simpa using q))
/-! ### for -/
/-- W: the invariant by the turn and a measure; N: what the body is to reach -/
def tFor (wi : TI) (g : TG) (tb : TS) : TS := fun D σ H => wi σ H fun J H1 => ∃ W : Nat → Nat → St → Hp → Prop, (∃ m, W 0 m σ H1) ∧ ∀ i m σ H, W i m σ H →
  (J.stop i H ∧ D.nx σ H) ∨ (J.go i H ∧ ∃ N : St → Hp → Prop, (∀ σ' H', N σ' H' → ∃ m', m' < m ∧ W (i + 1) m' σ' H') ∧ ∀ x H', J.yld i H x H' → g x σ H' fun σ2 H2 => tb { D with nx := N, ct := N, bk := D.nx } σ2 H2)
/-- the records at fp as they stand -/
def pinsAt (fp : List Addr) (h : Heap) : List (Addr × Obj) := fp.filterMap fun b => (h.get? b).map fun o => (b, o)
theorem mem_pinsAt {fp : List Addr} {h : Heap} {b : Addr} {o : Obj} (hb : b ∈ fp) (e : h.get? b = some o) : (b, o) ∈ pinsAt fp h := List.mem_filterMap.mpr ⟨b, hb, by rw [e]; rfl⟩
theorem of_pinsAt {fp : List Addr} {h : Heap} {p : Addr × Obj} (hp : p ∈ pinsAt fp h) : p.1 ∈ fp ∧ h.get? p.1 = some p.2 := by
  obtain ⟨b, hb, e⟩ := List.mem_filterMap.mp hp
  cases q : h.get? b with
  | none => rw [q] at e; cases e
  | some o =>
    rw [q] at e
    have e' : (b, o) = p := Option.some.inj e
    subst e'
    exact ⟨hb, q⟩
theorem Inv.pinned {pins : List (Addr × Obj)} {σ : St} {H : Hp} {s : Shared} {fp : List Addr} (I : Inv X pins σ H s) (hf : ∀ b ∈ fp, FpOk X pins H b) (ho : ∀ b ∈ fp, ∃ o, s.heap.get? b = some o ∧ ∀ v, o.data ≠ .cell v) : Inv X (pins ++ pinsAt fp s.heap) σ H s :=
  I.pins_of fun p hp => (List.mem_append.mp hp).elim (fun z => I.pin p (List.mem_append_right _ z)) fun z => by
    obtain ⟨hb, e⟩ := of_pinsAt z
    obtain ⟨f0, f1, f2, _⟩ := hf p.1 hb
    obtain ⟨o, e', d⟩ := ho p.1 hb
    rw [e] at e'; cases e'
    exact ⟨e, f0, f1, f2, d⟩
theorem Inv.unpinned {pins pl : List (Addr × Obj)} {σ : St} {H : Hp} {s : Shared} (I : Inv X (pins ++ pl) σ H s) : Inv X pins σ H s := I.pins_of fun p hp => I.pin p (List.mem_append_right _ (List.mem_append_left _ hp))
theorem ps_for {iter : Expr} {body : List Stmt} {wi : TI} {g : TG} {tb : TS} {pos : Pos} (hp : PassesOwn (model X.prog X.w) X.A X.env X.xe) (hc : X.calm = true) (hi : PI X tg iter wi) (hg : PG X tg g) (hb : PSs X body tb)
    (hs : ∀ x, foldedSetIterable iter X.env x = pure x := by intro _; rfl) : PS X (.For tg iter body [] pos) (tFor wi g tb) := by
  intro pins s σ H D I h
  refine wpAny_For (thn (hi pins s σ H _ I h) fun v s1 h1 => thn h1 fun itv s2 h2 => ?_) hs
  obtain ⟨it, fp, tn, J, H2, e, I2, T, st2, f2, W, ⟨m0, w0⟩, turn⟩ := h2
  subst e
  -- what stays true of the iterator's objects through the loop
  have stat : ∀ {H' : Hp}, (∀ b ∈ fp, H' b = none) → ∀ b ∈ fp, FpOk X pins H' b := fun hn b hb => ⟨hn b hb, (f2 b hb).2⟩
  refine codeAny_forLoop_any (fun n s' => ∃ i σ' H', Inv X pins σ' H' s' ∧ tn i s'.heap ∧ (∀ b ∈ fp, H' b = none) ∧ W i n σ' H') ?_ m0 ⟨0, σ, H2, I2, st2, fun b hb => (f2 b hb).1, w0⟩
  rintro n s3 ⟨i, σ3, H3, I3, st3, fr3, w3⟩
  rcases turn i n σ3 H3 w3 with ⟨stop, qn⟩ | ⟨go, N, hN, step⟩
  · refine wpAny_passesOwn hp (thn (T.done X rfl rfl rfl hc i pins s3 σ3 H3 X.xe I3 (stat fr3) st3 stop) fun r s4 ⟨hr, I4⟩ => ?_)
    subst hr
    exact wpAny_execs_nil ⟨σ3, H3, I4, qn⟩
  · refine wpAny_passesOwn hp (thn (T.item X rfl rfl rfl hc i pins s3 σ3 H3 X.xe I3 (stat fr3) st3 go) fun r s4 ⟨u, hr, h4⟩ => ?_)
    subst hr
    refine wpAny_passesOwn hp (thn h4 fun _ s5 ⟨x, H5, I5, r5, y5, st5, fr5⟩ => ?_)
    have I5' := I5.pinned (stat fr5) (T.obj _ _ st5)
    refine wpAny_passesOwn hp (thn (hg _ s5 σ3 H5 x u _ I5' r5 (step x H5 y5)) fun _ s6 ⟨σ6, H6, I6, q6⟩ => ?_)
    refine wpAny_passesOwn hp (thn (hb _ s6 σ6 H6 _ I6 q6) fun f s7 q7 => ?_)
    have again : ∀ {σ7 : St} {H7 : Hp}, Inv X (pins ++ pinsAt fp s5.heap) σ7 H7 s7 → N σ7 H7 → ∃ m, m < n ∧ ∃ i σ' H', Inv X pins σ' H' s7 ∧ tn i s7.heap ∧ (∀ b ∈ fp, H' b = none) ∧ W i m σ' H' := fun {σ7 H7} I7 n7 => by
      obtain ⟨m', hm, w7⟩ := hN σ7 H7 n7
      refine ⟨m', hm, i + 1, σ7, H7, I7.unpinned, T.keep _ _ _ st5 fun b hb o e => (I7.pin (b, o) (List.mem_append_right _ (List.mem_append_right _ (mem_pinsAt hb e)))).1, fun b hb => ?_, w7⟩
      obtain ⟨o, e, d⟩ := T.obj _ _ st5 b hb
      exact (I7.pin (b, o) (List.mem_append_right _ (List.mem_append_right _ (mem_pinsAt hb e)))).2.1
    cases f with
    | next => obtain ⟨σ7, H7, I7, n7⟩ := q7; exact again I7 n7
    | cont => obtain ⟨σ7, H7, I7, n7⟩ := q7; exact again I7 n7
    | brk => obtain ⟨σ7, H7, I7, q7⟩ := q7; exact ⟨σ7, H7, I7.unpinned, q7⟩
    | ret v => exact q7
end
end L2
namespace L2
open PySem PySem.Spec PyProof.Rows
abbrev R2 := V → V → Hp → VK → Prop
/-- a two-place operation on values: f is binaryOp op, inplaceOp op or compareOp op -/
def OpR (X : Cx) (f : Value → Value → Sem Value) (r : R2) : Prop :=
  ∀ (pins : List (Addr × Obj)) (s : Shared) (σ : St) (H : Hp) (x y : V) (v u : Value) (Q : VK), Inv X pins σ H s → RelV x v → RelV y u → r x y H Q →
    wpAny (model X.prog X.w) X.A (f v u) (EP X pins σ Q) X.xe s
/-- a call of a value that is known (a builtin, a type) with values -/
def CallR (X : Cx) (f : Value) (r : List V → Hp → VK → Prop) : Prop :=
  ∀ (pins : List (Addr × Obj)) (s : Shared) (σ : St) (H : Hp) (xs : List V) (us : List Value) (Q : VK), Inv X pins σ H s → Vals xs us → r xs H Q →
    wpAny (model X.prog X.w) X.A (call f us) (EP X pins σ Q) X.xe s
def tOp (r : R2) (ta tb : TE) : TE := fun σ H Q => ta σ H fun x H1 => tb σ H1 fun y H2 => r x y H2 Q
/-- ints in, under C, and a value out -/
def rI (C : Int → Int → Prop) (g : Int → Int → V) : R2 := fun x y H Q => ∃ i j, x = .int i ∧ y = .int j ∧ C i j ∧ Q (g i j) H
def rI0 (g : Int → Int → V) : R2 := fun x y H Q => ∃ i j, x = .int i ∧ y = .int j ∧ Q (g i j) H
section
variable {X : Cx} {a b c : Expr} {ta tb tc : TE} {pos : Pos}
theorem binT (ha : PE X a ta) (hb : PE X b tb) {pins : List (Addr × Obj)} {s : Shared} {σ : St} {H : Hp} {R : V → V → Hp → Prop} (I : Inv X pins σ H s)
    (h : ta σ H fun x H1 => tb σ H1 fun y H2 => R x y H2) {Q : Value → Shared → Prop} {f : Value → Value → Sem Value}
    (hf : ∀ v u s2 x y H2, Inv X pins σ H2 s2 → RelV x v → RelV y u → R x y H2 → wpAny (model X.prog X.w) X.A (f v u) Q X.xe s2) :
    wpAny (model X.prog X.w) X.A (eval a X.env) (fun v s₁ => wpAny (model X.prog X.w) X.A (eval b X.env) (fun u s₂ => wpAny (model X.prog X.w) X.A (f v u) Q X.xe s₂) X.xe s₁) X.xe s := by
  refine thn (ha pins s σ H _ I h) fun v s1 ⟨x, H1, I1, r1, q1⟩ => ?_
  refine thn (hb pins s1 σ H1 _ I1 q1) fun u s2 ⟨y, H2, I2, r2, q2⟩ => ?_
  exact hf v u s2 x y H2 I2 r1 r2 q2
theorem pe_op {op : Operator} {r : R2} (ho : OpR X (binaryOp op) r) (ha : PE X a ta) (hb : PE X b tb) : PE X (.BinOp a op b pos) (tOp r ta tb) := by
  intro pins s σ H Q I h
  exact wpAny_BinOp (binT ha hb I h fun v u s2 x y H2 I2 rx ry q => ho pins s2 σ H2 x y v u Q I2 rx ry q)
/-! ### ints -/
theorem opI {f : Value → Value → Sem Value} {C : Int → Int → Prop} {g : Int → Int → Int}
    (rule : ∀ (i j : Int) (t u : Tok) (s : Shared) (Q : Value → Shared → Prop) (E : Value → Shared → Prop), C i j → Q (.int (g i j) s.toks) { s with toks := s.toks + 1 } → wpAny (model X.prog X.w) X.A (f (.int i t) (.int j u)) Q E s) :
    OpR X f (rI C fun i j => .int (g i j)) := by
  intro pins s σ H x y v u Q I rx ry h
  obtain ⟨i, j, rfl, rfl, hc, q⟩ := h
  obtain ⟨t, rfl⟩ := rx
  obtain ⟨t', rfl⟩ := ry
  exact rule i j t t' s _ _ hc ⟨.int (g i j), H, I.tok _, ⟨_, rfl⟩, q⟩
theorem opI0 {f : Value → Value → Sem Value} {g : Int → Int → Int}
    (rule : ∀ (i j : Int) (t u : Tok) (s : Shared) (Q : Value → Shared → Prop) (E : Value → Shared → Prop), Q (.int (g i j) s.toks) { s with toks := s.toks + 1 } → wpAny (model X.prog X.w) X.A (f (.int i t) (.int j u)) Q E s) :
    OpR X f (rI0 fun i j => .int (g i j)) := by
  intro pins s σ H x y v u Q I rx ry h
  obtain ⟨i, j, rfl, rfl, q⟩ := h
  obtain ⟨t, rfl⟩ := rx
  obtain ⟨t', rfl⟩ := ry
  exact rule i j t t' s _ _ ⟨.int (g i j), H, I.tok _, ⟨_, rfl⟩, q⟩
theorem opB0 {f : Value → Value → Sem Value} {g : Int → Int → Bool}
    (rule : ∀ (i j : Int) (t u : Tok) (s : Shared) (Q : Value → Shared → Prop) (E : Value → Shared → Prop), Q (.bool (g i j)) s → wpAny (model X.prog X.w) X.A (f (.int i t) (.int j u)) Q E s) :
    OpR X f (rI0 fun i j => .bl (g i j)) := by
  intro pins s σ H x y v u Q I rx ry h
  obtain ⟨i, j, rfl, rfl, q⟩ := h
  obtain ⟨t, rfl⟩ := rx
  obtain ⟨t', rfl⟩ := ry
  exact rule i j t t' s _ _ ⟨.bl (g i j), H, I, rfl, q⟩
def CDiv (i j : Int) : Prop := 0 < j ∧ j < 1073741824
def CMul (i j : Int) : Prop := (-(2 ^ 64) < i ∧ i < 2 ^ 64) ∨ (-(2 ^ 64) < j ∧ j < 2 ^ 64)
theorem CMul.ok {i j : Int} (h : CMul i j) : IntMulOk i j := by
  rcases h with ⟨h1, h2⟩ | ⟨h1, h2⟩
  · exact .of_left (intBits_le_64 h1 h2)
  · exact .of_right (intBits_le_64 h1 h2)
theorem two_pow_nn (k : Nat) : (0 : Int) ≤ 2 ^ k := by
  rw [two_pow_cast]
  exact Int.natCast_nonneg _
theorem op_add : OpR X (binaryOp .Add) (rI0 fun i j => .int (i + j)) := opI0 fun _ _ _ _ _ _ _ q => add_int q
theorem op_sub : OpR X (binaryOp .Sub) (rI0 fun i j => .int (i - j)) := opI0 fun _ _ _ _ _ _ _ q => sub_int q
theorem op_mul : OpR X (binaryOp .Mult) (rI CMul fun i j => .int (i * j)) := opI fun _ _ _ _ _ _ _ hc q => mul_int q hc.ok
/-- // by a positive divisor -/
theorem op_fdiv : OpR X (binaryOp .FloorDiv) (rI CDiv fun i j => .int (i / j)) := opI fun i j _ _ _ _ _ hc q => by
  have h1 : (0 : Int) < j := hc.1
  have h2 : j < 1073741824 := hc.2
  exact floordiv_int (by omega) (by rw [Int.fdiv_eq_ediv_of_nonneg i (by omega)]; exact q) (.inl (PyProof.noPylong_small (by omega)))
/-- % by a positive divisor of any size -/
theorem op_mod : OpR X (binaryOp .Mod) (rI (fun _ j => 0 < j) fun i j => .int (i % j)) := opI fun i j _ _ _ _ _ hc q => by
  have h1 : (0 : Int) < j := hc
  exact mod_int' (by omega) (by rw [Int.fmod_eq_emod_of_nonneg i (by omega)]; exact q)
theorem op_shr : OpR X (binaryOp .RShift) (rI (fun _ j => 0 ≤ j) fun i j => .int (i / 2 ^ j.toNat)) := opI fun i j _ _ _ _ _ hc q =>
  rshift_int hc (by rw [Int.fdiv_eq_ediv_of_nonneg i (two_pow_nn _)]; exact q)
theorem op_and : OpR X (binaryOp .BitAnd) (rI0 fun i j => .int (Builtin.bitAnd i j)) := opI0 fun _ _ _ _ _ _ _ q => and_int q
end
section
variable {X : Cx} {a b c : Expr} {ta tb tc : TE} {pos : Pos}
theorem op_lt : OpR X (compareOp .Lt) (rI0 fun i j => .bl (decide (i < j))) := opB0 fun _ _ _ _ _ _ _ q => lt_int q
theorem op_le : OpR X (compareOp .LtE) (rI0 fun i j => .bl (decide (i ≤ j))) := opB0 fun _ _ _ _ _ _ _ q => le_int q
theorem op_gt : OpR X (compareOp .Gt) (rI0 fun i j => .bl (decide (j < i))) := opB0 fun _ _ _ _ _ _ _ q => gt_int q
/-- two rules for one operation: by cases -/
theorem OpR.or {f : Value → Value → Sem Value} {r r' : R2} (h : OpR X f r) (h' : OpR X f r') : OpR X f (fun x y H Q => r x y H Q ∨ r' x y H Q) := by
  intro pins s σ H x y v u Q I rx ry q
  rcases q with q | q
  · exact h pins s σ H x y v u Q I rx ry q
  · exact h' pins s σ H x y v u Q I rx ry q
theorem nomark (b : Expr) {op : CmpOp} (h : op ≠ .In := by decide) (h2 : op ≠ .NotIn := by decide) : behindInMarks op b = false := by
  have e1 : (op == CmpOp.In) = false := by cases op <;> first | rfl | exact absurd rfl h
  have e2 : (op == CmpOp.NotIn) = false := by cases op <;> first | rfl | exact absurd rfl h2
  cases b <;> simp [behindInMarks, e1, e2]
/-- a comparison as a value; hm: nomark b, or (for in, not in) by with_unfolding_all rfl -/
theorem pe_cmpR {op : CmpOp} {r : R2} (ho : OpR X (compareOp op) r) (ha : PE X a ta) (hb : PE X b tb) (hm : behindInMarks op b = false) : PE X (.Compare a [op] [b] pos) (tOp r ta tb) := by
  intro pins s σ H Q I h
  exact wpAny_Compare1 (binT ha hb I h fun v u s2 x y H2 I2 rx ry q => ho pins s2 σ H2 x y v u Q I2 rx ry q) hm
/-- a reading of a value as a test -/
def tTest (t : TE) : TT := fun σ H Q => t σ H fun x H' => ∃ k, x = .bl k ∧ Q k H'
theorem pt_cmpR {op : CmpOp} {r : R2} (ho : OpR X (compareOp op) r) (ha : PE X a ta) (hb : PE X b tb) (hm : behindInMarks op b = false) : PT X (.Compare a [op] [b] pos) (tTest (tOp r ta tb)) := by
  intro pins s σ H Q I h
  refine wpAny_isTrue_Compare1 (thn (ha pins s σ H _ I h) fun v s1 ⟨x, H1, I1, r1, q1⟩ => thn (hb pins s1 σ H1 _ I1 q1) fun u s2 ⟨y, H2, I2, r2, q2⟩ =>
    thn (ho pins s2 σ H2 x y v u _ I2 r1 r2 q2) fun c s3 ⟨z, H3, I3, r3, k, e, q3⟩ => ?_) hm
  subst e
  cases r3
  exact wpAny_truthy_bool ⟨H3, I3, q3⟩
theorem line63 : (sizeLine : Nat) < 2 ^ 63 := by rw [sizeLine_eq]; decide
theorem op_add_str : OpR X (binaryOp .Add) (fun x y H Q => ∃ i j, x = .str i ∧ y = .str j ∧ i.length + j.length ≤ sizeLine ∧ Q (.str (i ++ j)) H) := by
  intro pins s σ H x y v u Q I rx ry h
  obtain ⟨i, j, rfl, rfl, hz, q⟩ := h
  obtain ⟨t, rfl⟩ := rx
  obtain ⟨t', rfl⟩ := ry
  exact add_str (fun t' tk => ⟨.str (i ++ j), H, I.tok _, ⟨_, rfl⟩, q⟩) hz
/-! ### scalar builtins, by CallR -/
theorem vals1 {x : V} {us : List Value} (r : Vals [x] us) : ∃ u, us = [u] ∧ RelV x u := by
  cases r with
  | cons r1 r2 => cases r2; exact ⟨_, rfl, r1⟩
theorem vals2 {x y : V} {us : List Value} (r : Vals [x, y] us) : ∃ u w', us = [u, w'] ∧ RelV x u ∧ RelV y w' := by
  cases r with
  | cons r1 r2 =>
    cases r2 with
    | cons r3 r4 => cases r4; exact ⟨_, _, rfl, r1, r3⟩
theorem call_min2 (hc : X.calm = true) : CallR X (.builtin "min") (fun xs H Q => ∃ i j, xs = [.int i, .int j] ∧ Q (.int (if j < i then j else i)) H) := by
  intro pins s σ H xs us Q I r h
  obtain ⟨i, j, rfl, q⟩ := h
  obtain ⟨u, w', rfl, ⟨t, rfl⟩, ⟨t', rfl⟩⟩ := vals2 r
  refine min_two_ints (I.ok.hd hc) fun h' tk k => ⟨_, H, I.kept k, ?_, q⟩
  by_cases hj : j < i
  · rw [if_pos hj, if_pos hj]; exact ⟨_, rfl⟩
  · rw [if_neg hj, if_neg hj]; exact ⟨_, rfl⟩
theorem call_int1 : CallR X (.type "int") (fun xs H Q => (∃ i, xs = [.int i] ∧ Q (.int i) H) ∨ ∃ k, xs = [.bl k] ∧ Q (.int (if k then 1 else 0)) H) := by
  intro pins s σ H xs us Q I r h
  rcases h with ⟨i, rfl, q⟩ | ⟨k, rfl, q⟩
  · obtain ⟨u, rfl, t, rfl⟩ := vals1 r
    exact call_int_int ⟨.int i, H, I, ⟨_, rfl⟩, q⟩
  · obtain ⟨u, rfl, r1⟩ := vals1 r
    cases r1
    exact call_int_bool ⟨.int (if k then 1 else 0), H, I.tok _, ⟨_, rfl⟩, q⟩
/-- len of a str, a bytes, a list, a tuple -/
def LenV (K : PySem.W.Frag) (x : V) (H : Hp) (n : Nat) : Prop :=
  match x with
  | .str y => y.length ≤ sizeLine ∧ n = y.length
  | .byt y => y.size ≤ sizeLine ∧ n = y.size
  | .ref p => (∃ xs, SqL K H p xs ∧ n = xs.length) ∨ ∃ xs, SqT K H p xs ∧ n = xs.length
  | _ => False
theorem call_len : CallR X (.builtin "len") (fun xs H Q => ∃ x n, xs = [x] ∧ LenV X.K x H n ∧ Q (.int n) H) := by
  intro pins s σ H xs us Q I r h
  obtain ⟨x, n, rfl, e, q⟩ := h
  obtain ⟨u, rfl, rx⟩ := vals1 r
  have hl := line63
  have hs : sizeLine = 16777216 := sizeLine_eq
  cases x with
  | str y =>
    obtain ⟨t, rfl⟩ := rx
    obtain ⟨hy, e'⟩ : y.length ≤ sizeLine ∧ n = y.length := e
    subst e'
    exact len_str (by omega) ⟨.int _, H, I.tok _, ⟨_, rfl⟩, q⟩
  | byt y =>
    obtain ⟨t, rfl⟩ := rx
    obtain ⟨hy, e'⟩ : y.size ≤ sizeLine ∧ n = y.size := e
    subst e'
    exact PySem.W.len_bytes (by omega) ⟨.int _, H, I.tok _, ⟨_, rfl⟩, q⟩
  | ref p =>
    cases rx
    have e' : (∃ xs, SqL X.K H p xs ∧ n = xs.length) ∨ ∃ xs, SqT X.K H p xs ∧ n = xs.length := e
    rcases e' with ⟨xs, hx, e'⟩ | ⟨xs, hx, e'⟩
    · subst e'
      obtain ⟨its, r', pl, hz⟩ := I.list hx
      have hlen := r'.length
      exact Calls.call_len_list pl.isList (by simp only [List.size_toArray]; omega) ⟨.int xs.length, H, I.tok _, ⟨_, by simp only [List.size_toArray]; rw [hlen]⟩, q⟩
    · subst e'
      obtain ⟨its, r', pl, hz⟩ := I.tuple hx
      have hlen := r'.length
      exact len_tuple pl (by simp only [List.size_toArray]; omega) ⟨.int xs.length, H, I.tok _, ⟨_, by simp only [List.size_toArray]; rw [hlen]⟩, q⟩
  | _ => exact (show False from e).elim
end
end L2
namespace L2
open PySem PySem.Spec PyProof.Rows
/-! ### an instance, its attributes a map -/
structure ObjM (h : Heap) (x dx C : Addr) (mA : Str → Option Value) : Prop where
  obj : h.get? x = some (PySem.W.instObj C dx)
  ns : h.Ns1 dx mA
  ne : dx ≠ x
theorem lookIn_ns {h : Heap} {dx : Addr} {mA : Str → Option Value} (n : h.Ns1 dx mA) : ∃ od, h.get? dx = some od ∧ ∀ name, PySem.W.lookIn name od = some (mA name) := by
  obtain ⟨o, es, ep, ho, hd, hk, _, hm⟩ := n
  refine ⟨o, ho, fun name => ?_⟩
  have e := hm name
  unfold nsFind findBy at e
  rw [← Array.find?_toList] at e
  unfold PySem.W.lookIn
  rw [hd]
  dsimp only
  split
  · rename_i y q
    rw [q] at e
    exact congrArg some e
  · rename_i q
    rw [q] at e
    have a : es.toList.any (·.refKey) = false := by
      rw [List.any_eq_false]
      intro y hy
      obtain ⟨z, t, hkey⟩ := hk y (Array.mem_toList_iff.mp hy)
      simp [DictEntry.refKey, hkey]
    have a' : ¬ es.toList.any (·.refKey) = true := by rw [a]; exact Bool.false_ne_true
    rw [if_neg a']
    exact congrArg some e
theorem ObjM.look {h : Heap} {x dx C : Addr} {mA : Str → Option Value} (I : ObjM h x dx C mA) : ∃ od, PySem.W.InstAt h x (PySem.W.instObj C dx) C (some od) ∧ ∀ name, PySem.W.lookIn name od = some (mA name) :=
  let ⟨od, ho, hl⟩ := lookIn_ns I.ns
  ⟨od, ⟨I.obj, rfl, rfl, ho⟩, hl⟩
section
variable {prog : Program} {w : World} {A : Around} {E : Value → Shared → Prop} {s : Shared} {K : PySem.W.Frag} {x dx C f : Addr} {mA : Str → Option Value} {name : Str} {v : Value}
theorem get_map {expr : Bool} {Q : Value → Shared → Prop} (X : K.In s.heap) (I : ObjM s.heap x dx C mA) (hg : PySem.W.plainGet K C name = true) (hh : PySem.W.hasDictIn K C = true)
    (ha : PySem.W.findIn K (.ref C) name = some none) (hv : mA name = some v) (hv' : PySem.W.handedIn v = true) (h : Q v { s with toks := s.toks + 1 }) :
    wpAny (model prog w) A (getAttr (.ref x) name expr) Q E s := by
  obtain ⟨od, J, hl⟩ := I.look
  exact PySem.W.get_value X J (PySem.W.plainGet_of hg).1 (PySem.W.findObj_own hh ha rfl (by rw [hl, hv])) hv' h
theorem get_meth {pl : Sem Bool} {Q : Value × List Value → Shared → Prop} (X : K.In s.heap) (I : ObjM s.heap x dx C mA) (hg : PySem.W.plainGet K C name = true)
    (hf : PySem.W.findIn K (.ref C) name = some (some (.ref f))) (ht : PySem.W.isFn K (.ref f) = true) (hv : mA name = none) (h : Q (.ref f, [.ref x]) s) :
    wpAny (model prog w) A (getMethod (.ref x) name pl) Q E s := by
  obtain ⟨od, J, hl⟩ := I.look
  exact PySem.W.method_fn X J (PySem.W.plainGet_of hg).1 (PySem.W.plainGet_of hg).2 hf (beq_iff_eq.mp ht) (by show (PySem.W.lookIn name od).map (·.isSome) = some false; rw [hl, hv]; rfl) h
theorem set_map {ns : List Str} {Q : Unit → Shared → Prop} (X : K.In s.heap) (I : ObjM s.heap x dx C mA)
    (hs : PySem.W.findIn K (.ref C) "__setattr__" = some (some (.builtin "object.__setattr__"))) (hp : PySem.W.plainOver K C = true) (ht : PySem.W.takerIn K C name = some none) (hh : PySem.W.hasDictIn K C = true)
    (hw : PySem.Within mA ns) (hsz : ns.length ≤ sizeLine)
    (h : ∀ h', ObjM h' x dx C (fun y => if y = name then some v else mA y) → Heap.SameBut dx s.heap h' → Q () { s with heap := h', toks := s.toks + 2 }) :
    wpAny (model prog w) A (setAttr (.ref x) name v) Q E s := by
  obtain ⟨od, J, hl⟩ := I.look
  refine PySem.W.set_plain X J hs (PySem.W.osa_open (s := { s with toks := s.toks + 1 }) (r := none) X J hp ht fun b => ?_)
  obtain ⟨cd, hc, hd'⟩ := PySem.W.any_some hh
  have hx : s.heap.get? x = some ⟨.ref C, some dx, .plain, #[]⟩ := I.obj
  refine wpAny_bind (wpAny_pure (wpAny_bind (wpAny_bind (wpAny_loadPart hx (wpAny_bind (PySem.W.Looks.here (s := { s with toks := s.toks + 1 }) (PySem.W.looks_clsIn X hc) ?_))))))
  rw [hd']
  refine wpAny_pure (a := some dx) (wpAny_bind (wpAny_pure (wpAny_bind ?_)))
  refine wpAny_nsSet1 (s := { s with toks := s.toks + 1 }) I.ns fun h' hn2 hs2 => ?_
  obtain ⟨oD, esD, epD, hoD, hdD, hcD⟩ := hn2.count (PySem.Within.cons name v hw)
  refine wpAny_bind (wpAny_lookBehind hoD (by rw [hdD]; exact pastItsLine_dict (Nat.le_trans hcD (by rw [List.length_cons]; omega))) ?_)
  exact wpAny_pure (h _ ⟨(hs2.2 _ (Ne.symm I.ne)).trans I.obj, hn2, I.ne⟩ hs2)
/-- C(..): the dict at the heap's end, the instance behind it; then its __init__ -/
theorem make_map {R : Result → Shared → Prop} {vs : List Value} {kw : List (Str × Value)} (X : K.In s.heap) (hm : PySem.W.makesIn K C = true)
    (hi : PySem.W.findIn K (.ref C) "__init__" = some (some (.ref f))) (hf : PySem.W.typeIn K (.ref f) = some (.type "function"))
    (h : codeAny (model prog w) (A.under (.builtin "type.__call__" ⟨.ref C :: vs, kw⟩)) (.call (.ref f) ⟨.ref (s.heap.objs.size + 1) :: vs, kw⟩) (PySem.W.InitBack (s.heap.objs.size + 1) R)
      { s with heap := (s.heap.push PySem.W.emptyDict).push (PySem.W.instObj C s.heap.objs.size) }) :
    codeAny (model prog w) A (.call (.ref C) ⟨vs, kw⟩) R s := by
  obtain ⟨hh, g, d, t, os⟩ := s
  exact PySem.W.make_core (PySem.W.makes_of X hm) (PySem.W.looks_findIn X hi) (fun self => PySem.W.bind_fn X self hf) (.inl rfl) h
/-- C() where there is no __init__ but object's -/
theorem make_map0 {R : Result → Shared → Prop} (X : K.In s.heap) (hm : PySem.W.makesIn K C = true)
    (hi : PySem.W.findIn K (.ref C) "__init__" = some (some (.builtin "object.__init__")))
    (hb : ∀ self, PySem.W.Looks (model prog w) s.heap (bindSpecial (.builtin "object.__init__") self) (.builtin "object.__init__", [self]))
    (h : codeAny (model prog w) (A.under (.builtin "type.__call__" ⟨[.ref C], []⟩)) (.call (.builtin "object.__init__") ⟨[.ref (s.heap.objs.size + 1)], []⟩) (PySem.W.InitBack (s.heap.objs.size + 1) R)
      { s with heap := (s.heap.push PySem.W.emptyDict).push (PySem.W.instObj C s.heap.objs.size) }) :
    codeAny (model prog w) A (.call (.ref C) ⟨[], []⟩) R s := by
  obtain ⟨hh, g, d, t, os⟩ := s
  exact PySem.W.make_core (PySem.W.makes_of X hm) (PySem.W.looks_findIn X hi) hb (.inr ⟨rfl, rfl⟩) h
end
/-! ### the attributes as a list of pairs -/
def putF (f : Str) (v : V) : List (Str × V) → List (Str × V)
  | [] => [(f, v)]
  | (g, x) :: r => if g = f then (g, v) :: r else (g, x) :: putF f v r
theorem lookup_putF (f g : Str) (v : V) : ∀ fs : List (Str × V), (putF f v fs).lookup g = if g = f then some v else fs.lookup g
  | [] => by
    show List.lookup g [(f, v)] = _
    by_cases h : g = f
    · have hb : (g == f) = true := beq_iff_eq.mpr h
      simp only [List.lookup, hb, if_pos h]
    · have hb : (g == f) = false := beq_eq_false_iff_ne.mpr h
      simp only [List.lookup, hb, if_neg h]
  | (k, x) :: r => by
    have ih := lookup_putF f g v r
    rw [show putF f v ((k, x) :: r) = (if k = f then (k, v) :: r else (k, x) :: putF f v r) from rfl]
    by_cases hk : k = f
    · rw [if_pos hk]
      by_cases h : g = k
      · have hb : (g == k) = true := beq_iff_eq.mpr h
        simp only [List.lookup, hb, if_pos (h.trans hk)]
      · have hb : (g == k) = false := beq_eq_false_iff_ne.mpr h
        simp only [List.lookup, hb, if_neg (fun e : g = f => h (e.trans hk.symm))]
    · rw [if_neg hk]
      by_cases h : g = k
      · have hb : (g == k) = true := beq_iff_eq.mpr h
        simp only [List.lookup, hb, if_neg (fun e : g = f => hk (h.symm.trans e))]
      · have hb : (g == k) = false := beq_eq_false_iff_ne.mpr h
        simp only [List.lookup, hb]
        exact ih
theorem keys_putF (f : Str) (v : V) : ∀ fs : List (Str × V), f ∈ (putF f v fs).map (·.1) ∧ ∀ g, g ∈ fs.map (·.1) → g ∈ (putF f v fs).map (·.1)
  | [] => ⟨by simp [putF], fun g h => by simp at h⟩
  | (k, x) :: r => by
    obtain ⟨i1, i2⟩ := keys_putF f v r
    rw [show putF f v ((k, x) :: r) = (if k = f then (k, v) :: r else (k, x) :: putF f v r) from rfl]
    by_cases hk : k = f
    · rw [if_pos hk]
      subst hk
      exact ⟨by simp, fun g h => by simpa using h⟩
    · rw [if_neg hk]
      refine ⟨?_, fun g h => ?_⟩
      · rw [List.map_cons]
        exact List.mem_cons_of_mem _ i1
      · rw [List.map_cons] at h ⊢
        rcases List.mem_cons.mp h with e | e
        · exact List.mem_cons.mpr (.inl e)
        · exact List.mem_cons_of_mem _ (i2 g e)
theorem length_putF (f : Str) (v : V) : ∀ fs : List (Str × V), (putF f v fs).length ≤ fs.length + 1
  | [] => by simp [putF]
  | (k, x) :: r => by
    have ih := length_putF f v r
    rw [show putF f v ((k, x) :: r) = (if k = f then (k, v) :: r else (k, x) :: putF f v r) from rfl]
    by_cases hk : k = f
    · rw [if_pos hk, List.length_cons, List.length_cons]; omega
    · rw [if_neg hk, List.length_cons, List.length_cons]; omega
theorem RelO.some_of {v : V} {o : Option Value} (r : RelO (some v) o) : ∃ u, o = some u ∧ RelV v u := by
  cases o with
  | none => exact (show False from r).elim
  | some u => exact ⟨u, rfl, r⟩
theorem RelO.none_of {o : Option Value} (r : RelO none o) : o = none := by
  cases o with
  | none => rfl
  | some u => exact (show False from r).elim
theorem handed_of {v : V} {u : Value} (r : RelV v u) : PySem.W.handedIn u = true := by
  cases v with
  | non => cases (show u = Value.none from r); rfl
  | bl b => cases (show u = Value.bool b from r); rfl
  | int i => obtain ⟨t, e⟩ := (show ∃ t, u = Value.int i t from r); cases e; rfl
  | str x => obtain ⟨t, e⟩ := (show ∃ t, u = Value.str x t from r); cases e; rfl
  | byt b => obtain ⟨t, e⟩ := (show ∃ t, u = Value.bytes b t from r); cases e; rfl
  | flt b => obtain ⟨t, e⟩ := (show ∃ t, u = Value.float b t from r); cases e; rfl
  | ref a => cases (show u = Value.ref a from r); rfl
  | ty n => cases (show u = Value.type n from r); rfl
section
variable {P : Program} {w : World} {H H' : Hp} {h h' : Heap} {a C dx : Addr} {fs fs' : List (Str × V)}
theorem ins_get (hok : HOk P w H h) (e : H a = some (.ins C dx fs)) : ∃ mA, ObjM h a dx C mA ∧ (∀ f, RelO (fs.lookup f) (mA f)) ∧ PySem.Within mA (fs.map (·.1)) ∧ fs.length ≤ 1000 ∧ H dx = some (.own a) := by
  obtain ⟨d, z, ne, ob, mA, n, r, q⟩ := (show ObjOk P w H h a (.ins C dx fs) from hok a _ e)
  exact ⟨mA, ⟨ob, n, ne⟩, r, q, z, d⟩
end
/-! ### what of the text a class must have -/
structure Cls (K : PySem.W.Frag) (C : Addr) : Prop where
  pg : PySem.W.plainGet K C Str.empty = true
  hd : PySem.W.hasDictIn K C = true
  po : PySem.W.plainOver K C = true
  sa : PySem.W.findIn K (.ref C) "__setattr__" = some (some (.builtin "object.__setattr__"))
theorem Cls.get {K : PySem.W.Frag} {C : Addr} (c : Cls K C) (f : Str) : PySem.W.plainGet K C f = true := c.pg
/-- no class of it has the name -/
def NoAttr (K : PySem.W.Frag) (C : Addr) (f : Str) : Prop := PySem.W.findIn K (.ref C) f = some none
theorem NoAttr.taker {K : PySem.W.Frag} {C : Addr} {f : Str} (n : NoAttr K C f) : PySem.W.takerIn K C f = some none := by
  unfold PySem.W.takerIn
  rw [show PySem.W.findIn K (.ref C) f = some none from n]
  rfl
/-- a constant of the class -/
structure Con (K : PySem.W.Frag) (C : Addr) (f : Str) (v : V) (u : Value) : Prop where
  at_ : PySem.W.findIn K (.ref C) f = some (some u)
  rel : RelV v u
  get : PySem.W.specialIn K u "__get__" = some none
  cp : PySem.W.copiedNames.contains f = false
/-- a method: a plain def of the class or of one above it -/
structure Meth (K : PySem.W.Frag) (C : Addr) (m : Str) (f : Addr) : Prop where
  at_ : PySem.W.findIn K (.ref C) m = some (some (.ref f))
  fn : PySem.W.isFn K (.ref f) = true
  kp : PySem.W.keepIn K (.ref f) = true
section
variable {X : Cx} {pins : List (Addr × Obj)} {σ : St} {H : Hp} {s : Shared} {a C dx : Addr} {fs : List (Str × V)} {f : Str} {v : V} {A : Around} {E : Value → Shared → Prop}
theorem getattr_ok {b : Bool} {Q : Value → Shared → Prop} (I : Inv X pins σ H s) (e : H a = some (.ins C dx fs)) (c : Cls X.K C) (n : NoAttr X.K C f) (l : fs.lookup f = some v)
    (h : ∀ u s', Inv X pins σ H s' → RelV v u → Q u s') : wpAny (model X.prog X.w) A (getAttr (.ref a) f b) Q E s := by
  obtain ⟨mA, O, r, _, _, _⟩ := ins_get I.hok e
  obtain ⟨u, hu, ru⟩ := RelO.some_of (v := v) (o := mA f) (by rw [← l]; exact r f)
  exact get_map I.kIn O (c.get f) c.hd n hu (handed_of ru) (h u _ (I.tok _) ru)
theorem getmeth_ok {m : Str} {g : Addr} {pl : Sem Bool} {Q : Value × List Value → Shared → Prop} (I : Inv X pins σ H s) (e : H a = some (.ins C dx fs)) (c : Cls X.K C) (k : Meth X.K C m g) (l : fs.lookup m = none)
    (h : Q (.ref g, [.ref a]) s) : wpAny (model X.prog X.w) A (getMethod (.ref a) m pl) Q E s := by
  obtain ⟨mA, O, r, _, _, _⟩ := ins_get I.hok e
  have hn : mA m = none := RelO.none_of (by rw [← l]; exact r m)
  exact get_meth I.kIn O (c.get m) k.at_ k.fn hn h
theorem setattr_ok {y : V} {u : Value} {Q : Unit → Shared → Prop} (I : Inv X pins σ H s) (e : H a = some (.ins C dx fs)) (c : Cls X.K C) (n : NoAttr X.K C f) (hl : fs.length < 1000) (ry : RelV y u)
    (h : ∀ s', Inv X pins σ (upd H a (.ins C dx (putF f y fs))) s' → Q () s') : wpAny (model X.prog X.w) A (setAttr (.ref a) f u) Q E s := by
  obtain ⟨mA, O, r, wi, _, ho⟩ := ins_get I.hok e
  have hz : (fs.map (·.1)).length ≤ sizeLine := by rw [List.length_map, sizeLine_eq]; omega
  refine set_map I.kIn O c.sa c.po n.taker c.hd wi hz fun h' O' sb => h _ ?_
  have hd : ∃ o, h'.get? dx = some o := let ⟨o, _, _, e', _⟩ := O'.ns; ⟨o, e'⟩
  refine I.write (x := a) (e := dx) (by rw [e]; exact True.intro) (.inr ho) (fun b q hb z => (sb.2 b hb).trans z) hd ?_
  refine ⟨by rw [upd_ne O.ne]; exact ho, ?_, O.ne, O'.obj, _, O'.ns, fun g => ?_, fun g hg => ?_⟩
  · have := length_putF f y fs; omega
  · show RelO ((putF f y fs).lookup g) (if g = f then some u else mA g)
    rw [lookup_putF]
    by_cases q : g = f
    · rw [if_pos q, if_pos q]; exact ry
    · rw [if_neg q, if_neg q]; exact r g
  · by_cases q : g = f
    · rw [q]; exact (keys_putF f y fs).1
    · refine (keys_putF f y fs).2 g (wi g fun z => hg ?_)
      show (if g = f then some u else mA g) = none
      rw [if_neg q]; exact z
/-- a new instance, tracked, without attributes -/
theorem Inv.made (I : Inv X pins σ H s) : Inv X pins σ (upd (upd H s.heap.objs.size (.own (s.heap.objs.size + 1))) (s.heap.objs.size + 1) (.ins C s.heap.objs.size []))
    { s with heap := (s.heap.push PySem.W.emptyDict).push (PySem.W.instObj C s.heap.objs.size) } := by
  have e1 : (s.heap.push PySem.W.emptyDict).get? s.heap.objs.size = some PySem.W.emptyDict := Heap.get?_push_size s.heap rfl
  have e2 : ((s.heap.push PySem.W.emptyDict).push (PySem.W.instObj C s.heap.objs.size)).get? (s.heap.objs.size + 1) = some (PySem.W.instObj C s.heap.objs.size) := by
    have := Heap.get?_push_size (s.heap.push PySem.W.emptyDict) (o := PySem.W.instObj C s.heap.objs.size) rfl
    rwa [Heap.size_push] at this
  have e3 : (s.heap.push PySem.W.emptyDict).Ns s.heap.objs.size (fun _ => none) := ⟨PySem.W.emptyDict, #[], _, e1, rfl, (fun e he => absurd he (by simp)), fun _ => rfl⟩
  have I1 := I.laid (a := s.heap.objs.size) (o := .own (s.heap.objs.size + 1)) (h' := s.heap.push PySem.W.emptyDict) (t' := s.toks) (fun b u q => Heap.get?_push_of_some _ q) (Nat.le_refl _) ⟨_, e1⟩
  refine I1.laid (a := s.heap.objs.size + 1) (o := .ins C s.heap.objs.size []) (t' := s.toks) (fun b u q => Heap.get?_push_of_some _ q) (Nat.le_of_eq (Heap.size_push _ _)) ?_
  have ne : s.heap.objs.size ≠ s.heap.objs.size + 1 := Nat.ne_of_lt (Nat.lt_succ_self _)
  refine ⟨by rw [upd_ne ne, upd_same], Nat.zero_le _, ne, e2, fun _ => none, (Heap.Ns1.of_empty e3).at fun o q => Heap.get?_push_of_some _ q, fun _ => True.intro, fun y hy => absurd rfl hy⟩
/-- e.f where nothing but the object is asked: through attributeBase (super) and the last hold -/
theorem attr_of {prog : Program} {w : World} {env : Env} {e : Expr} {f : Str} {pos : Pos} {s : Shared} {Q : Value → Shared → Prop} (hb : attributeBase e f env (eval e env) = eval e env)
    (h : wpAny (model prog w) A (eval e env) (fun o s₁ => wpAny (model prog w) A (getAttr o f true) Q E s₁) E s) : wpAny (model prog w) A (eval (.Attribute e f pos) env) Q E s :=
  Attribute_any_ h (by rw [arm_eval_Attribute, hb])
end
/-! ### readings and rules -/
/-- e.f, an attribute of the instance -/
def tFld (K : PySem.W.Frag) (ta : TE) (f : Str) : TE := fun σ H Q => ta σ H fun x H1 => ∃ a C dx fs v, x = .ref a ∧ H1 a = some (.ins C dx fs) ∧ Cls K C ∧ NoAttr K C f ∧ fs.lookup f = some v ∧ Q v H1
/-- e.f = value -/
def sFld (K : PySem.W.Frag) (ta tv : TE) (f : Str) : TS := fun D σ H => tv σ H fun y H1 => ta σ H1 fun x H2 => ∃ a C dx fs, x = .ref a ∧ H2 a = some (.ins C dx fs) ∧ Cls K C ∧ NoAttr K C f ∧ fs.length < 1000 ∧
  D.nx σ (upd H2 a (.ins C dx (putF f y fs)))
section
variable {X : Cx} {o e value : Expr} {f : Str} {pos pos' tpos : Pos} {ta tv : TE}
theorem pe_fld (he : PE X e ta) (hb : attributeBase e f X.env (eval e X.env) = eval e X.env) : PE X (.Attribute e f pos) (tFld X.K ta f) := by
  intro pins s σ H Q I h
  refine attr_of hb (thn (he pins s σ H _ I h) fun u s1 ⟨x, H1, I1, rx, a, C, dx, fs, v, ex, ea, c, n, l, q⟩ => ?_)
  subst ex
  obtain rfl : u = Value.ref a := rx
  exact getattr_ok I1 ea c n l fun u' s2 I2 ru => ⟨v, H1, I2, ru, q⟩
theorem ps_fld (ha : PE X o ta) (hv : PE X value tv) (hs : swapsWith value (some (.Attribute o f pos')) pos.line X.env = pure false) : PS X (.Assign [.Attribute o f pos'] value pos) (sFld X.K ta tv f) := by
  intro pins s σ H D I h
  refine plainObj_wpAny_Assign_Attribute (thn (hv pins s σ H _ I h) fun u s1 ⟨y, H1, I1, ry, q⟩ => thn (ha pins s1 σ H1 _ I1 q) fun ov s2 ⟨x, H2, I2, rx, a, C, dx, fs, ex, ea, c, n, l, q2⟩ => ?_) hs
  subst ex
  obtain rfl : ov = Value.ref a := rx
  exact setattr_ok I2 ea c n l ry fun s3 I3 => ⟨σ, _, I3, q2⟩
end
/-! ### isinstance -/
section
variable {X : Cx} {pins : List (Addr × Obj)} {σ : St} {H : Hp} {s : Shared} {A : Around} {E : Value → Shared → Prop} {Q : Value → Shared → Prop} {c : Value} {b : Bool}
/-- the type of a value, as the fragment's deciders take it; for an instance its class -/
inductive TyOf (K : PySem.W.Frag) (H : Hp) : V → Value → Prop where
  | non : TyOf K H .non (.type "NoneType")
  | bl (x : Bool) : TyOf K H (.bl x) (.type "bool")
  | int (i : Int) : TyOf K H (.int i) (.type "int")
  | str (x : Str) : TyOf K H (.str x) (.type "str")
  | flt (x : UInt64) : TyOf K H (.flt x) (.type "float")
  | lst {a : Addr} {xs : List V} (e : H a = some (.lst xs)) : TyOf K H (.ref a) (.type "list")
  | frz {a : Addr} {o : Obj} {xs : List V} (e : H a = some (.frz o (.lst xs))) : TyOf K H (.ref a) (.type "list")
  | tup {a : Addr} {xs : List V} (e : H a = some (.tup xs)) : TyOf K H (.ref a) (.type "tuple")
  | dK {a : Addr} {kvs : List (Key × V)} (e : H a = some (.dK kvs)) : TyOf K H (.ref a) (.type "dict")
  | dT {a : Addr} {kvs : List (List Key × V)} (e : H a = some (.dT kvs)) : TyOf K H (.ref a) (.type "dict")
  | ins {a C dx : Addr} {fs : List (Str × V)} (e : H a = some (.ins C dx fs)) (cl : Cls K C) (ha : PySem.W.findIn K (.ref C) "__class__" = some (some (.builtin "object.__class__")))
      (hn : PySem.W.specialIn K (.builtin "object.__class__") "__get__" = some (some (.builtin "getset_descriptor.__get__"))) (htk : PySem.W.takesIn K (.builtin "object.__class__") = some true)
      (hm : PySem.W.mroIn K C (.type "object") = some true) : TyOf K H (.ref a) (.ref C)
/-- isinstance(x, c) for one class c, a built-in or an own one: kitOne's answer -/
theorem isinst_ok {x : V} {u t : Value} (I : Inv X pins σ H s) (rx : RelV x u) (ty : TyOf X.K H x t) (e : PySem.W.kitOne X.K t c = some b) (h : ∀ tk, Q (.bool b) { s with toks := tk }) :
    wpAny (model X.prog X.w) A (call (.builtin "isinstance") [u, c]) Q E s := by
  cases ty with
  | non => cases (show u = Value.none from rx); exact PySem.W.kia_one PySem.W.kitx_none I.kIn True.intro e (fun z => nomatch z) h
  | bl y => cases (show u = Value.bool y from rx); exact PySem.W.kia_one PySem.W.kitx_bool I.kIn True.intro e (fun z => nomatch z) h
  | int i => obtain ⟨t, q⟩ := (show ∃ t, u = Value.int i t from rx); cases q; exact PySem.W.kia_one PySem.W.kitx_int I.kIn True.intro e (fun z => nomatch z) h
  | str y => obtain ⟨t, q⟩ := (show ∃ t, u = Value.str y t from rx); cases q; exact PySem.W.kia_one PySem.W.kitx_str I.kIn True.intro e (fun z => nomatch z) h
  | flt y => obtain ⟨t, q⟩ := (show ∃ t, u = Value.float y t from rx); cases q; exact PySem.W.kia_one PySem.W.kitx_float I.kIn True.intro e (fun z => nomatch z) h
  | @lst a xs ea =>
    cases (show u = Value.ref a from rx)
    obtain ⟨_, _, n, _, h1⟩ := (show ObjOk X.prog X.w H s.heap a (.lst xs) from I.hok a _ ea)
    exact PySem.W.kia_one PySem.W.kitx_list I.kIn ⟨_, h1, rfl⟩ e (fun z => nomatch z) h
  | @frz a ob xs ea =>
    cases (show u = Value.ref a from rx)
    obtain ⟨_, _, _, n, _, h1⟩ := (show ObjOk X.prog X.w H s.heap a (.frz ob (.lst xs)) from I.hok a _ ea)
    exact PySem.W.kia_one PySem.W.kitx_list I.kIn ⟨_, h1, rfl⟩ e (fun z => nomatch z) h
  | @tup a xs ea =>
    cases (show u = Value.ref a from rx)
    obtain ⟨_, _, _, p⟩ := (show ObjOk X.prog X.w H s.heap a (.tup xs) from I.hok a _ ea)
    obtain ⟨o, h1, h2, _⟩ := p
    exact PySem.W.kia_one PySem.W.kitx_tuple I.kIn ⟨o, h1, h2⟩ e (fun z => nomatch z) h
  | @dK a kvs ea =>
    cases (show u = Value.ref a from rx)
    obtain ⟨_, _, vs, _, p⟩ := (show ObjOk X.prog X.w H s.heap a (.dK kvs) from I.hok a _ ea)
    obtain ⟨o, es, ep, h1, h2, _⟩ := p
    exact PySem.W.kia_one PySem.W.kitx_dict I.kIn ⟨o, h1, h2.1⟩ e (fun z => nomatch z) h
  | @dT a kvs ea =>
    cases (show u = Value.ref a from rx)
    obtain ⟨_, _, xs, _, o, es, ep, h1, h2, _⟩ := (show ObjOk X.prog X.w H s.heap a (.dT kvs) from I.hok a _ ea)
    exact PySem.W.kia_one PySem.W.kitx_dict I.kIn ⟨o, h1, h2.1⟩ e (fun z => nomatch z) h
  | @ins a C dx fs ea cl ha hn htk hm =>
    cases (show u = Value.ref a from rx)
    obtain ⟨mA, O, _⟩ := ins_get I.hok ea
    obtain ⟨od, J, _⟩ := O.look
    exact PySem.W.kia_one (PySem.W.kitx_own (cl.get _) cl.hd ha hn htk hm) I.kIn J e (fun z => nomatch z) h
end
end L2
namespace L2
open PySem PySem.Spec PyProof.Rows
/-! ### room -/
structure Room (k : Nat) (A : Around) : Prop where
  hd : A.handled = none
  dp : A.depth + 3 * k + 5 < recursionLimit
  un : A.units + 16 * k + 200 < cLine
theorem Room.mono {j k : Nat} {A : Around} (r : Room k A) (h : j ≤ k) : Room j A := ⟨r.hd, by have := r.dp; omega, by have := r.un; omega⟩
theorem Room.deeper {k : Nat} {A : Around} (r : Room (k + 1) A) (env : Env) : Room k (A.deeper env) :=
  ⟨r.hd, by have := r.dp; show A.depth + 1 + 3 * k + 5 < _; omega, by have := r.un; show A.units + 3 + 16 * k + 200 < _; omega⟩
theorem Room.in1 {k : Nat} {A : Around} (r : Room (k + 1) A) : Room k A.in1 :=
  ⟨r.hd, by have := r.dp; show A.depth + 3 * k + 5 < _; omega, by have := r.un; show A.units + 1 + 16 * k + 200 < _; omega⟩
theorem make_depth {A : Around} {C : Addr} {us : List Value} {kw : List (Str × Value)} : (A.under (.builtin "type.__call__" ⟨.ref C :: us, kw⟩)).depth = A.depth + 1 := by
  first | rfl | simp [Around.under, Code.weight, Code.isCreation, Code.isGuard, Code.isCaller, Code.frames, Code.isFrame, guardIds]
theorem make_units {A : Around} {C : Addr} {us : List Value} {kw : List (Str × Value)} : (A.under (.builtin "type.__call__" ⟨.ref C :: us, kw⟩)).units = A.units + 1 := by
  first | rfl | simp [Around.under, Code.cUnits, Code.frames, Code.isFrame]
theorem Room.make {k : Nat} {A : Around} (r : Room (k + 1) A) (C : Addr) (us : List Value) (kw : List (Str × Value)) : Room k (A.under (.builtin "type.__call__" ⟨.ref C :: us, kw⟩)) :=
  ⟨r.hd, by have := r.dp; rw [make_depth]; omega, by have := r.un; rw [make_units]; omega⟩
theorem Room.depth {k : Nat} {A : Around} (r : Room k A) : A.depth < recursionLimit := by have := r.dp; omega
theorem Room.units {k : Nat} {A : Around} (r : Room k A) : A.units + 64 < cLine := by have := r.un; omega
/-! ### argument lists and displays -/
def tNil : TA := fun _ H Q => Q [] H
def tCons (ta : TE) (tr : TA) : TA := fun σ H Q => ta σ H fun x H1 => tr σ H1 fun xs H2 => Q (x :: xs) H2
section
variable {X : Cx} {e : Expr} {es : List Expr} {te : TE} {t : TA} {pos : Pos}
theorem pa_nil : PA X [] tNil := fun _ _ _ _ H Q I h => Calls.spliced_nil ⟨[], H, I, .nil, h⟩
theorem pa_cons (ha : PE X e te) (hr : PA X es t) (hs : starEach (e :: es) X.env = (false, eval e X.env) :: starEach es X.env := by rfl) : PA X (e :: es) (tCons te t) := by
  intro pos pins s σ H Q I h
  rw [hs]
  show wpAny _ _ (spliced ((false, eval e X.env) :: backTo pos (starEach es X.env))) _ _ s
  refine Calls.spliced_cons (thn (ha pins s σ H _ I h) fun u s1 ⟨x, H1, I1, r1, q1⟩ => ?_)
  exact thn (hr pos pins s1 σ H1 _ I1 q1) fun us s2 ⟨xs, H2, I2, r2, q2⟩ => ⟨x :: xs, H2, I2, .cons r1 r2, q2⟩
/-- a tuple, a list of written items -/
def tTup (t : TA) : TE := fun σ H Q => t σ H fun xs H1 => xs.length ≤ sizeLine ∧ ∀ p, H1 p = none → Q (.ref p) (upd H1 p (.tup xs))
def tLst (t : TA) : TE := fun σ H Q => t σ H fun xs H1 => xs.length ≤ sizeLine ∧ ∀ p, H1 p = none → Q (.ref p) (upd H1 p (.lst xs))
theorem pe_tup {x1} (h : PA X es t) : PE X (.Tuple es x1 pos) (tTup t) := by
  intro pins s σ H Q I hq
  refine wpAny_Tuple_spliced (thn (h pos pins s σ H _ I hq) fun us s1 ⟨xs, H1, I1, r, z, q⟩ => ⟨by rw [← r.length]; exact z, ?_⟩)
  have hf : H1 s1.heap.objs.size = none := I1.hok.fresh (Nat.le_refl _)
  refine ⟨.ref s1.heap.objs.size, upd H1 s1.heap.objs.size (.tup xs), I1.laid (t' := s1.toks) (fun b u e => Heap.get?_push_of_some _ e) (Nat.le_refl _) ?_, rfl, q _ hf⟩
  exact ⟨z, us, r, ⟨_, Heap.get?_push_size _ rfl, rfl, _, rfl⟩⟩
theorem pe_lst (h : PA X es t) : PE X (.List es pos) (tLst t) := by
  intro pins s σ H Q I hq
  refine wpAny_List_spliced (thn (h pos pins s σ H _ I hq) fun us s1 ⟨xs, H1, I1, r, z, q⟩ => ⟨by rw [← r.length]; exact z, ?_⟩)
  have hf : H1 s1.heap.objs.size = none := I1.hok.fresh (Nat.le_refl _)
  refine ⟨.ref s1.heap.objs.size, upd H1 s1.heap.objs.size (.lst xs), I1.laid (t' := s1.toks) (fun b u e => Heap.get?_push_of_some _ e) (Nat.le_refl _) ?_, rfl, q _ hf⟩
  exact ⟨z, us, 0, r, Heap.get?_push_size _ rfl⟩
end
/-! ### what a def promises -/
/-- a def's promise: the bound arguments in the parameters' order, the heap, the wanted end, the wanted exception -/
abbrev Sp := List V → Hp → VK → XK → Prop
/-- how an exception lies behind a call (file 08 gives it): the callers' frames, abstract heap and state ahead of the call, the wish, the exception, the state -/
abbrev CXT := List Env → Hp → Shared → XK → Value → Shared → Prop
/-- the state at a call -/
structure Env0 (P : Program) (w : World) (K : PySem.W.Frag) (mg : Str → Option Value) (base : Bs) (A : Around) (outer : List Env) (s : Shared) (H : Hp) : Prop where
  frames : A.frames = some outer
  mod : Mod K mg base
  bs : ∀ b o, base.get? b = some o → s.heap.get? b = some o ∧ H b = none
  bsz : base.objs.size ≤ s.heap.objs.size
  funs : s.heap.FunFrames base outer
  frf : ∀ b ∈ frs outer, H b = none
  hok : HOk P w H s.heap
  bare : AllBare s.gens
  tab : ∀ P ∈ base.tabs, H P = some (.tbl 0)
/-- a call's end -/
def CE (outer : List Env) (P : Program) (w : World) (H : Hp) (s : Shared) (Q : VK) (u : Value) (s' : Shared) : Prop :=
  ∃ v H', s'.os = s.os ∧ AllBare s'.gens ∧ Un (frs outer) [] H H' s.heap s'.heap ∧ HOk P w H' s'.heap ∧ RelV v u ∧ Q v H'
def CR (CX : CXT) (outer : List Env) (P : Program) (w : World) (H : Hp) (s : Shared) (Q : VK) (E : XK) (r : Result) (s' : Shared) : Prop :=
  match r with
  | .ok (.ret u) => CE outer P w H s Q u s'
  | .ok _ => False
  | .error e => CX outer H s E e s'
structure FnOk (P : Program) (w : World) (K : PySem.W.Frag) (mg : Str → Option Value) (base : Bs) (CX : CXT) (k : Nat) (f : Addr) (fd : FuncData) (ps : List Str) (sp : Sp) : Prop where
  len : ∀ vs H Q E, sp vs H Q E → vs.length = ps.length
  run : ∀ (A : Around) (outer : List Env) (s : Shared) (H : Hp) (args : Args) (us : List Value) (vs : List V) (Q : VK) (E : XK), Room k A → Env0 P w K mg base A outer s H → BindsTo s fd args (ps.zip us) → Vals vs us → sp vs H Q E →
    codeAny (model P w) A (.call (.ref f) args) (CR CX outer P w H s Q E) s
theorem FnOk.mono {P : Program} {w : World} {K : PySem.W.Frag} {mg : Str → Option Value} {base : Bs} {CX : CXT} {j k : Nat} {f : Addr} {fd : FuncData} {ps : List Str} {sp : Sp} (F : FnOk P w K mg base CX j f fd ps sp) (h : j ≤ k) :
    FnOk P w K mg base CX k f fd ps sp := ⟨F.len, fun A outer s H args us vs Q E hr => F.run A outer s H args us vs Q E (hr.mono h)⟩
/-- a weaker promise -/
theorem FnOk.imp {P : Program} {w : World} {K : PySem.W.Frag} {mg : Str → Option Value} {base : Bs} {CX : CXT} {k : Nat} {f : Addr} {fd : FuncData} {ps : List Str} {sp sp' : Sp} (F : FnOk P w K mg base CX k f fd ps sp)
    (h : ∀ vs H Q E, sp' vs H Q E → sp vs H Q E) : FnOk P w K mg base CX k f fd ps sp' :=
  ⟨fun vs H Q E q => F.len vs H Q E (h _ _ _ _ q), fun A outer s H args us vs Q E hr he hb hv hs => F.run A outer s H args us vs Q E hr he hb hv (h _ _ _ _ hs)⟩
theorem Env0.make {P : Program} {w : World} {K : PySem.W.Frag} {mg : Str → Option Value} {base : Bs} {A : Around} {outer : List Env} {s : Shared} {H : Hp} (e : Env0 P w K mg base A outer s H) (C : Addr) (us : List Value) (kw : List (Str × Value)) :
    Env0 P w K mg base (A.under (.builtin "type.__call__" ⟨.ref C :: us, kw⟩)) outer s H := ⟨by first | exact e.frames | (simpa [Around.under, Code.envs, Code.isFrame, pushEnvs] using e.frames), e.mod, e.bs, e.bsz, e.funs, e.frf, e.hok, e.bare, e.tab⟩
theorem Env0.in1 {P : Program} {w : World} {K : PySem.W.Frag} {mg : Str → Option Value} {base : Bs} {A : Around} {outer : List Env} {s : Shared} {H : Hp} (e : Env0 P w K mg base A outer s H) :
    Env0 P w K mg base A.in1 outer s H := ⟨e.frames, e.mod, e.bs, e.bsz, e.funs, e.frf, e.hok, e.bare, e.tab⟩
section
variable {X : Cx} {pins : List (Addr × Obj)} {σ : St} {H : Hp} {s s' : Shared}
/-- from a body: what a callee wants -/
theorem Inv.env0 (I : Inv X pins σ H s) : Env0 X.prog X.w X.K X.mg X.base X.A X.stack s H :=
  ⟨I.ok.frames, I.ok.mod, I.bs, Nat.le_trans I.ok.bsz I.sz, I.stack, I.stkFree, I.hok, I.bare, fun P z => I.base.tbls P 0 (I.ok.tab P z)⟩
/-- behind a call -/
theorem Inv.after {Q : VK} {u : Value} (I : Inv X pins σ H s) (h : CE X.stack X.prog X.w H s Q u s') : EP X pins σ Q u s' := by
  obtain ⟨v, H', os, bare, un, hok, r, q⟩ := h
  obtain ⟨hh, g, d, t, os'⟩ := s'
  obtain rfl : os' = s.os := os
  exact ⟨v, H', I.call (h' := hh) (g' := g) (d' := d) (t' := t) (ch := []) un hok bare (fun b z => absurd z (by simp)), r, q⟩
end
/-! ### calls -/
/-- f(..): the written arguments, then the defaults dvs; E: what is wanted of an exception -/
def tCall (sp : Sp) (dvs : List V) (E : XK) (t : TA) : TE := fun σ H Q => t σ H fun vs H1 => sp (vs ++ dvs) H1 Q E
/-- C(..): a new instance and its dict, then __init__ -/
def tMake (C : Addr) (sp : Sp) (dvs : List V) (E : XK) (t : TA) : TE := fun σ H Q => t σ H fun vs H1 => ∀ x dx, H1 x = none → H1 dx = none → dx ≠ x →
  sp (.ref x :: (vs ++ dvs)) (upd (upd H1 dx (.own x)) x (.ins C dx [])) (fun v H2 => v = .non ∧ Q (.ref x) H2) E
/-- how the parameters are bound: us the positional arguments, kw the keywords' values by name, ds the defaults that fill up -/
def Binds (K : PySem.W.Frag) (fd : FuncData) (ps : List Str) (ds : List Value) : Prop :=
  ∀ (s : Shared) (us : List Value), K.In s.heap → (us ++ ds).length = ps.length → BindsTo s fd ⟨us, []⟩ (ps.zip (us ++ ds))
/-- every parameter is given -/
theorem Binds.all {K : PySem.W.Frag} {fd : FuncData} {ps : List Str} (h : ∀ us : List Value, us.length = ps.length → bindArgs fd ⟨us, []⟩ = pure (ps.zip us)) : Binds K fd ps [] := fun s us _ hl => by
  rw [List.append_nil] at hl ⊢
  exact .of_eq (h us hl)
/-- an exception of a callee reaches what this body wants of exceptions -/
def Passes (CX : CXT) (X : Cx) (E : XK) : Prop := ∀ (pins : List (Addr × Obj)) (σ : St) (H : Hp) (s : Shared) (e : Value) (s' : Shared), Inv X pins σ H s → CX X.stack H s E e s' → X.xe e s'
section
variable {X : Cx} {CX : CXT} {k : Nat} {f C : Addr} {fd : FuncData} {ps : List Str} {sp : Sp} {dvs : List V} {ds : List Value} {E : XK} {x m : Str} {p pos apos : Pos} {e o : Expr} {es : List Expr} {ta : TE} {t : TA}
/-- the callee runs -/
theorem run_fn {pins : List (Addr × Obj)} {σ : St} {H : Hp} {s : Shared} {Q : VK} {us : List Value} {vs : List V} (F : FnOk X.prog X.w X.K X.mg X.base CX k f fd ps sp) (hr : Room k X.A) (hb : Binds X.K fd ps ds) (hd : Vals dvs ds) (hx : Passes CX X E)
    (I : Inv X pins σ H s) (r : Vals vs us) (h : sp (vs ++ dvs) H Q E) : wpAny (model X.prog X.w) X.A (call (.ref f) us) (EP X pins σ Q) X.xe s := by
  have r2 : Vals (vs ++ dvs) (us ++ ds) := r.append hd
  have hl : (us ++ ds).length = ps.length := by rw [← r2.length]; exact F.len _ _ _ _ h
  refine wpAny_call (codeAny_mono (F.run X.A X.stack s H ⟨us, []⟩ (us ++ ds) (vs ++ dvs) Q E hr I.env0 (hb s us I.kIn hl) r2 h) fun r s' hq => ?_)
  cases r with
  | error e => exact hx pins σ H s e s' I hq
  | ok fl =>
    cases fl with
    | ret u => exact I.after hq
    | next => exact False.elim hq
    | brk => exact False.elim hq
    | cont => exact False.elim hq
theorem pe_call (F : FnOk X.prog X.w X.K X.mg X.base CX k f fd ps sp) (hr : Room k X.A) (hg : Gl X x) (hm : X.mg x = some (.ref f)) (hk : PySem.W.keepIn X.K (.ref f) = true) (hb : Binds X.K fd ps ds) (hd : Vals dvs ds) (hx : Passes CX X E)
    (ha : PA X (e :: es) t) (hdb : (x == ("__debug__" : Str)) = false := by decide) (he : starEach (e :: es) X.env = (false, eval e X.env) :: starEach es X.env := by rfl) (hpl : (backTo pos (starEach es X.env)).any (·.1) = false := by rfl) :
    PE X (.Call (.Name x p) (e :: es) [] pos) (tCall sp dvs E t) := by
  intro pins s σ H Q I h
  refine wpAny_Call_Name_kw (ld_glob I hg hm ?_ hdb)
  refine PySem.W.callWith_K (h₀ := X.base) I.ok.mod.kin hk (thn (ha pos pins s σ H _ I h) fun us s1 ⟨vs, H1, I1, r, q⟩ => ⟨I1.kIn, ?_⟩) he hpl
  exact run_fn F hr hb hd hx I1 r q
/-- what a class must have to be made -/
structure Mk (K : PySem.W.Frag) (C f : Addr) : Prop where
  makes : PySem.W.makesIn K C = true
  init : PySem.W.findIn K (.ref C) "__init__" = some (some (.ref f))
  fn : PySem.W.isFn K (.ref f) = true
  kp : PySem.W.keepIn K (.ref C) = true
theorem run_make {pins : List (Addr × Obj)} {σ : St} {H : Hp} {s : Shared} {Q : VK} {us : List Value} {vs : List V} (M : Mk X.K C f) (F : FnOk X.prog X.w X.K X.mg X.base CX k f fd ps sp) (hr : Room (k + 1) X.A) (hb : Binds X.K fd ps ds) (hd : Vals dvs ds)
    (hx : Passes CX X E) (I : Inv X pins σ H s) (r : Vals vs us)
    (h : ∀ x dx, H x = none → H dx = none → dx ≠ x → sp (.ref x :: (vs ++ dvs)) (upd (upd H dx (.own x)) x (.ins C dx [])) (fun v H2 => v = .non ∧ Q (.ref x) H2) E) :
    wpAny (model X.prog X.w) X.A (call (.ref C) us) (EP X pins σ Q) X.xe s := by
  have hq := h (s.heap.objs.size + 1) s.heap.objs.size (I.hok.fresh (Nat.le_succ _)) (I.hok.fresh (Nat.le_refl _)) (Nat.ne_of_lt (Nat.lt_succ_self _))
  have I2 := Inv.made (C := C) I
  have r2 : Vals (V.ref (s.heap.objs.size + 1) :: (vs ++ dvs)) (Value.ref (s.heap.objs.size + 1) :: (us ++ ds)) := .cons rfl (r.append hd)
  have hl : (Value.ref (s.heap.objs.size + 1) :: us ++ ds).length = ps.length := by
    have e := r2.length
    rw [F.len _ _ _ _ hq] at e
    exact e.symm
  refine wpAny_call (make_map (f := f) I.kIn M.makes M.init (beq_iff_eq.mp M.fn) (codeAny_mono (F.run _ X.stack _ _ ⟨Value.ref (s.heap.objs.size + 1) :: us, []⟩ (Value.ref (s.heap.objs.size + 1) :: (us ++ ds)) _ _ E (hr.make C us [])
    (I2.env0.make C us []) (hb _ (Value.ref (s.heap.objs.size + 1) :: us) I2.kIn hl) r2 hq) fun r s' hq' => ?_))
  cases r with
  | error e => exact hx pins σ _ _ e s' I2 hq'
  | ok fl =>
    cases fl with
    | ret u =>
      obtain ⟨v, H', I3, rv, ev, q3⟩ := I2.after hq'
      subst ev
      exact ⟨rv, ⟨V.ref (s.heap.objs.size + 1), H', I3, rfl, q3⟩⟩
    | next => exact False.elim hq'
    | brk => exact False.elim hq'
    | cont => exact False.elim hq'
theorem pe_make (M : Mk X.K C f) (F : FnOk X.prog X.w X.K X.mg X.base CX k f fd ps sp) (hr : Room (k + 1) X.A) (hg : Gl X x) (hm : X.mg x = some (.ref C)) (hb : Binds X.K fd ps ds) (hd : Vals dvs ds) (hx : Passes CX X E)
    (ha : PA X (e :: es) t) (hdb : (x == ("__debug__" : Str)) = false := by decide) (he : starEach (e :: es) X.env = (false, eval e X.env) :: starEach es X.env := by rfl) (hpl : (backTo pos (starEach es X.env)).any (·.1) = false := by rfl) :
    PE X (.Call (.Name x p) (e :: es) [] pos) (tMake C sp dvs E t) := by
  intro pins s σ H Q I h
  refine wpAny_Call_Name_kw (ld_glob I hg hm ?_ hdb)
  refine PySem.W.callWith_K (h₀ := X.base) I.ok.mod.kin M.kp (thn (ha pos pins s σ H _ I h) fun us s1 ⟨vs, H1, I1, r, q⟩ => ⟨I1.kIn, ?_⟩) he hpl
  exact run_make M F hr hb hd hx I1 r q
end
section
variable {X : Cx} {CX : CXT} {k : Nat} {f C : Addr} {fd : FuncData} {ps ks : List Str} {sp : Sp} {E : XK} {x m : Str} {p pos apos kpos : Pos} {e o : Expr} {es : List Expr} {kws : List Keyword} {te ta : TE} {t tk : TA} {nm : Option Str}
/-- how a call with keywords binds: g puts the positional values us and the keywords' values ws (names ks) in the parameters' order, defaults among them -/
structure KBinds (K : PySem.W.Frag) (fd : FuncData) (ps ks : List Str) (g : List Value → List Value → List Value) (gV : List V → List V → List V) : Prop where
  to : ∀ (s : Shared) (us ws : List Value), K.In s.heap → (g us ws).length = ps.length → BindsTo s fd ⟨us, ks.zip ws⟩ (ps.zip (g us ws))
  rel : ∀ {vs : List V} {us : List Value} {zs : List V} {ws : List Value}, Vals vs us → Vals zs ws → Vals (gV vs zs) (g us ws)
variable {g : List Value → List Value → List Value} {gV : List V → List V → List V}
end
/-! ### a def's body keeps its promise -/
/-- names: the parameters first -/
structure FnScope (N P : List Str) (sc : Scope) : Prop where
  kind : sc.kind = .function
  co : sc.isCoroutine = false
  gen : sc.isGenerator = false
  nd : N.Nodup
  pre : N.take P.length = P
  par : ∀ x ∈ P, sc.names.lookup x = some .local ∨ sc.names.lookup x = some .cell
  nofree : ∀ y ∈ sc.names, y.2 ≠ .free
theorem bindL_out {kindOf : Str → Option NameKind} {x : Str} : ∀ {binds : List (Str × Value)} {m : Str → Option Value}, (∀ v, (x, v) ∉ binds) → bindL kindOf binds m x = m x
  | [], _, _ => rfl
  | (n, v) :: r, m, h => by
    unfold bindL
    rw [bindL_out fun w hw => h w (List.mem_cons_of_mem _ hw)]
    split
    · have : x ≠ n := by rintro rfl; exact h v List.mem_cons_self
      simp [this]
    · rfl
theorem bindC_out {kindOf : Str → Option NameKind} {x : Str} : ∀ {binds : List (Str × Value)} {m : Str → Option Value}, (∀ v, (x, v) ∉ binds) → bindC kindOf binds m x = m x
  | [], _, _ => rfl
  | (n, v) :: r, m, h => by
    unfold bindC
    rw [bindC_out fun w hw => h w (List.mem_cons_of_mem _ hw)]
    split
    · rfl
    · have : x ≠ n := by rintro rfl; exact h v List.mem_cons_self
      simp [this]
theorem bindL_get {kindOf : Str → Option NameKind} {x : Str} {v : Value} : ∀ {P : List Str} {vs : List Value} {i : Nat} {m : Str → Option Value}, P.Nodup → P[i]? = some x → vs[i]? = some v → kindOf x = some .local →
    bindL kindOf (P.zip vs) m x = some v
  | [], _, _, _, _, h, _, _ => by simp at h
  | _ :: _, [], _, _, _, _, h, _ => by simp at h
  | p :: P, w :: vs, 0, m, nd, h1, h2, hk => by
    simp at h1 h2; subst h1; subst h2
    show bindL kindOf ((p, w) :: P.zip vs) m p = _
    unfold bindL
    rw [bindL_out fun v hv => (List.nodup_cons.mp nd).1 (List.of_mem_zip hv).1, if_pos hk]
    simp
  | p :: P, w :: vs, i + 1, m, nd, h1, h2, hk => by
    show bindL kindOf ((p, w) :: P.zip vs) m x = _
    unfold bindL
    exact bindL_get (i := i) (List.nodup_cons.mp nd).2 (by simpa using h1) (by simpa using h2) hk
theorem bindC_get {kindOf : Str → Option NameKind} {x : Str} {v : Value} : ∀ {P : List Str} {vs : List Value} {i : Nat} {m : Str → Option Value}, P.Nodup → P[i]? = some x → vs[i]? = some v → kindOf x ≠ some .local →
    bindC kindOf (P.zip vs) m x = some v
  | [], _, _, _, _, h, _, _ => by simp at h
  | _ :: _, [], _, _, _, _, h, _ => by simp at h
  | p :: P, w :: vs, 0, m, nd, h1, h2, hk => by
    simp at h1 h2; subst h1; subst h2
    show bindC kindOf ((p, w) :: P.zip vs) m p = _
    unfold bindC
    rw [bindC_out fun v hv => (List.nodup_cons.mp nd).1 (List.of_mem_zip hv).1, if_neg hk]
    simp
  | p :: P, w :: vs, i + 1, m, nd, h1, h2, hk => by
    show bindC kindOf ((p, w) :: P.zip vs) m x = _
    unfold bindC
    exact bindC_get (i := i) (List.nodup_cons.mp nd).2 (by simpa using h1) (by simpa using h2) hk
/-- the names' values at the entry -/
def start (N : List Str) (vs : List V) : St := vs.map some ++ List.replicate (N.length - vs.length) none
/-- the context of a def's body, at its entry; an exception leaves the frame, then lies as CX says -/
def cxOf (CX : CXT) (P : Program) (w : World) (K : PySem.W.Frag) (mg : Str → Option Value) (base : Bs) (N : List Str) (qual : Str) (scope : Scope) (f : Addr) (cd : Value) (A : Around) (outer : List Env) (s : Shared) (H : Hp) (E : XK) : Cx where
  prog := P
  w := w
  K := K
  mg := mg
  base := base
  A := A.deeper (envOfC qual scope s.heap.objs.size f cd)
  N := N
  s₀ := s
  H₀ := H
  env := envOfC qual scope s.heap.objs.size f cd
  outer := outer
  stack := envOfC qual scope s.heap.objs.size f cd :: outer
  ex := []
  calm := true
  fn := fun _ => true
  cw := fun _ => true
  pn := []
  xe := fun e s' => wpAny (model P w) (A.deeper (envOfC qual scope s.heap.objs.size f cd)) (leaving (envOfC qual scope s.heap.objs.size f cd) e) (fun _ s'' => CX outer H s E e s'') (fun e' s'' => CX outer H s E e' s'') s'
theorem cell_has {sc : Scope} {n : Nat} {x : Str} (h : sc.names.lookup x = some .cell) : ∃ c, (cellsFrom n sc.names []).lookup x = some c := by
  have q := PySem.W.cellsFrom_some sc.names n [] (.inl h)
  exact Option.isSome_iff_exists.mp q
theorem inv_start {CX : CXT} {P : Program} {w : World} {K : PySem.W.Frag} {mg : Str → Option Value} {base : Bs} {N ps : List Str} {qual : Str} {scope : Scope} {f : Addr} {cd : Value} {A : Around} {outer : List Env} {s s1 : Shared} {H : Hp} {E : XK} {us : List Value} {vs : List V}
    (S : FnScope N ps scope) (hd : A.handled = none) (e0 : Env0 P w K mg base A outer s H) (hl : vs.length = ps.length) (r : Vals vs us)
    (x : InCallC s s.heap.objs.size (bindL (envOfC qual scope s.heap.objs.size f cd).kindOf (ps.zip us) fun _ => none) (cellsFrom (s.heap.objs.size + 1) scope.names []) (bindC (envOfC qual scope s.heap.objs.size f cd).kindOf (ps.zip us) fun _ => none) s1) :
    Inv (cxOf CX P w K mg base N qual scope f cd A outer s H E) [] (start N vs) H s1 := by
  have hpl : ps.length ≤ N.length := by have := congrArg List.length S.pre; rw [List.length_take] at this; omega
  obtain ⟨h1, tk, rfl, hk⟩ := x.done
  have noA : ∀ b : Addr, b ∉ (cxOf CX P w K mg base N qual scope f cd A outer s H E).ex := fun b z => absurd (show b ∈ ([] : List Addr) from z) (by simp)
  refine ⟨⟨e0.mod, S.kind, rfl, rfl, Nat.le_refl _, fun y z c h1 h2 => ?_, fun y hy => ?_, fun y c _ h => ?_, fun _ => hd, Around.frames_deeper e0.frames, .inr ⟨rfl, rfl⟩, fun b z => absurd z (noA b), e0.bs, e0.bsz, fun b _ _ => noA b, fun b z => absurd z (noA b), e0.funs, e0.frf, e0.tab, fun _ z => z⟩,
    rfl, e0.bare, Un.kept hk, ⟨_, x.toInCall.ns, fun i y v h1 h2 h3 => ?_⟩, fun y c h => ⟨_, x.cell y c h⟩, e0.hok.fresh (Nat.le_refl _), fun y c h => ?_, fun p hp => absurd (show p ∈ ([] : List (Addr × Obj)) from hp) (by simp), e0.hok.kept hk, ?_⟩
  · exact name_of_addr x.apart (PySem.mem_of_lookup h1) (PySem.mem_of_lookup h2)
  · have hy : scope.names.lookup y = some .cell ∨ scope.names.lookup y = some .free := hy
    rcases hy with hy | hy
    · exact cell_has hy
    · exact absurd rfl (S.nofree _ (PySem.mem_of_lookup hy))
  · exact Nat.le_of_lt (x.above y c (PySem.mem_of_lookup h))
  · have hi : i < vs.length := by
      unfold start at h2
      by_cases hi : i < vs.length
      · exact hi
      · rw [List.getElem?_append_right (by simpa using hi)] at h2
        rw [List.getElem?_replicate] at h2
        split at h2 <;> cases h2
    have ha : vs[i]? = some v := by
      unfold start at h2
      rw [List.getElem?_append_left (by simpa using hi), List.getElem?_map] at h2
      cases e : vs[i]? with
      | none => rw [e] at h2; cases h2
      | some a => rw [e] at h2; cases h2; rfl
    obtain ⟨u, hu, rv⟩ := r.get ha
    have hp : ps[i]? = some y := by
      rw [← S.pre, List.getElem?_take_of_lt (by omega)]; exact h1
    have ndP : ps.Nodup := by rw [← S.pre]; exact S.nd.sublist (List.take_sublist _ _)
    refine ⟨u, rv, ?_⟩
    rcases S.par y (List.mem_of_getElem? hp) with k | k
    · exact .inl ⟨k, bindL_get ndP hp hu k⟩
    · obtain ⟨c, e⟩ := cell_has (n := s.heap.objs.size + 1) k
      refine .inr ⟨.inl k, c, e, ?_⟩
      have q := x.cell y c e
      rw [bindC_get ndP hp hu (by show scope.names.lookup y ≠ _; rw [k]; decide)] at q
      exact q
  · exact .inl (e0.hok.fresh (Nat.le_of_lt (x.above y c (PySem.mem_of_lookup h))))
  · unfold start
    show _ = N.length
    rw [List.length_append, List.length_map, List.length_replicate]
    omega
/-- THE RULE: a def (or a method) of the text, by its body. The body's reading t is chosen for each entry; it is run at the parameters' values -/
theorem fn_of {CX : CXT} {P : Program} {w : World} {K : PySem.W.Frag} {mg : Str → Option Value} {base : Bs} {k : Nat} {f : Addr} {name qual : Str} {params : Arguments} {body : List Stmt} {scope : Scope} {dV kV doc pm cdv ct oc : Value} {an od : Option Addr}
    {osl : Array (Option Value)} {N ps : List Str} {sp : Sp} (lk : K.lookup f = some ⟨oc, od, .func (PySem.W.fnOf name qual params body scope dV kV doc pm an cdv ct), osl⟩) (hcd : PySem.W.codeIn K cdv qual = true) (S : FnScope N ps scope)
    (len : ∀ vs H Q E, sp vs H Q E → vs.length = ps.length)
    (hbody : ∀ (A : Around) (outer : List Env) (s : Shared) (H : Hp) (vs : List V) (Q : VK) (E : XK), Room k (A.deeper (envOfC qual scope s.heap.objs.size f cdv)) → sp vs H Q E →
      ∃ t, PSs (cxOf CX P w K mg base N qual scope f cdv A outer s H E) body t ∧ t { nx := fun _ H' => Q .non H', rt := Q } (start N vs) H) :
    FnOk P w K mg base CX (k + 1) f (PySem.W.fnOf name qual params body scope dV kV doc pm an cdv ct) ps sp := by
  refine ⟨len, fun A outer s H args us vs Q E hr e0 hb r hsp => ?_⟩
  have hl := len _ _ _ _ hsp
  have KX : K.In s.heap := e0.mod.kin.keeps fun b o e => (e0.bs b o e).1
  have lim : s.heap.NoLimit := e0.mod.nolimit.keeps fun b o e => (e0.bs b o e).1
  have hkind : ∀ y ∈ ps.zip us, scope.names.lookup y.1 = some .local ∨ (scope.names.lookup y.1 = some .cell ∧ ((cellsFrom (s.heap.objs.size + 1) scope.names []).lookup y.1).isSome = true) := fun ⟨n, v⟩ hy => by
    rcases S.par n (List.of_mem_zip hy).1 with q | q
    · exact .inl q
    · exact .inr ⟨q, PySem.W.cellsFrom_some _ _ _ (.inl q)⟩
  refine codeAny_call_function hr.depth (KX _ _ lk) rfl S.co S.gen rfl (PySem.W.codeRec_of KX hcd) (hb _ _ _ _ ?_)
  refine wpAny_newFunctionEnv_cells S.kind hkind fun env he s1 x => ?_
  subst he
  refine ⟨lim.keeps x.toInCall.keep, codeAny_func ?_⟩
  obtain ⟨t, ht, hq⟩ := hbody A outer s H vs Q E (hr.deeper _) hsp
  have I : Inv (cxOf CX P w K mg base N qual scope f cdv A outer s H E) [] (start N vs) H s1 := inv_start S hr.hd e0 hl r x
  refine wpAny_mono (ht [] s1 (start N vs) H _ I hq) (fun fl s' hs => ?_) fun e s' hs => hs
  have fin : ∀ {σ' : St} {H' : Hp} {v : V} {u : Value}, Inv (cxOf CX P w K mg base N qual scope f cdv A outer s H E) [] σ' H' s' → RelV v u → Q v H' → CE outer P w H s Q u s' :=
    fun {σ' H' v u} J rv q => ⟨v, H', J.os, J.bare, J.base, J.hok, rv, q⟩
  cases fl with
  | ret u =>
    obtain ⟨v, H', J, rv, q⟩ := hs
    exact ⟨v, H', J.os, J.bare, J.base, J.hok, rv, q⟩
  | next =>
    obtain ⟨σ', H', J, q⟩ := hs
    exact fin (v := V.non) (u := Value.none) J rfl q
  | brk =>
    obtain ⟨_, _, _, q⟩ := hs
    exact False.elim q
  | cont =>
    obtain ⟨_, _, _, q⟩ := hs
    exact False.elim q
end L2
namespace L2
open PySem PySem.Spec PyProof.Rows
section
variable {X : Cx} {x : Str} {p pos : Pos} {e : Expr} {es : List Expr} {t : TA} {id T : String} {r : List V → Hp → VK → Prop}
def tCB (r : List V → Hp → VK → Prop) (t : TA) : TE := fun σ H Q => t σ H fun vs H1 => r vs H1 Q
/-- f(e, ..), f a built-in function -/
theorem pe_callB (hc : CallR X (.builtin id) r) (hg : Gl X x) (hm : X.mg x = none) (hv : bootBuiltins x = some (.builtin id)) (ha : PA X (e :: es) t) (hn : x ≠ "__name__" := by decide) (hdb : (x == ("__debug__" : Str)) = false := by decide)
    (he : starEach (e :: es) X.env = (false, eval e X.env) :: starEach es X.env := by rfl) (hpl : (backTo pos (starEach es X.env)).any (·.1) = false := by rfl) : PE X (.Call (.Name x p) (e :: es) [] pos) (tCB r t) := by
  intro pins s σ H Q I h
  refine wpAny_Call_Name_kw (ld_blt I hg hm hv ?_ hn hdb)
  exact PyProof.Rows.callWith_builtin1 (thn (ha pos pins s σ H _ I h) fun us s1 ⟨vs, H1, I1, r1, q1⟩ => hc pins s1 σ H1 vs us Q I1 r1 q1) he hpl
/-- T(e, ..), T a built-in type -/
theorem pe_callTy (hc : CallR X (.type T) r) (hg : Gl X x) (hm : X.mg x = none) (hv : bootBuiltins x = some (.type T)) (ha : PA X (e :: es) t) (hn : x ≠ "__name__" := by decide) (hdb : (x == ("__debug__" : Str)) = false := by decide)
    (he : starEach (e :: es) X.env = (false, eval e X.env) :: starEach es X.env := by rfl) (hpl : (backTo pos (starEach es X.env)).any (·.1) = false := by rfl) : PE X (.Call (.Name x p) (e :: es) [] pos) (tCB r t) := by
  intro pins s σ H Q I h
  refine wpAny_Call_Name_kw (ld_blt I hg hm hv ?_ hn hdb)
  exact PyProof.Rows.callWith_type1 (thn (ha pos pins s σ H _ I h) fun us s1 ⟨vs, H1, I1, r1, q1⟩ => hc pins s1 σ H1 vs us Q I1 r1 q1) he hpl
end
end L2
namespace HT
open PySem PyProof.Rows
section
open PySem.SeqAt
open PySem.AutoSeq1 (wpAny_loadPart')
open PySem.MeetsSeq PySem.MeetsSeq2 PySem.MeetsSeq3
end
section
variable {prog : Program} {w : World} {A : Around} {E : Value → Shared → Prop} {s : Shared}
/-! ### t[a:b], not the whole -/
/-- a slice's bound as a place among n (d where it is left out) -/
def sIx (n d : Nat) : Option Int → Nat
  | none => d
  | some v => if v < 0 then (v + (n : Int)).toNat else min v.toNat n
end
end HT
namespace L2
open PySem PySem.Spec PyProof.Rows
/-! ### the parts of a slice -/
abbrev TO := St → Hp → (Option Int → Hp → Prop) → Prop
/-- a slice's part (left out, or an int) -/
def PO (X : Cx) (e : Option Expr) (t : TO) : Prop :=
  ∀ (pins : List (Addr × Obj)) (s : Shared) (σ : St) (H : Hp) (Q : Option Int → Hp → Prop), Inv X pins σ H s → t σ H Q →
    wpAny (model X.prog X.w) X.A (evalPart e X.env) (fun u s' => ∃ o H', Inv X pins σ H' s' ∧ IsPart u o ∧ Q o H') X.xe s
def tNoPart : TO := fun _ H Q => Q none H
def tPart (t : TE) : TO := fun σ H Q => t σ H fun x H1 => ∃ i, x = .int i ∧ Q (some i) H1
section
variable {X : Cx} {e : Expr} {te : TE} {lo hi : Option Expr} {tl th : TO} {pos p2 : Pos}
theorem po_none : PO X none tNoPart := by
  intro pins s σ H Q I h
  rw [evalPart_none]
  exact wpAny_pure ⟨none, H, I, .none, h⟩
theorem po_some (h : PE X e te) : PO X (some e) (tPart te) := by
  intro pins s σ H Q I hw
  rw [evalPart_some]
  refine thn (h pins s σ H _ I hw) fun u s1 ⟨x, H1, I1, r1, q1⟩ => ?_
  obtain ⟨i, rfl, q⟩ := q1
  obtain ⟨t, rfl⟩ := r1
  exact ⟨some i, H1, I1, .int i t, q⟩
/-- what a slice of a value is, by values: the slice object stands at sl -/
def SlR (X : Cx) (r : V → Option Int → Option Int → Hp → VK → Prop) : Prop :=
  ∀ (pins : List (Addr × Obj)) (s : Shared) (σ : St) (H : Hp) (x : V) (v vl vu : Value) (lo hi : Option Int) (sl : Addr) (Q : VK), Inv X pins σ H s → RelV x v → s.heap.IsSliceOf sl vl vu .none → IsPart vl lo → IsPart vu hi → r x lo hi H Q →
    ∃ T id, typeLookup (.type T) "__getitem__" = pure (some (.builtin id)) ∧ s.TypeIs v T ∧ wpAny (model X.prog X.w) X.A (getItem v (.ref sl)) (EP X pins σ Q) X.xe s
theorem SlR.or {r r' : V → Option Int → Option Int → Hp → VK → Prop} (h : SlR X r) (h' : SlR X r') : SlR X (fun x lo hi H Q => r x lo hi H Q ∨ r' x lo hi H Q) := by
  intro pins s σ H x v vl vu lo hi sl Q I rx hs pl pu q
  rcases q with q | q
  · exact h pins s σ H x v vl vu lo hi sl Q I rx hs pl pu q
  · exact h' pins s σ H x v vl vu lo hi sl Q I rx hs pl pu q
def tSl (r : V → Option Int → Option Int → Hp → VK → Prop) (te : TE) (tl th : TO) : TE := fun σ H Q => te σ H fun x H1 => tl σ H1 fun l H2 => th σ H2 fun u H3 => r x l u H3 Q
/-- a[lo:hi], any a -/
theorem pe_slice {r : V → Option Int → Option Int → Hp → VK → Prop} (hr : SlR X r) (he : PE X e te) (hl : PO X lo tl) (hu : PO X hi th) : PE X (.Subscript e (.Slice lo hi none p2) pos) (tSl r te tl th) := by
  intro pins s σ H Q I h
  refine Subscript_ (thn (he pins s σ H _ I h) fun v s1 ⟨x, H1, I1, r1, q1⟩ => ?_)
  refine wpAny_Slice (thn (hl pins s1 σ H1 _ I1 q1) fun vl s2 ⟨l, H2, I2, pl, q2⟩ => thn (hu pins s2 σ H2 _ I2 q2) fun vu s3 ⟨u, H3, I3, pu, q3⟩ => ?_)
  rw [evalPart_none]
  refine wpAny_pure ?_
  have I4 : Inv X pins σ H3 { s3 with heap := s3.heap.push { cls := .type "slice", data := .fields #[vl, vu, .none] } } := I3.kept (t' := s3.toks) fun b ob q => Heap.get?_push_of_some _ q
  obtain ⟨T, id, hT, ht, hg⟩ := hr pins { s3 with heap := s3.heap.push { cls := .type "slice", data := .fields #[vl, vu, .none] } } σ H3 x v vl vu l u s3.heap.objs.size Q I4 r1 (Heap.IsSliceOf.new ..) pl pu q3
  show wpAny (model X.prog X.w) X.A (subscriptTail e (.Slice lo hi none p2) v (.ref s3.heap.objs.size)) (EP X pins σ Q) X.xe { s3 with heap := s3.heap.push { cls := .type "slice", data := .fields #[vl, vu, .none] } }
  exact tail_any (ops := [.ref s3.heap.objs.size, v]) ht hT hg (by with_unfolding_all rfl)
/-- the items of xs[lo:hi] -/
def cutV (xs : List V) (lo hi : Option Int) : List V := (xs.drop (HT.sIx xs.length 0 lo)).take (HT.sIx xs.length xs.length hi - HT.sIx xs.length 0 lo)
theorem cutV_length (xs : List V) (lo hi : Option Int) : (cutV xs lo hi).length ≤ xs.length := by
  unfold cutV
  rw [List.length_take, List.length_drop]
  omega
end
end L2
namespace L2
open PySem PySem.Spec PyProof.Rows
/-! ### places -/
/-- the place that an index of any sign means -/
def ixN (n : Nat) (i : Int) : Option Nat := if 0 ≤ i then (if i < n then some i.toNat else none) else if -(n : Int) ≤ i then some (i + n).toNat else none
def atI {α : Type} (xs : List α) (i : Int) : Option α := (ixN xs.length i).bind fun j => xs[j]?
theorem ixN_seq {n : Nat} {i : Int} {j : Nat} (h : ixN n i = some j) : seqIndex? i n = some j ∧ j < n ∧ -(n : Int) ≤ i ∧ i < n := by
  unfold ixN at h
  by_cases h0 : 0 ≤ i
  · rw [if_pos h0] at h
    by_cases h1 : i < n
    · rw [if_pos h1] at h
      have e : i.toNat = j := Option.some.inj h
      exact ⟨by rw [seqIndex_of h0 h1, e], by omega, by omega, h1⟩
    · rw [if_neg h1] at h; cases h
  · rw [if_neg h0] at h
    by_cases h1 : -(n : Int) ≤ i
    · rw [if_pos h1] at h
      have e : (i + n).toNat = j := Option.some.inj h
      exact ⟨by rw [seqIndex_neg (by omega) h1, e], by omega, h1, by omega⟩
    · rw [if_neg h1] at h; cases h
theorem atI_get {α : Type} {xs : List α} {i : Int} {v : α} (h : atI xs i = some v) : ∃ j, seqIndex? i xs.length = some j ∧ xs[j]? = some v ∧ j < xs.length ∧ -(xs.length : Int) ≤ i ∧ i < xs.length := by
  unfold atI at h
  cases e : ixN xs.length i with
  | none => rw [e] at h; cases h
  | some j =>
    rw [e] at h
    obtain ⟨h1, h2, h3, h4⟩ := ixN_seq e
    exact ⟨j, h1, h, h2, h3, h4⟩
theorem atI_nat {α : Type} {xs : List α} {j : Nat} {v : α} (h : xs[j]? = some v) : atI xs (j : Int) = some v := by
  have hj : j < xs.length := (List.getElem?_eq_some_iff.mp h).1
  have e : ixN xs.length (j : Int) = some j := by
    unfold ixN
    rw [if_pos (by omega), if_pos (by omega)]; simp
  unfold atI; rw [e]; exact h
/-! ### what may be subscripted -/
/-- what stands as an index of a plain subscript -/
def PlainIx (b : Expr) : Prop := ∀ o i, subscripted b false o i = operate [o, i] (getItem o i)
/-- a subscript by values -/
def IxR (X : Cx) (r : R2) : Prop :=
  ∀ (value slice : Expr) (pins : List (Addr × Obj)) (s : Shared) (σ : St) (H : Hp) (x y : V) (v u : Value) (Q : VK), Inv X pins σ H s → RelV x v → RelV y u → r x y H Q →
    subscripted slice false v u = operate [v, u] (getItem v u) → wpAny (model X.prog X.w) X.A (subscriptTail value slice v u) (EP X pins σ Q) X.xe s
/-- a call of a builtin's method by values: the receiver, the arguments -/
def MtR (X : Cx) (id : String) (r : V → List V → Hp → VK → Prop) : Prop :=
  ∀ (pins : List (Addr × Obj)) (s : Shared) (σ : St) (H : Hp) (x : V) (xs : List V) (v : Value) (us : List Value) (Q : VK), Inv X pins σ H s → RelV x v → Vals xs us → r x xs H Q →
    wpAny (model X.prog X.w) X.A (call (.builtin id) (v :: us)) (EP X pins σ Q) X.xe s
section
variable {X : Cx} {a b : Expr} {ta tb : TE} {pos : Pos}
theorem IxR.or {r r' : R2} (h : IxR X r) (h' : IxR X r') : IxR X (fun x y H Q => r x y H Q ∨ r' x y H Q) := by
  intro value slice pins s σ H x y v u Q I rx ry q hs
  rcases q with q | q
  · exact h value slice pins s σ H x y v u Q I rx ry q hs
  · exact h' value slice pins s σ H x y v u Q I rx ry q hs
theorem MtR.or {id : String} {r r' : V → List V → Hp → VK → Prop} (h : MtR X id r) (h' : MtR X id r') : MtR X id (fun x xs H Q => r x xs H Q ∨ r' x xs H Q) := by
  intro pins s σ H x xs v us Q I rx rs q
  rcases q with q | q
  · exact h pins s σ H x xs v us Q I rx rs q
  · exact h' pins s σ H x xs v us Q I rx rs q
/-- a[b] -/
theorem pe_ix {r : R2} (hr : IxR X r) (ha : PE X a ta) (hb : PE X b tb) (hs : PlainIx b) : PE X (.Subscript a b pos) (tOp r ta tb) := by
  intro pins s σ H Q I h
  exact Subscript_ (binT ha hb I h fun v u s2 x y H2 I2 rx ry q => hr a b pins s2 σ H2 x y v u Q I2 rx ry q (hs _ _))
def rIxL (K : PySem.W.Frag) : R2 := fun x y H Q => ∃ p xs i v, x = .ref p ∧ y = .int i ∧ SqL K H p xs ∧ atI xs i = some v ∧ Q v H
def rIxT (K : PySem.W.Frag) : R2 := fun x y H Q => ∃ p xs i v, x = .ref p ∧ y = .int i ∧ SqT K H p xs ∧ atI xs i = some v ∧ Q v H
def rIxS : R2 := fun x y H Q => ∃ z i c, x = .str z ∧ y = .int i ∧ z.length ≤ sizeLine ∧ atI z.cps.toList i = some c ∧ Q (.str ⟨#[c]⟩) H
theorem ix_list : IxR X (rIxL X.K) := by
  intro value slice pins s σ H x y v u Q I rx ry h hs
  obtain ⟨p, xs, i, z, rfl, rfl, hq, he, q⟩ := h
  cases rx
  obtain ⟨t, rfl⟩ := ry
  obtain ⟨its, r, pl, hz⟩ := I.list hq
  obtain ⟨j, h1, h2, h3, h4, h5⟩ := atI_get he
  obtain ⟨w, ew, rw'⟩ := r.get h2
  have hl := r.length
  have hn := line63
  have fin : EP X pins σ Q w s := ⟨z, H, I, rw', q⟩
  by_cases h0 : 0 ≤ i
  · have hj : i.toNat = j := by
      rw [seqIndex_of h0 h5] at h1
      exact Option.some.inj h1
    exact item_listR pl.isList h0 (by omega) (by rw [hj]; simpa using ew) fin hs
  · have hj : (i + (its.toArray.size : Int)).toNat = j := by
      rw [seqIndex_neg (by omega) h4] at h1
      rw [List.size_toArray, ← hl]
      exact Option.some.inj h1
    exact subscriptTail_builtinR (x := w) pl.isList.typeIs slot_list_getitem.lookup
      (wpAny_getItem_list_neg (Q := fun r s' => r = w ∧ EP X pins σ Q r s') pl.isList (by omega) (by rw [List.size_toArray] <;> omega) (by omega) (by rw [hj]; simpa using ew) ⟨rfl, fin⟩) hs
theorem ix_tup : IxR X (rIxT X.K) := by
  intro value slice pins s σ H x y v u Q I rx ry h hs
  obtain ⟨p, xs, i, z, rfl, rfl, hq, he, q⟩ := h
  cases rx
  obtain ⟨t, rfl⟩ := ry
  obtain ⟨its, r, pl, hz⟩ := I.tuple hq
  obtain ⟨j, h1, h2, h3, h4, h5⟩ := atI_get he
  obtain ⟨w, ew, rw'⟩ := r.get h2
  have hl := r.length
  have hn := line63
  have fin : EP X pins σ Q w s := ⟨z, H, I, rw', q⟩
  exact subscriptTail_builtinR (x := w) pl.typeIs slot_tuple_getitem.lookup
    (getItem_tuple (j := j) (Q := fun r s' => r = w ∧ EP X pins σ Q r s') pl (by omega) (by omega) (by rw [List.size_toArray, ← hl]; exact h1) (by simpa using ew) ⟨rfl, fin⟩) hs
theorem ix_str : IxR X rIxS := by
  intro value slice pins s σ H x y v u Q I rx ry h hs
  obtain ⟨z, i, c, rfl, rfl, hz, he, q⟩ := h
  obtain ⟨t, rfl⟩ := rx
  obtain ⟨t', rfl⟩ := ry
  obtain ⟨j, h1, h2, h3, h4, h5⟩ := atI_get he
  have hl : z.cps.toList.length = z.length := by simp [Str.length]
  rw [hl] at h1 h4 h5
  have hn := line63
  exact tail_any (typeIs_str s z t) slot_str_getitem.lookup (getItem_str (c := c) (by
    have e1 : decide (i < -(2 ^ 63 : Int)) = false := decide_eq_false (by omega)
    have e2 : decide (i ≥ 2 ^ 63) = false := decide_eq_false (by omega)
    rw [e1, e2, Bool.or_false]) (by rw [h1]; simpa using h2) ⟨.str ⟨#[c]⟩, H, I.tok _, ⟨_, rfl⟩, q⟩) hs
/-- list, tuple or str -/
def rIx (K : PySem.W.Frag) : R2 := fun x y H Q => rIxL K x y H Q ∨ rIxT K x y H Q ∨ rIxS x y H Q
theorem ix_seq : IxR X (rIx X.K) := ix_list.or (ix_tup.or ix_str)
theorem Inv.lst {pins : List (Addr × Obj)} {σ : St} {H : Hp} {s : Shared} {p : Addr} {xs : List V} (I : Inv X pins σ H s) (h : H p = some (.lst xs)) :
    ∃ (its : List Value) (n : Nat), Vals xs its ∧ s.heap.get? p = some { cls := .type "list", data := .seq its.toArray n } ∧ xs.length ≤ sizeLine := by
  obtain ⟨z, its, n, r, e⟩ := I.hok p _ h
  exact ⟨its, n, r, e, z⟩
/-! ### slices -/
theorem slice_bounds (lo hi : Option Int) (n : Nat) : (sliceBounds lo hi none n).1 = ((HT.sIx n 0 lo : Nat) : Int) ∧ (sliceBounds lo hi none n).2.1 = ((HT.sIx n n hi : Nat) : Int) ∧ (sliceBounds lo hi none n).2.2 = 1 := by
  refine ⟨?_, ?_, rfl⟩
  · cases lo with
    | none => simp [sliceBounds, HT.sIx]
    | some i =>
      simp only [sliceBounds, HT.sIx, Option.getD_none, show (1 : Int) > 0 by decide, if_true]
      by_cases h : i < 0
      · simp only [h, if_true] <;> omega
      · simp only [h, if_false] <;> omega
  · cases hi with
    | none => simp [sliceBounds, HT.sIx]
    | some i =>
      simp only [sliceBounds, HT.sIx, Option.getD_none, show (1 : Int) > 0 by decide, if_true]
      by_cases h : i < 0
      · simp only [h, if_true] <;> omega
      · simp only [h, if_false] <;> omega
theorem slicePick_cut (its : List Value) (lo hi : Option Int) : slicePick its.toArray lo hi none = ((its.drop (HT.sIx its.length 0 lo)).take (HT.sIx its.length its.length hi - HT.sIx its.length 0 lo)).toArray := by
  obtain ⟨h1, h2, h3⟩ := slice_bounds lo hi its.toArray.size
  unfold slicePick
  rw [h1, h2, h3]
  simp only [sliceRange_one, pick_run, List.size_toArray] <;> rfl
/-- xs[lo:hi] of a list: a new list -/
def rSlL (K : PySem.W.Frag) : V → Option Int → Option Int → Hp → VK → Prop := fun x lo hi H Q => ∃ a xs, x = .ref a ∧ SqL K H a xs ∧ ∀ p, H p = none → Q (.ref p) (upd H p (.lst (cutV xs lo hi)))
theorem sl_list : SlR X (rSlL X.K) := by
  intro pins s σ H x v vl vu lo hi sl Q I rx hs pl pu h
  obtain ⟨a, xs, rfl, hx, q⟩ := h
  cases rx
  obtain ⟨its, r, ht, hz⟩ := I.list hx
  have hlen := r.length
  refine ⟨"list", _, slot_list_getitem.lookup, ht.isList.typeIs, ?_⟩
  refine wpAny_getItem_list_slice ht.isList hs pl pu .none (by simp) ?_ (by rw [List.size_toArray] <;> omega)
  rw [slicePick_cut, ← hlen]
  refine ⟨.ref s.heap.objs.size, _, I.laid (t' := s.toks) (o := .lst (cutV xs lo hi)) (fun b ob q => Heap.get?_push_of_some _ q) (Nat.le_refl _) ?_, rfl, q _ (I.hok.fresh (Nat.le_refl _))⟩
  exact ⟨Nat.le_trans (cutV_length xs lo hi) hz, _, 0, (r.drop (HT.sIx xs.length 0 lo)).take (HT.sIx xs.length xs.length hi - HT.sIx xs.length 0 lo), Heap.get?_push_size _ rfl⟩
/-! ### in, not in: flat items -/
def flatV : V → Bool
  | .non => true
  | .bl _ => true
  | .int _ => true
  | .str _ => true
  | _ => false
/-- == of flat values -/
def eqV : V → V → Bool
  | .non, .non => true
  | .bl a, .bl b => a == b
  | .bl a, .int b => (if a then 1 else 0) == b
  | .int a, .bl b => a == (if b then 1 else 0)
  | .int a, .int b => a == b
  | .str a, .str b => a == b
  | _, _ => false
theorem eqAt_V {A : Around} {s : Shared} {y x : V} {u v : Value} (ry : RelV y u) (rx : RelV x v) (fy : flatV y = true) (fx : flatV x = true) : SeqAt.EqAt A s u v (eqV y x) := by
  cases y with
  | non =>
    cases ry
    cases x with
    | non => cases rx; exact SeqAt.EqAt.same _
    | bl b => cases rx; exact SeqAt.EqAt.none_bool b
    | int b => obtain ⟨t, rfl⟩ := rx; exact SeqAt.EqAt.none_int b t
    | str b => obtain ⟨t, rfl⟩ := rx; exact SeqAt.EqAt.none_str b t
    | _ => exact absurd (show false = true from fx) Bool.false_ne_true
  | bl a =>
    cases ry
    cases x with
    | non => cases rx; exact SeqAt.EqAt.bool_none a
    | bl b => cases rx; exact SeqAt.EqAt.bool_bool a b
    | int b => obtain ⟨t, rfl⟩ := rx; exact SeqAt.EqAt.bool_int a b t
    | str b => obtain ⟨t, rfl⟩ := rx; exact SeqAt.EqAt.bool_str a b t
    | _ => exact absurd (show false = true from fx) Bool.false_ne_true
  | int a =>
    obtain ⟨t', rfl⟩ := ry
    cases x with
    | non => cases rx; exact SeqAt.EqAt.int_none a t'
    | bl b => cases rx; exact SeqAt.EqAt.int_bool a t' b
    | int b => obtain ⟨t, rfl⟩ := rx; exact SeqAt.EqAt.int_int a t' b t
    | str b => obtain ⟨t, rfl⟩ := rx; exact SeqAt.EqAt.int_str a t' b t
    | _ => exact absurd (show false = true from fx) Bool.false_ne_true
  | str a =>
    obtain ⟨t', rfl⟩ := ry
    cases x with
    | non => cases rx; exact SeqAt.EqAt.str_none a t'
    | bl b => cases rx; exact SeqAt.EqAt.str_bool a t' b
    | int b => obtain ⟨t, rfl⟩ := rx; exact SeqAt.EqAt.str_int a t' b t
    | str b => obtain ⟨t, rfl⟩ := rx; exact SeqAt.EqAt.str_str a t' b t
    | _ => exact absurd (show false = true from fx) Bool.false_ne_true
  | _ => exact absurd (show false = true from fy) Bool.false_ne_true
/-- the items' answers, read off the values (a value's own answer does not lean on its token) -/
def eqU (x : V) (u : Value) : Bool := match u with
  | .none => eqV .non x
  | .bool b => eqV (.bl b) x
  | .int i _ => eqV (.int i) x
  | .str z _ => eqV (.str z) x
  | _ => false
theorem eqU_of {x y : V} {u : Value} (r : RelV y u) (f : flatV y = true) : eqU x u = eqV y x := by
  cases y with
  | non => cases r; rfl
  | bl b => cases r; rfl
  | int i => obtain ⟨t, rfl⟩ := r; rfl
  | str z => obtain ⟨t, rfl⟩ := r; rfl
  | _ => exact absurd (show false = true from f) Bool.false_ne_true
theorem any_eqU {x : V} : ∀ {xs : List V} {us : List Value}, Vals xs us → xs.all flatV = true → us.any (eqU x) = xs.any fun y => eqV y x
  | _, _, .nil, _ => rfl
  | y :: xs, u :: us, .cons r t, f => by
    rw [List.all_cons, Bool.and_eq_true] at f
    rw [List.any_cons, List.any_cons, eqU_of r f.1, any_eqU t f.2]
theorem mem_eqAt {A : Around} {s : Shared} {x : V} {v : Value} (rx : RelV x v) (fx : flatV x = true) : ∀ {xs : List V} {us : List Value}, Vals xs us → xs.all flatV = true → ∀ u ∈ us, SeqAt.EqAt A s u v (eqU x u)
  | _, _, .nil, _ => fun u hu => by cases hu
  | y :: xs, u :: us, .cons r t, f => fun u' hu => by
    rw [List.all_cons, Bool.and_eq_true] at f
    rcases List.mem_cons.mp hu with rfl | hu
    · rw [eqU_of r f.1]; exact eqAt_V r rx f.1 fx
    · exact mem_eqAt rx fx t f.2 u' hu
def inV (x : V) (xs : List V) : Bool := xs.any fun y => eqV y x
/-- x in a list or tuple of flat items -/
def rIn (K : PySem.W.Frag) (neg : Bool) : R2 := fun x y H Q => ∃ p xs, y = .ref p ∧ (SqL K H p xs ∨ SqT K H p xs) ∧ flatV x = true ∧ xs.all flatV = true ∧ Q (.bl (if neg then !inV x xs else inV x xs)) H
theorem op_in_seq : OpR X (compareOp .In) (rIn X.K false) := by
  intro pins s σ H x y v u Q I rx ry h
  obtain ⟨p, xs, rfl, hq, fx, fs, q⟩ := h
  cases ry
  rcases hq with hq | hq
  · obtain ⟨its, r, pl, hz⟩ := I.list hq
    refine SeqAt.in_listAt (eqU x) pl.isList (fun w hw => mem_eqAt rx fx r fs w (by simpa using hw)) ⟨.bl _, H, I, rfl, ?_⟩
    rw [show its.toArray.any (eqU x) = its.any (eqU x) by simp, any_eqU r fs]
    exact q
  · obtain ⟨its, r, pl, hz⟩ := I.tuple hq
    refine SeqAt.in_tupleAt (eqU x) pl (fun w hw => mem_eqAt rx fx r fs w (by simpa using hw)) ⟨.bl _, H, I, rfl, ?_⟩
    rw [show its.toArray.any (eqU x) = its.any (eqU x) by simp, any_eqU r fs]
    exact q
theorem CallR.or {f : Value} {r r' : List V → Hp → VK → Prop} (h : CallR X f r) (h' : CallR X f r') : CallR X f (fun xs H Q => r xs H Q ∨ r' xs H Q) := by
  intro pins s σ H xs us Q I rs q
  rcases q with q | q
  · exact h pins s σ H xs us Q I rs q
  · exact h' pins s σ H xs us Q I rs q
/-! ### the call of a builtin's method: o.m(..) -/
/-- the value is of that builtin type -/
def tyV (K : PySem.W.Frag) (T : String) (x : V) (H : Hp) : Prop := match x with
  | .str _ => T = "str"
  | .int _ => T = "int"
  | .ref p => (T = "list" ∧ ∃ xs, SqL K H p xs) ∨ (T = "tuple" ∧ ∃ o, K.lookup p = some o ∧ o.cls = .type "tuple" ∧ o.dict = none) ∨
      (T = "dict" ∧ ((∃ kvs, H p = some (.dK kvs)) ∨ ∃ kvs, H p = some (.dT kvs))) ∨ (T = "set" ∧ ∃ S n, H p = some (.set S n))
  | _ => False
theorem tyV_is {pins : List (Addr × Obj)} {σ : St} {H : Hp} {s : Shared} {T : String} {x : V} {v : Value} (I : Inv X pins σ H s) (r : RelV x v) (ty : tyV X.K T x H) :
    s.TypeIs v T ∧ ∀ a, v = .ref a → ∃ ob, s.heap.get? a = some ob ∧ ob.dict = none := by
  cases x with
  | str z =>
    obtain ⟨t, rfl⟩ := r
    cases (show T = "str" from ty)
    exact ⟨typeIs_str s z t, fun _ e => nomatch e⟩
  | int i =>
    obtain ⟨t, rfl⟩ := r
    cases (show T = "int" from ty)
    exact ⟨typeIs_int s i t, fun _ e => nomatch e⟩
  | ref p =>
    cases r
    rcases ty with ⟨rfl, xs, hq⟩ | ⟨rfl, o, hk, hc, hd⟩ | ⟨rfl, hk⟩ | ⟨rfl, S, n, hk⟩
    · obtain ⟨its, _, pl, _⟩ := I.list hq
      refine ⟨pl.isList.typeIs, fun a e => ?_⟩
      cases e
      obtain ⟨o, n, e, c, hd, _⟩ := pl
      exact ⟨o, e, hd⟩
    · refine ⟨⟨o, I.kIn p o hk, hc⟩, fun a e => ?_⟩
      cases e
      exact ⟨o, I.kIn _ o hk, hd⟩
    · have z : ∃ o, s.heap.get? p = some o ∧ o.ExactDict := by
        rcases hk with ⟨kvs, hk⟩ | ⟨kvs, hk⟩
        · obtain ⟨_, _, _, _, o, _, _, e, ex, _⟩ := I.hok p _ hk
          exact ⟨o, e, ex⟩
        · obtain ⟨_, _, _, _, o, _, _, e, ex, _⟩ := I.hok p _ hk
          exact ⟨o, e, ex⟩
      obtain ⟨o, e, ex⟩ := z
      refine ⟨⟨o, e, ex.1⟩, fun a e2 => ?_⟩
      cases e2
      exact ⟨o, e, ex.2.1⟩
    · obtain ⟨o, _, _, _, e, ex, _⟩ := I.hok p _ hk
      refine ⟨⟨o, e, ex.1⟩, fun a e2 => ?_⟩
      cases e2
      exact ⟨o, e, ex.2.1⟩
  | _ => exact False.elim ty
def tBM (K : PySem.W.Frag) (T : String) (r : V → List V → Hp → VK → Prop) (to : TE) (t : TA) : TE := fun σ H Q => to σ H fun x H1 => tyV K T x H1 ∧ t σ H1 fun xs H2 => r x xs H2 Q
variable {o e : Expr} {es : List Expr} {to : TE} {t : TA} {name : Str} {apos cpos : Pos} {T id : String} {r : V → List V → Hp → VK → Prop}
theorem pe_bm (pa : PlainAttrs T) (slot : Slot T name id) (hty : typeOf (.builtin id) = pure (.type "method_descriptor")) (hm : MtR X id r) (ho : PE X o to) (ha : PA X (e :: es) t)
    (hbase : attributeBase o name X.env (eval o X.env) = eval o X.env := by rfl)
    (hfew : ((backTo cpos (starEach (e :: es) X.env)).all (fun x => !x.1) && (backToKw cpos (keywordEach [] X.env)).all (fun x => x.1.isSome)
      && decide ((e :: es).length + ([] : List Keyword).length + (if ([] : List Keyword).isEmpty then 0 else 1) < 30)) = true := by rfl)
    (hline : (apos.endLine == cpos.line) = true := by rfl) (hs : starEach (e :: es) X.env = (false, eval e X.env) :: starEach es X.env := by rfl) (hplain : (backTo cpos (starEach es X.env)).any (·.1) = false := by rfl) :
    PE X (.Call (.Attribute o name apos) (e :: es) [] cpos) (tBM X.K T r to t) := by
  intro pins s σ H Q I h
  refine wpAny_Call_method_late hbase hfew hline rfl (thn (ho pins s σ H _ I h) fun v s1 ⟨x, H1, I1, r1, ty, q1⟩ => ?_)
  obtain ⟨h1, h2⟩ := tyV_is I1 r1 ty
  refine ⟨T, id, pa, slot, hty, h1, h2, ?_⟩
  have hA := ha cpos pins s1 σ H1 _ I1 q1
  rw [hs] at hA ⊢
  refine Calls.callWith_builtin (by show (false || (backTo cpos (starEach es X.env)).any (·.1)) = false; rw [hplain] <;> rfl) (Calls.evalArgs_plain ?_)
  exact thn hA fun us s2 ⟨vs, H2, I2, r2, q2⟩ => hm pins s2 σ H2 x vs v us Q I2 r1 r2 q2
/- xs.append(e), list.index on a module's tuple .. are MtR facts of 06m -/
end
end L2
namespace L2
open PySem PySem.Spec PyProof.Rows
def MtM (X : Cx) (id : String) (r : V → List V → Hp → VK → Prop) : Prop :=
  ∀ (pins : List (Addr × Obj)) (s : Shared) (σ : St) (H : Hp) (x : V) (xs : List V) (v : Value) (us : List Value) (Q : VK), Inv X pins σ H s → RelV x v → Vals xs us → r x xs H Q →
    wpAny (model X.prog X.w) X.A (call (.builtin id) (v :: us)) (EP X pins σ Q) X.xe s
/-! ### lists of values -/
theorem Vals.one : ∀ {x : V} {us : List Value}, Vals [x] us → ∃ u, us = [u] ∧ RelV x u
  | _, _, .cons r .nil => ⟨_, rfl, r⟩
theorem Vals.two : ∀ {x y : V} {us : List Value}, Vals [x, y] us → ∃ u v, us = [u, v] ∧ RelV x u ∧ RelV y v
  | _, _, _, .cons r (.cons q .nil) => ⟨_, _, rfl, r, q⟩
theorem Vals.zero : ∀ {us : List Value}, Vals [] us → us = []
  | _, .nil => rfl
theorem Vals.dropLast {xs : List V} {us : List Value} (h : Vals xs us) : Vals xs.dropLast us.dropLast := by
  induction h with
  | nil => exact .nil
  | cons r t ih =>
    cases t with
    | nil => exact .nil
    | cons q t' => exact .cons r ih
theorem Vals.reverse {xs : List V} {us : List Value} (h : Vals xs us) : Vals xs.reverse us.reverse := by
  induction h with
  | nil => exact .nil
  | cons r t ih => rw [List.reverse_cons, List.reverse_cons]; exact Vals.append ih (.cons r .nil)
theorem Vals.rep {xs : List V} {us : List Value} (h : Vals xs us) : ∀ k : Nat, Vals (List.replicate k xs).flatten (List.replicate k us).flatten
  | 0 => .nil
  | k + 1 => by
    rw [List.replicate_succ, List.replicate_succ, List.flatten_cons, List.flatten_cons]
    exact Vals.append h (Vals.rep h k)
theorem foldl_rep (its : List Value) : ∀ (k : Nat) (acc : List Value),
    List.foldl (fun x1 x2 => x1 ++ x2) acc.toArray (List.replicate k its.toArray) = (acc ++ (List.replicate k its).flatten).toArray
  | 0, acc => by simp
  | k + 1, acc => by
    have e : acc.toArray ++ its.toArray = (acc ++ its).toArray := by simp
    have e2 : (acc ++ its) ++ (List.replicate k its).flatten = acc ++ (List.replicate (k + 1) its).flatten := by
      rw [List.replicate_succ, List.flatten_cons, List.append_assoc]
    rw [← e2, ← foldl_rep its k (acc ++ its), ← e, List.replicate_succ, List.foldl_cons]
section
variable {X : Cx} {pins : List (Addr × Obj)} {σ : St} {H : Hp} {s : Shared} {l b : Addr} {xs ys zs : List V}
/-! ### the two steps: a tracked list is rewritten, a new list is laid -/
theorem Inv.lset {its its' : List Value} {n : Nat} {f : Array Value → Array Value} {t' : Nat} (I : Inv X pins σ H s) (hH : H l = some (.lst xs))
    (e : s.heap.get? l = some { cls := .type "list", data := .seq its.toArray n }) (hf : f its.toArray = its'.toArray) (hv : Vals ys its') (hz : ys.length ≤ sizeLine) :
    Inv X pins σ (upd H l (.lst ys)) { s with heap := s.heap.update l (Obj.mapSeq f), toks := t' } := by
  have q := PySem.IsL.update e f
  rw [hf] at q
  refine I.write (x := l) (e := l) (by rw [hH]; exact trivial) (.inl rfl) (fun b' u hb hu => (Heap.get?_update_other s.heap (Obj.mapSeq f) (Ne.symm hb)).trans hu) ⟨_, q⟩ ?_
  exact ⟨hz, its', _, hv, q⟩
theorem Inv.lnew {its : List Value} {t' : Nat} (I : Inv X pins σ H s) (hv : Vals ys its) (hz : ys.length ≤ sizeLine) :
    Inv X pins σ (upd H s.heap.objs.size (.lst ys)) { s with heap := s.heap.push { cls := .type "list", data := .seq its.toArray }, toks := t' } :=
  I.laid (fun _ _ q => Heap.get?_push_of_some _ q) (Nat.le_refl _) ⟨hz, its, 0, hv, Heap.get?_push_size _ rfl⟩
theorem Inv.fresh (I : Inv X pins σ H s) : H s.heap.objs.size = none := I.hok.fresh (Nat.le_refl _)
theorem Inv.lstM (I : Inv X pins σ H s) (hH : H l = some (.lst xs)) : xs.length ≤ sizeLine ∧ ∃ (its : List Value) (n : Nat), Vals xs its ∧ xs.length = its.length ∧ s.heap.get? l = some { cls := .type "list", data := .seq its.toArray n } := by
  obtain ⟨z, its, n, r, e⟩ := I.hok l _ hH
  exact ⟨z, its, n, r, r.length, e⟩
theorem notLongL {n : Nat} (h : n ≤ sizeLine) : Builtin.List.listTooLong n = false := by
  unfold Builtin.List.listTooLong
  exact decide_eq_false (by omega)
end
section
variable {X : Cx}
/-! ### methods -/
def rAppend : V → List V → Hp → VK → Prop := fun x vs H Q => ∃ l xs y, x = .ref l ∧ vs = [y] ∧ H l = some (.lst xs) ∧ xs.length < sizeLine ∧ Q .non (upd H l (.lst (xs ++ [y])))
theorem mt_append : MtM X "list.append" rAppend := by
  intro pins s σ H x vs v us Q I rx rv h
  obtain ⟨l, xs, y, rfl, rfl, hH, hz, q⟩ := h
  cases rx
  obtain ⟨u, rfl, ru⟩ := rv.one
  obtain ⟨z, its, n, r, hl, e⟩ := I.lstM hH
  refine call_meets F.slot_list_append ⟨_, e, rfl⟩ F.entry_list_append (F.args_list_append_2 _ _) (PySem.list_append l its.toArray n u (by rw [List.size_toArray]; omega)) ⟨e, ?_⟩
  refine ⟨.non, _, I.lset (its' := its ++ [u]) hH e (by simp) (r.append (.cons ru .nil)) ?_, rfl, q⟩
  rw [List.length_append, List.length_singleton]
  omega
/-- a list times an int (a negative one is nothing) -/
def rRep : R2 := fun x y H Q => ∃ l k xs, x = .ref l ∧ y = .int k ∧ H l = some (.lst xs) ∧ -(2 ^ 63) ≤ k ∧ k < 2 ^ 63 ∧ xs.length * k.toNat ≤ sizeLine ∧
  ∀ p, H p = none → Q (.ref p) (upd H p (.lst (List.replicate k.toNat xs).flatten))
theorem len_rep {α : Type} (xs : List α) (k : Nat) : (List.replicate k xs).flatten.length = k * xs.length := by
  induction k with
  | zero => simp
  | succ k ih => rw [List.replicate_succ, List.flatten_cons, List.length_append, ih, Nat.succ_mul, Nat.add_comm]
theorem op_rep : OpR X (binaryOp .Mult) rRep := by
  intro pins s σ H x y v u Q I rx ry h
  obtain ⟨l, k, xs, rfl, rfl, hH, h1, h2, hz, q⟩ := h
  cases rx
  obtain ⟨t, rfl⟩ := ry
  obtain ⟨z, its, n, r, hl, e⟩ := I.lstM hH
  have hlen : its.toArray.size * k.toNat ≤ sizeLine := by rw [List.size_toArray, ← hl]; exact hz
  have hcap : ¬ its.toArray.size * k.toNat > (2 ^ 63 - 1) / 8 := by
    have : (sizeLine : Nat) ≤ (2 ^ 63 - 1) / 8 := by decide
    omega
  have hfit : ¬ (!Builtin.List.listFitsIndex k) = true := by
    rw [fitsIndex_both h1 h2]
    exact Bool.false_ne_true
  have hlong : ¬ Builtin.List.listTooLong (its.toArray.size * k.toNat) = true := by
    rw [notLongL hlen]
    exact Bool.false_ne_true
  have hnew : List.foldl (fun x1 x2 => x1 ++ x2) #[] (List.replicate (if its.toArray.isEmpty = true then 0 else k.toNat) its.toArray) = (List.replicate k.toNat its).flatten.toArray := by
    have f0 : ∀ m : Nat, List.foldl (fun x1 x2 => x1 ++ x2) #[] (List.replicate m its.toArray) = (List.replicate m its).flatten.toArray := fun m => by
      have := foldl_rep its m []
      rw [List.nil_append] at this
      exact this
    rw [f0]
    cases its with
    | nil => simp
    | cons a r' => rw [if_neg (by simp)]
  refine wpAny_binaryOp_repeat_ref (T := "list") (U := "int") (by decide) ⟨_, e, rfl⟩ (fun s' => typeIs_int s' k t) noFill_list_mul F.fills_int_mul F.slot_int_rmul repeat_list F.slot_int_index.lookup
    (call_meets F.slot_int_rmul (typeIs_int s k t) F.entry_int_rmul (F.args_int_rmul_2 _ _) (int___rmul___int_list k t l its.toArray n)
      ⟨e, rfl, ⟨_, e, rfl⟩, call_meets F.slot_list_mul ⟨_, e, rfl⟩ F.entry_list_mul (F.args_list_mul_2 _ _) (AutoListH.list___mul___list_int_3 l its.toArray n k t hfit hcap hlong) ⟨e, ?_⟩⟩)
  rw [hnew]
  exact ⟨.ref _, _, I.lnew (t' := s.toks) (r.rep k.toNat) (by rw [len_rep, Nat.mul_comm]; exact hz), rfl, q _ I.fresh⟩
end
/-! ### xs[a:b] = ys -/
section
variable {prog : Program} {w : World} {A : Around} {E : Value → Shared → Prop} {s : Shared}
end
section
variable {X : Cx}
end
end L2
namespace Att
open PySem PySem.W PySem.Calls PyProof.Rows
/-! ### the script -/
theorem ints_of_wellAll {P : Params} {h : Heap} : ∀ (ns : List Int) (vs : List Value), WellAll P h vs (ns.map WData.int) → IntsAre vs ns := by
  intro ns
  induction ns with
  | nil =>
    intro vs w
    rw [List.map_nil] at w
    cases w
    exact .nil
  | cons n ns ih =>
    intro vs w
    rw [List.map_cons] at w
    cases w with
    | cons a b =>
      cases a
      exact .cons _ _ (ih _ b)
theorem script_of {l : OpenLaw} {n : Nat} (hn : l.most = some n) {P : Params} {h : Heap} {args : List WData} {vals : List Value}
    (hpre : l.row.toRowW.claim.pre args = true) (hwl : WellAll P h vals args) :
    ∃ a vs ns, vals = [Value.ref a] ∧ args = [WData.list (ns.map WData.int)] ∧ h.get? a = some { cls := .type "list", data := .seq vs.toArray } ∧ IntsAre vs ns ∧ ns.length ≤ n := by
  have hsh : WShape.hasAll [] args [.list .int] = true := (pre_splitW hpre).1
  have hc : l.pre.holds [] { args := args } = true := (pre_splitW hpre).2
  obtain ⟨d, r, rfl, h1, h2⟩ := hasAllW_cons hsh
  obtain rfl := hasAllW_nil h2
  obtain ⟨xs, rfl, h3⟩ := hasW_list h1
  obtain ⟨ns, rfl⟩ := items_int h3
  have hlen : ns.length ≤ n := by
    unfold OpenLaw.pre at hc
    have h4 : (WTm.not (.lt (.lit (.int (n : Int))) (.len (.arg 0)))).holds [] { args := [.list (ns.map .int)] } = true := by
      have h4 := (holds_andW hc).1
      rw [hn] at h4
      exact h4
    have h5 := condW_of h4 (w_not (w_lt w_lit (w_len_list (w_arg rfl))))
    rw [List.length_map] at h5
    refine Nat.le_of_not_lt fun q => ?_
    have q' : (n : Int) < ((ns.length : Nat) : Int) := by omega
    first
      | (rw [decide_eq_true q'] at h5; exact absurd h5 (by decide))
      | (simp at h5; omega)
  cases hwl with
  | cons w1 w2 =>
    cases w2
    cases w1 with
    | list ho hall => exact ⟨_, _, ns, rfl, rfl, ho, ints_of_wellAll ns _ hall, hlen⟩
theorem post_true (l : OpenLaw) (args : List WData) : l.row.toRowW.claim.post args (.bool true) args = true :=
  postW_of (r := l.row.toRowW) (X := (true == true))
    (show WShape.has [] (.bool true) .bool = true by first | rfl | decide | simp [WShape.has, WShape.arms, WShape.armsAll])
    (show (WTm.eq .res (.lit (.bool true))).value [] { args := args, res := some (.bool true), after := args } = some (.bool (true == true)) from w_eq_bool (w_res rfl) w_lit) rfl
/-- the same from a codeAny of the CALL (for a layer whose function contracts speak of calls) -/
theorem attach_call {l : OpenLaw} {n : Nat} {q : Program} {loose : List Str} {XP : (Str → Option Value) → Heap → Prop} {YP : World → Heap → Prop} {d : DefRec}
    (hn : l.most = some n) (hdf : d.params.defaults = [])
    (call : ∀ (w : World) (s₀ s₁ : Shared) (mg mb : Str → Option Value) (fa : Addr) (o : Obj) (pm cd doc : Value) (a : Addr) (vs : List Value) (ns : List Int),
      Ground q loose [] XP w s₀ mg mb s₁.heap → YP w s₁.heap →
      s₁.heap.get? fa = some o → o.data = .func (docDef d.name d.params d.body d.scope pm cd doc) → s₁.heap.CodeRec cd d.name → mg d.name = some (.ref fa) →
      s₁.heap.get? a = some { cls := .type "list", data := .seq vs.toArray } → IntsAre vs ns → ns.length ≤ n → s₁.gens = #[] →
      codeAny (model l.prog w) callerA (.call (.ref fa) ⟨[.ref a], []⟩) (fun r s' => r = .ok (.ret (.bool true)) ∧ OldK s₁.heap s'.heap ∧ s'.os = s₁.os ∧ AllBare s'.gens) s₁) :
    WalkO q loose XP YP l.row.toRowW d [] (fun f vs => PySem.call f vs) := by
  intro w s₀ s₁ mg mb G Y fa o pm cd doc dV kV ho hd hcd hD hmg hg args vals as hpre hlay hrd hwl hlo
  obtain rfl : dV = .none := Dflts.none hD hdf
  obtain rfl : kV = .none := Dflts.noKw hD
  obtain ⟨a, vs, ns, rfl, rfl, hobj, hints, hlen⟩ := script_of hn hpre hwl
  refine enter_call (codeAny_mono (call w s₀ s₁ mg mb fa o pm cd doc a vs ns G Y ho (fd_plain hd) hcd hmg hobj hints hlen hg) fun r s' hq => ?_)
  obtain ⟨rfl, h2, h3, h4⟩ := hq
  exact ⟨.inl ⟨.bool true, .bool true, [], rfl, fun _ => rfl, .bool true, post_true l _, fun _ => ⟨List.Pairwise.nil, fun _ hm => (nomatch hm)⟩⟩, h2, h3, h4⟩
/-! ### rules over ANY heap (no ledger) from facts about the written part K: the library's own take a ledger (News) for what they write -/
section
variable {prog : Program} {w : World} {A : Around} {E : Value → Shared → Prop} {s : Shared} {K : Frag}
def ledger (h : Heap) (L d : Addr) : List (Addr × Obj) := (List.range h.objs.size).filterMap fun a => if a = L ∨ a = d then none else (h.get? a).map fun o => (a, o)
end
end Att
namespace L2
open PySem PySem.Spec PyProof.Rows
theorem vals_ints : ∀ {vs : List Value} {ns : List Int}, IntsAre vs ns → Vals (ns.map V.int) vs
  | _, _, .nil => .nil
  | _, _, .cons n t h => .cons ⟨t, rfl⟩ (vals_ints h)
/-- nothing is tracked but the script, known to the object (or it is an object of the module) -/
def Only (H : Hp) : Prop := ∀ b, H b = none ∨ (∃ o xs, H b = some (.frz o (.lst xs))) ∨ H b = some (.tbl 0)
theorem trip0 : TriplesOk [] := by first | trivial | constructor | simp [TriplesOk]
theorem among0 (pos : Pos) : codeAmong pos [] = none := by first | rfl | simp [codeAmong]
theorem old_of {h₀ h : Heap} (k : ∀ b o, h₀.get? b = some o → h.get? b = some o ∨ (isCodeTable h₀ b ∧ o = PySem.W.tabObj #[] ∧ ∃ ps, h.get? b = some (PySem.W.tabObj ps))) : OldK h₀ h :=
  ⟨fun b o e => by
    rcases k b o e with z | ⟨ht, rfl, ps, hP⟩
    · exact .inl z
    · exact .inr (.inl ⟨ht, rfl, #[], ps, rfl, by rw [Array.empty_append]; exact hP⟩), fun b o e => by
    rcases k b o e with z | ⟨_, _, ps, hP⟩
    · exact ⟨o, z⟩
    · exact ⟨_, hP⟩⟩
open Classical in
/-- the script as it is tracked, and the tables -/
noncomputable def withT (ts : List Addr) (H : Hp) : Hp := fun b => if b ∈ ts then some (.tbl 0) else H b
theorem withT_in {ts : List Addr} {H : Hp} {b : Addr} (h : b ∈ ts) : withT ts H b = some (.tbl 0) := if_pos h
theorem withT_out {ts : List Addr} {H : Hp} {b : Addr} (h : b ∉ ts) : withT ts H b = H b := if_neg h
/-- THE HEAD: the law's promise, at the heap behind the top. F, the promise of the law's def, may use that base is part of the heap (so K.In base, base.Ns mainGlobals mg stand in Mod) -/
theorem law_call {P : Program} {w : World} {K : PySem.W.Frag} {mg mb : Str → Option Value} {CX : CXT} {k : Nat} {fa a : Addr} {fd : FuncData} {x : Str} {sp : Sp} {s₁ : Shared} {vs : List Value} {ns : List Int}
    (KX : K.In s₁.heap) (hns : s₁.heap.Ns mainGlobals mg) (hb : s₁.heap.Ns builtinsNs mb) (hbb : ∀ x : Str, x ≠ "__name__" → mb x = bootBuiltins x) (hlim : s₁.heap.NoLimit) (hbm : ∃ bm ob, mg "__builtins__" = some (.ref bm) ∧ bm ≠ builtinsNs ∧ s₁.heap.get? bm = some ob ∧ ob.cls = .type "module" ∧ ob.dict = some builtinsNs ∧ ob.data = .plain) (hg : s₁.gens = #[])
    (ha : s₁.heap.get? a = some { cls := .type "list", data := .seq vs.toArray }) (hi : IntsAre vs ns) (hl : ns.length ≤ sizeLine) (hr : Room k callerA)
    {ts : List Addr} (hts : ∀ P ∈ ts, s₁.heap.get? P = some (PySem.W.tabObj #[]) ∧ isCodeTable s₁.heap P ∧ K.lookup P = none)
    (F : ∀ base : Bs, K.In base → base.Ns mainGlobals mg → base.tabs = ts → FnOk P w K mg base CX k fa fd [x] sp) (hbind : ∀ (s : Shared) (u : Value), BindsTo s fd ⟨[u], []⟩ [(x, u)])
    (hsp : ∀ H : Hp, Only H → SqL K H a (ns.map V.int) → sp [.ref a] H (fun v _ => v = .bl true) fun _ _ _ => False)
    (hCX : ∀ H e s', CX [] H s₁ (fun _ _ _ => False) e s' → False) :
    codeAny (model P w) callerA (.call (.ref fa) ⟨[.ref a], []⟩) (fun r s' => r = .ok (.ret (.bool true)) ∧ OldK s₁.heap s'.heap ∧ s'.os = s₁.os ∧ AllBare s'.gens) s₁ := by
  have rv := vals_ints hi
  have lenV := hi.length
  -- from an abstract heap in which nothing but the script may be tracked
  have core : ∀ H : Hp, Only H → SqL K H a (ns.map V.int) → HOk P w H s₁.heap → (∀ b, H b ≠ none → b = a ∨ b ∈ ts) → (H a ≠ none → K.lookup a = none) → (∀ P ∈ ts, H P = some (.tbl 0)) →
      codeAny (model P w) callerA (.call (.ref fa) ⟨[.ref a], []⟩) (fun r s' => r = .ok (.ret (.bool true)) ∧ OldK s₁.heap s'.heap ∧ s'.os = s₁.os ∧ AllBare s'.gens) s₁ := by
    intro H hO hS hok hA hK hTb
    have base_of : ∀ {b : Addr} {o : Obj}, s₁.heap.get? b = some o → H b = none → (hidT s₁.heap H).get? b = some o := fun e n => hidT_get e n
    have noA : ∀ {b : Addr} {o : Obj} {es : Array DictEntry} {ep : Nat}, s₁.heap.get? b = some o → o.data = .dict es ep → H b = none := fun {b o es ep} e d => by
      cases q : H b with
      | none => rfl
      | some u =>
        rcases hA b (by rw [q]; simp) with e' | e'
        case inr => rw [(hts b e').1] at e; cases e; cases d
        subst e'
        rw [ha] at e; cases e
        have d' : Data.seq vs.toArray _ = Data.dict es ep := d
        cases d'
    have nsK : ∀ {b : Addr} {m : Str → Option Value}, s₁.heap.Ns b m → (hidT s₁.heap H).Ns b m := fun {b m} ⟨o, es, ep, e, d, r⟩ => ⟨o, es, ep, base_of e (noA e d), d, r⟩
    have hKb : K.In (hidT s₁.heap H) := fun b o e => base_of (KX b o e) (by
      cases q : H b with
      | none => rfl
      | some u =>
        rcases hA b (by rw [q]; simp) with e' | e'
        case inr => rw [(hts b e').2.2] at e; cases e
        subst e'
        rw [hK (by rw [q]; simp)] at e; cases e)
    have hM : Mod K mg (⟨hidT s₁.heap H, ts⟩ : Bs) := ⟨hKb, nsK hns, ⟨mb, nsK hb, hbb⟩, let ⟨mc, h1, h2⟩ := hlim; ⟨mc, nsK h1, h2⟩, let ⟨bm, ob, a1, a2, a3, a4, a5, a6⟩ := hbm; ⟨bm, ob, a1, a2, base_of a3 (by
      cases q : H bm with
      | none => rfl
      | some u =>
        rcases hA bm (by rw [q]; simp) with e' | e'
        · rw [e', ha] at a3; cases a3; exact absurd a6 (by simp)
        · rw [(hts bm e').1] at a3; cases a3; exact absurd a6 (by simp)), a4, a5, a6⟩⟩
    have e0 : Env0 P w K mg (⟨hidT s₁.heap H, ts⟩ : Bs) callerA [] s₁ H := ⟨rfl, hM, fun b o e => of_hidT e, Nat.le_of_eq (hidT_size _ _), trivial, fun b hb => absurd (show b ∈ ([] : List Addr) from hb) (by simp), hok, .of_eq hg, hTb⟩
    refine codeAny_mono ((F ⟨hidT s₁.heap H, ts⟩ hKb (nsK hns) rfl).run callerA [] s₁ H ⟨[.ref a], []⟩ [.ref a] [.ref a] _ _ hr e0 (hbind s₁ (.ref a)) (.cons rfl .nil) (hsp H hO hS)) fun r s' h => ?_
    cases r with
    | error e => exact (hCX H e s' h).elim
    | ok fl =>
      cases fl with
      | next => exact False.elim h
      | brk => exact False.elim h
      | cont => exact False.elim h
      | ret u =>
        obtain ⟨v, H', os, bare, un, hok', r', q⟩ := h
        have q' : v = .bl true := q
        subst q'
        obtain rfl : u = Value.bool true := r'
        refine ⟨rfl, old_of fun b o e => ?_, os, bare⟩
        cases q : H b with
        | none => exact .inl (un.keep b o e q (by intro z; exact absurd (show b ∈ ([] : List Addr) from z) (by simp)) (by simp))
        | some u =>
          rcases hO b with z | ⟨ob, xs, z⟩ | z
          case inr.inr =>
            rcases hA b (by rw [q]; simp) with e' | e'
            case inl =>
              subst e'
              obtain ⟨ps, e1, _⟩ := hok _ _ z
              rw [ha] at e1; cases e1
            obtain ⟨ps, e2, _⟩ := hok' b _ (un.tbls b 0 z)
            rw [(hts b e').1] at e; cases e
            exact .inr ⟨(hts b e').2.1, rfl, ps, e2⟩
          · rw [q] at z; cases z
          · have z2 := un.frzs b ob _ z
            obtain ⟨e1, _⟩ := hok b _ z
            obtain ⟨e2, _⟩ := hok' b _ z2
            rw [e] at e1; cases e1
            exact .inl e2
  have haT : a ∉ ts := fun z => by have := (hts a z).1; rw [ha] at this; cases this
  have okT : ∀ b ∈ ts, ∀ H : Hp, ObjOk P w H s₁.heap b (.tbl 0) := fun b hb H => ⟨#[], (hts b hb).1, trip0, fun pos cv z => by rw [show (#[] : Array Value).toList = [] from rfl, among0] at z; cases z⟩
  cases hk : K.lookup a with
  | some o =>
    have e := KX a o hk
    rw [ha] at e
    cases e
    refine core (withT ts fun _ => none) (fun b => ?_) (.inr ⟨_, vs.toArray, _, hk, rfl, rfl, rfl, by rw [List.size_toArray, lenV]; exact hl, by simpa using rv⟩) (fun b u z => ?_) (fun b z => ?_) (fun z => ?_) fun P hP => withT_in hP
    · by_cases hb : b ∈ ts
      · exact .inr (.inr (withT_in hb))
      · exact .inl (withT_out hb)
    · by_cases hb : b ∈ ts
      · rw [withT_in hb] at z; cases z; exact okT b hb _
      · rw [withT_out hb] at z; cases z
    · by_cases hb : b ∈ ts
      · exact .inr hb
      · exact absurd (withT_out hb) z
    · exact absurd (withT_out haT) z
  | none =>
    refine core (withT ts fun b => if b = a then some (.frz { cls := .type "list", data := .seq vs.toArray } (.lst (ns.map V.int))) else none) (fun b => ?_) (.inl (.inr ⟨{ cls := .type "list", data := .seq vs.toArray }, by rw [withT_out haT]; exact if_pos rfl⟩)) (fun b u z => ?_) (fun b z => ?_) (fun _ => hk) fun P hP => withT_in hP
    · by_cases hb : b ∈ ts
      · exact .inr (.inr (withT_in hb))
      · rw [withT_out hb]
        by_cases hb : b = a
        · exact .inr (.inl ⟨_, _, if_pos hb⟩)
        · exact .inl (if_neg hb)
    · by_cases hT : b ∈ ts
      · rw [withT_in hT] at z; cases z; exact okT b hT _
      · rw [withT_out hT] at z
        by_cases hb : b = a
        · have z' := (if_pos hb).symm.trans z
          cases z'
          subst hb
          exact ⟨ha, by rw [List.length_map]; exact hl, vs, _, rv, ha⟩
        · have z' := (if_neg hb).symm.trans z
          cases z'
    · by_cases hT : b ∈ ts
      · exact .inr hT
      · rw [withT_out hT] at z
        by_cases hb : b = a
        · exact .inl hb
        · exact absurd (if_neg hb) z
end L2
namespace L2
open PySem PySem.Spec PyProof.Rows
/-- the goal that k_head leaves (case hc), from the law's promise. F gives the function object fd (K's own) once, then the promise over every base -/
theorem walk_of {l : PySem.W.OpenLaw} {n k : Nat} {q : Program} {loose : List Str} {XP : (Str → Option Value) → Heap → Prop} {YP : World → Heap → Prop} {d : DefRec} {K : Params → PySem.W.Frag} {CX : World → CXT} {sp : World → Sp} {x : Str}
    (hn : l.most = some n) (hn2 : n ≤ sizeLine) (hdf : d.params.defaults = []) (hr : Room k callerA)
    (hY : ∀ (w : World) (h : Heap), YP w h → (K w.params).In h) {ts : List Addr} (hts : ∀ (w : World) (h : Heap), YP w h → ∀ P ∈ ts, h.get? P = some (PySem.W.tabObj #[]) ∧ isCodeTable h P ∧ (K w.params).lookup P = none)
    (F : ∀ (w : World) (mg : Str → Option Value) (fa : Addr) (h : Heap), (K w.params).In h → h.Ns mainGlobals mg → mg d.name = some (.ref fa) →
      ∃ fd : FuncData, (∀ (s : Shared) (u : Value), BindsTo s fd ⟨[u], []⟩ [(x, u)]) ∧
        ∀ base : Bs, (K w.params).In base → base.Ns mainGlobals mg → base.tabs = ts → FnOk l.prog w (K w.params) mg base (CX w) k fa fd [x] (sp w))
    (hsp : ∀ (w : World) (H : Hp) (a : Addr) (ns : List Int), ns.length ≤ n → Only H → SqL (K w.params) H a (ns.map V.int) → sp w [.ref a] H (fun v _ => v = .bl true) fun _ _ _ => False)
    (hCX : ∀ (w : World) (H : Hp) (s : Shared) (e : Value) (s' : Shared), CX w [] H s (fun _ _ _ => False) e s' → False) :
    PySem.W.WalkO q loose XP YP l.row.toRowW d [] (fun f vs => PySem.call f vs) := by
  refine Att.attach_call hn hdf fun w s₀ s₁ mg mb fa o pm cd doc a vs ns G Y ho hd hcd hmg hobj hints hlen hg => ?_
  have KX := hY w _ Y
  obtain ⟨fd, hb, hF⟩ := F w mg fa _ KX G.T.g hmg
  exact law_call KX G.T.g G.T.b G.T.builtins G.T.nolimit G.T.bmain hg hobj hints (Nat.le_trans hlen hn2) hr (hts w _ Y) hF hb (fun H hO hS => hsp w H a ns hlen hO hS) fun H e s' => hCX w H s₁ e s'
/-- the same where the promise hangs on the written part alone: (sp := My.sp_law), no hole under a binder -/
theorem walk_ofK {l : PySem.W.OpenLaw} {n k : Nat} {q : Program} {loose : List Str} {XP : (Str → Option Value) → Heap → Prop} {YP : World → Heap → Prop} {d : DefRec} {K : Params → PySem.W.Frag} {CX : CXT} {sp : PySem.W.Frag → Sp} {x : Str}
    (hn : l.most = some n) (hn2 : n ≤ sizeLine) (hdf : d.params.defaults = []) (hr : Room k callerA)
    (hY : ∀ (w : World) (h : Heap), YP w h → (K w.params).In h) {ts : List Addr} (hts : ∀ (w : World) (h : Heap), YP w h → ∀ P ∈ ts, h.get? P = some (PySem.W.tabObj #[]) ∧ isCodeTable h P ∧ (K w.params).lookup P = none)
    (F : ∀ (w : World) (mg : Str → Option Value) (fa : Addr) (h : Heap), (K w.params).In h → h.Ns mainGlobals mg → mg d.name = some (.ref fa) →
      ∃ fd : FuncData, (∀ (s : Shared) (u : Value), BindsTo s fd ⟨[u], []⟩ [(x, u)]) ∧
        ∀ base : Bs, (K w.params).In base → base.Ns mainGlobals mg → base.tabs = ts → FnOk l.prog w (K w.params) mg base CX k fa fd [x] (sp (K w.params)))
    (hsp : ∀ (K : PySem.W.Frag) (H : Hp) (a : Addr) (ns : List Int), ns.length ≤ n → Only H → SqL K H a (ns.map V.int) → sp K [.ref a] H (fun v _ => v = .bl true) fun _ _ _ => False)
    (hCX : ∀ (H : Hp) (s : Shared) (e : Value) (s' : Shared), CX [] H s (fun _ _ _ => False) e s' → False) :
    PySem.W.WalkO q loose XP YP l.row.toRowW d [] (fun f vs => PySem.call f vs) :=
  walk_of (K := K) (CX := fun _ => CX) (sp := fun w => sp (K w.params)) hn hn2 hdf hr hY hts F (fun w H a ns h1 h2 h3 => hsp (K w.params) H a ns h1 h2 h3) fun _ H s e s' => hCX H s e s'
end L2
/-! SHORT WORDS over the layer: a def of the text, its body, what a loop and a test want. -/
namespace L2
open PySem PySem.Spec PyProof.Rows
/-! ### the text by places -/
/-- the j-th statement of a class's body -/
def inClass (s : Stmt) (j : Nat) : Stmt := match s with
  | .ClassDef _ _ _ body _ _ _ _ _ _ _ => body.getD j (.Pass ⟨0, 0, 0, 0⟩)
  | _ => .Pass ⟨0, 0, 0, 0⟩
def defArgs (s : Stmt) : Arguments := match s with
  | .FunctionDef _ a _ _ _ _ _ _ _ _ => a
  | _ => { posonlyargs := [], args := [], vararg := none, kwonlyargs := [], kw_defaults := [], kwarg := none, defaults := [] }
def defBody (s : Stmt) : List Stmt := match s with
  | .FunctionDef _ _ b _ _ _ _ _ _ _ => b
  | _ => []
def defScope (s : Stmt) : Scope := match s with
  | .FunctionDef _ _ _ _ _ _ sc _ _ _ => sc
  | _ => { kind := .function, names := [], isGenerator := false, isCoroutine := false }
/-! ### no exception leaves a def -/
abbrev CX0 : CXT := fun _ _ _ _ _ _ => False
abbrev E0 : XK := fun _ _ _ => False
theorem pass0 {X : Cx} : Passes CX0 X E0 := fun _ _ _ _ _ _ _ h => h.elim
/-! ### a def (or method) of the text as it stands behind the top -/
structure Fun (K : PySem.W.Frag) (x qual : Str) (st : Stmt) (f : Addr) (fd : FuncData) : Prop where
  ex : ∃ (oc : Value) (od : Option Addr) (kV doc pm : Value) (an : Option Addr) (cdv ct : Value) (osl : Array (Option Value)),
    fd = PySem.W.fnOf x qual (defArgs st) (defBody st) (defScope st) .none kV doc pm an cdv ct ∧ K.lookup f = some ⟨oc, od, .func fd, osl⟩ ∧ PySem.W.codeIn K cdv qual = true
  kp : PySem.W.keepIn K (.ref f) = true
section
variable {P : Program} {w : World} {K : PySem.W.Frag} {mg : Str → Option Value} {base : Bs}
/-- THE RULE for a def: its body as a term of rules, and the reading of that term -/
theorem Fun.ok {x qual : Str} {st : Stmt} {f : Addr} {fd : FuncData} {N ps : List Str} {k : Nat} {sp : Sp} (F : Fun K x qual st f fd) (S : FnScope N ps (defScope st)) (len : ∀ vs H Q E, sp vs H Q E → vs.length = ps.length)
    (hbody : ∀ (cdv : Value) (A : Around) (outer : List Env) (s : Shared) (H : Hp) (vs : List V) (Q : VK) (E : XK), Room k (A.deeper (envOfC qual (defScope st) s.heap.objs.size f cdv)) → sp vs H Q E →
      ∃ t, PSs (cxOf CX0 P w K mg base N qual (defScope st) f cdv A outer s H E).nox (defBody st) t ∧ t { nx := fun _ H' => Q .non H', rt := Q } (start N vs) H) : FnOk P w K mg base CX0 (k + 1) f fd ps sp := by
  obtain ⟨oc, od, kV, doc, pm, an, cdv, ct, osl, rfl, lk, hcd⟩ := F.ex
  refine fn_of lk hcd S len fun A outer s H vs Q E hr hsp => ?_
  obtain ⟨t, h, q⟩ := hbody cdv A outer s H vs Q E hr hsp
  exact ⟨t, h.nox, q⟩
/-- how its arguments bind (no defaults): h is «fun _ _ _ _ _ _ us hl => match us, hl with | [_, _], _ => rfl», one _ a parameter -/
theorem Fun.binds {x qual : Str} {st : Stmt} {f : Addr} {fd : FuncData} {ps : List Str} (F : Fun K x qual st f fd)
    (h : ∀ (kV doc pm : Value) (an : Option Addr) (cdv ct : Value) (us : List Value), us.length = ps.length → bindArgs (PySem.W.fnOf x qual (defArgs st) (defBody st) (defScope st) .none kV doc pm an cdv ct) ⟨us, []⟩ = pure (ps.zip us)) : Binds K fd ps [] := by
  obtain ⟨oc, od, kV, doc, pm, an, cdv, ct, osl, rfl, lk, hcd⟩ := F.ex
  exact .all (h kV doc pm an cdv ct)
theorem fun_mk {x qual : Str} {st : Stmt} {f : Addr} {oc : Value} {od an : Option Addr} {osl : Array (Option Value)} {kV doc pm cdv ct : Value} (l : K.lookup f = some ⟨oc, od, .func (PySem.W.fnOf x qual (defArgs st) (defBody st) (defScope st) .none kV doc pm an cdv ct), osl⟩)
    (c : PySem.W.codeIn K cdv qual = true) (k : PySem.W.keepIn K (.ref f) = true) : Fun K x qual st f (PySem.W.fnOf x qual (defArgs st) (defBody st) (defScope st) .none kV doc pm an cdv ct) := ⟨⟨oc, od, kV, doc, pm, an, cdv, ct, osl, rfl, l, c⟩, k⟩
end
theorem small1000 {n : Nat} (h : n ≤ 1000) : n < sizeLine := Nat.lt_of_le_of_lt h (by decide)
/-! ### expressions in short: the name that stands in the i-th slot -/
section
variable {X : Cx}
theorem pv (i : Nat) {x : Str} {pos : Pos} (hN : X.N[i]? = some x := by rfl) (hv : Vis X.env.scope x := by first | exact Or.inl rfl | exact Or.inr (Or.inl rfl) | exact Or.inr (Or.inr rfl)) (hd : (x == ("__debug__" : Str)) = false := by decide)
    (hcd : (x == ("__classdict__" : Str)) = false := by decide) : PE X (.Name x pos) (tVar i) := pe_var hN hv hd hcd
end
/-! ### tests -/
theorem iteF {A B : Prop} (h : B) : if false = true then A else B := by
  rw [if_neg Bool.false_ne_true]
  exact h
theorem iteT {A B : Prop} (h : A) : if true = true then A else B := by
  rw [if_pos rfl]
  exact h
/-! ### heaps -/
/-- all that was tracked is as it was -/
def Same (H H' : Hp) : Prop := ∀ b o, H b = some o → H' b = some o
theorem Same.refl (H : Hp) : Same H H := fun _ _ h => h
theorem Same.trans {H H1 H2 : Hp} (a : Same H H1) (b : Same H1 H2) : Same H H2 := fun c o h => b c o (a c o h)
theorem Same.free {H H' : Hp} (e : Same H H') {l : Addr} (h : H' l = Option.none) : H l = Option.none := by
  cases q : H l with
  | none => rfl
  | some o =>
    rw [e l o q] at h
    cases h
theorem Same.seq {K : PySem.W.Frag} {H H' : Hp} {a : Addr} {xs : List V} (e : Same H H') (h : SqL K H a xs) : SqL K H' a xs := by
  rcases h with (h | ⟨o, h⟩) | h
  · exact .inl (.inl (e _ _ h))
  · exact .inl (.inr ⟨o, e _ _ h⟩)
  · exact .inr h
end L2
end
section
set_option Elab.async false
set_option linter.all false
set_option maxRecDepth 100000
namespace L2
open PySem PySem.Spec PyProof.Rows
/-! ### lists of pairs as tables -/
section
variable {κ : Type} [DecidableEq κ]
def valV (kvs : List (κ × V)) (k : κ) : Option V := (kvs.find? fun kv => decide (kv.1 = k)).map (·.2)
/-- in its place, or at the end -/
def putK (kvs : List (κ × V)) (k : κ) (v : V) : List (κ × V) :=
  if (kvs.any fun kv => decide (kv.1 = k)) = true then kvs.map (fun kv => if kv.1 = k then (kv.1, v) else kv) else kvs ++ [(k, v)]
def dropK (kvs : List (κ × V)) (k : κ) : List (κ × V) := kvs.filter fun kv => decide (kv.1 ≠ k)
theorem valV_pos {p : κ × V} {r : List (κ × V)} {k : κ} (e : p.1 = k) : valV (p :: r) k = some p.2 := by simp [valV, List.find?_cons, e]
theorem valV_neg {p : κ × V} {r : List (κ × V)} {k : κ} (e : ¬ p.1 = k) : valV (p :: r) k = valV r k := by simp [valV, List.find?_cons, e]
theorem RelO.getD {o : Option V} {u : Option Value} {d : V} {d' : Value} (r : RelO o u) (rd : RelV d d') : RelV (o.getD d) (u.getD d') := by
  cases o with
  | none => cases u with
    | none => exact rd
    | some _ => exact (show False from r).elim
  | some _ => cases u with
    | none => exact (show False from r).elim
    | some _ => exact r
/-- raw tables of the same keys -/
theorem KV.val {kvs : List (κ × V)} {vs : List (κ × Value)} (r : KV kvs vs) (k : κ) : RelO (valV kvs k) (valueAt vs k) := by
  unfold KV at r
  induction r with
  | nil => exact True.intro
  | @cons p q ps qs h t ih =>
    obtain ⟨h1, h2⟩ := h
    by_cases e : p.1 = k
    · have e' : q.1 = k := h1.symm.trans e
      have b : valueAt (q :: qs) k = some q.2 := by simp [valueAt, List.find?_cons, e']
      rw [valV_pos e, b]; exact h2
    · have e' : ¬ q.1 = k := fun z => e (h1.trans z)
      have b : valueAt (q :: qs) k = valueAt qs k := by simp [valueAt, List.find?_cons, e']
      rw [valV_neg e, b]; exact ih
theorem KV.any {kvs : List (κ × V)} {vs : List (κ × Value)} (r : KV kvs vs) (k : κ) : (kvs.any fun kv => decide (kv.1 = k)) = vs.any fun kv => decide (kv.1 = k) := by
  unfold KV at r
  induction r with
  | nil => rfl
  | cons h t ih => rw [List.any_cons, List.any_cons, ih, h.1]
theorem KV.drop {kvs : List (κ × V)} {vs : List (κ × Value)} (r : KV kvs vs) (k : κ) : KV (dropK kvs k) (without vs k) := by
  unfold KV at r ⊢
  unfold dropK without
  induction r with
  | nil => exact .nil
  | @cons p q ps qs h t ih =>
    obtain ⟨h1, h2⟩ := h
    rw [List.filter_cons, List.filter_cons]
    by_cases e : p.1 = k
    · have a : ¬ decide (p.1 ≠ k) = true := by simp [e]
      have b : ¬ decide (q.1 ≠ k) = true := by simp [h1.symm.trans e]
      rw [if_neg a, if_neg b]; exact ih
    · have e' : ¬ q.1 = k := fun z => e (h1.trans z)
      have a : decide (p.1 ≠ k) = true := by simp [e]
      have b : decide (q.1 ≠ k) = true := by simp [e']
      rw [if_pos a, if_pos b]; exact .cons ⟨h1, h2⟩ ih
theorem KV.keys {kvs : List (κ × V)} {vs : List (κ × Value)} (r : KV kvs vs) : kvs.map (·.1) = vs.map (·.1) := by
  unfold KV at r
  induction r with
  | nil => rfl
  | cons h t ih => rw [List.map_cons, List.map_cons, ih, h.1]
theorem KV.length {kvs : List (κ × V)} {vs : List (κ × Value)} (r : KV kvs vs) : kvs.length = vs.length := Paired.length r
end
/-- raw entries of a dict with tuple keys -/
abbrev KT (H : Hp) : List (List Key × V) → List (List Key × Addr × Value) → Prop := Paired fun p q => p.1 = q.1 ∧ H q.2.1 = some (.tup (p.1.map kV)) ∧ RelV p.2 q.2.2
theorem KT.val {H : Hp} {kvs : List (List Key × V)} {xs : List (List Key × Addr × Value)} (r : KT H kvs xs) (k : List Key) : RelO (valV kvs k) ((atKey xs k).map (·.2)) := by
  induction r with
  | nil => exact True.intro
  | @cons p q ps qs h t ih =>
    obtain ⟨h1, _, h2⟩ := h
    by_cases e : p.1 = k
    · have e' : q.1 = k := h1.symm.trans e
      have b : atKey (q :: qs) k = some q.2 := by simp [atKey, List.find?_cons, e']
      rw [valV_pos e, b]; exact h2
    · have e' : ¬ q.1 = k := fun z => e (h1.trans z)
      have b : atKey (q :: qs) k = atKey qs k := by simp [atKey, List.find?_cons, e']
      rw [valV_neg e, b]; exact ih
theorem KT.keeps {H H' : Hp} {kvs : List (List Key × V)} {xs : List (List Key × Addr × Value)} (r : KT H kvs xs) (ht : ∀ b ys, H b = some (.tup ys) → H' b = some (.tup ys)) : KT H' kvs xs :=
  Paired.mapP r fun _ _ z => ⟨z.1, ht _ _ z.2.1, z.2.2⟩
section
variable {P : Program} {w : World} {H : Hp} {h : Heap} {a : Addr}
end
/-- what the dict at a holds at the key y -/
def DGet (H : Hp) (a : Addr) (y : V) (r : Option V) : Prop :=
  (∃ kvs k, Rd H a (.dK kvs) ∧ y = kV k ∧ r = valV kvs k) ∨ ∃ kvs k b, Rd H a (.dT kvs) ∧ y = .ref b ∧ H b = some (.tup (k.map kV)) ∧ r = valV kvs k
/-- the heap behind a[y] = v -/
def DPut (H : Hp) (a : Addr) (y v : V) (H' : Hp) : Prop :=
  (∃ kvs k, H a = some (.dK kvs) ∧ y = kV k ∧ kvs.length < sizeLine ∧ H' = upd H a (.dK (putK kvs k v))) ∨
  ∃ kvs k b, H a = some (.dT kvs) ∧ y = .ref b ∧ H b = some (.tup (k.map kV)) ∧ kvs.length < sizeLine ∧ H' = upd H a (.dT (putK kvs k v))
theorem DGet.k {H : Hp} {a : Addr} {kvs : List (Key × V)} {k : Key} (e : H a = some (.dK kvs)) : DGet H a (kV k) (valV kvs k) := .inl ⟨kvs, k, .inl e, rfl, rfl⟩
theorem DGet.t {H : Hp} {a b : Addr} {kvs : List (List Key × V)} {k : List Key} (e : H a = some (.dT kvs)) (eb : H b = some (.tup (k.map kV))) : DGet H a (.ref b) (valV kvs k) := .inr ⟨kvs, k, b, .inl e, rfl, eb, rfl⟩
theorem DPut.k {H : Hp} {a : Addr} {kvs : List (Key × V)} {k : Key} {v : V} (e : H a = some (.dK kvs)) (hl : kvs.length < sizeLine) : DPut H a (kV k) v (upd H a (.dK (putK kvs k v))) := .inl ⟨kvs, k, e, rfl, hl, rfl⟩
theorem DPut.t {H : Hp} {a b : Addr} {kvs : List (List Key × V)} {k : List Key} {v : V} (e : H a = some (.dT kvs)) (eb : H b = some (.tup (k.map kV))) (hl : kvs.length < sizeLine) :
    DPut H a (.ref b) v (upd H a (.dT (putK kvs k v))) := .inr ⟨kvs, k, b, e, rfl, eb, hl, rfl⟩
section
variable {X : Cx} {pins : List (Addr × Obj)} {σ : St} {H : Hp} {s : Shared} {a : Addr} {y v : V} {u r : Value} {o : Option V} {A : Around} {E : Value → Shared → Prop}
end
section
variable {X : Cx} {pins : List (Addr × Obj)} {σ : St} {H : Hp} {s : Shared} {a : Addr} {kvs : List (Key × V)} {k : Key} {u : Value} {A : Around} {E : Value → Shared → Prop}
end
section
variable {X : Cx} {o i e value : Expr} {pos pos' tpos : Pos} {td ty tv : TE}
end
section
variable {X : Cx} {pos : Pos}
end
/-! ### methods -/
/-- a method call o.m(e) of a built-in, with one argument: what must be seen of the text -/
structure M1 (X : Cx) (o : Expr) (m : Str) (apos : Pos) (e : Expr) (cpos : Pos) : Prop where
  base : attributeBase o m X.env (eval o X.env) = eval o X.env
  few : ((backTo cpos (starEach [e] X.env)).all (fun x => !x.1) && (backToKw cpos (keywordEach [] X.env)).all (fun x => x.1.isSome)
    && decide (([e] : List Expr).length + ([] : List Keyword).length + (if ([] : List Keyword).isEmpty then 0 else 1) < 30)) = true
  line : (apos.endLine == cpos.line) = true
  trees : backTo cpos (starEach [e] X.env) = [(false, eval e X.env)]
structure M2 (X : Cx) (o : Expr) (m : Str) (apos : Pos) (e f : Expr) (cpos : Pos) : Prop where
  base : attributeBase o m X.env (eval o X.env) = eval o X.env
  few : ((backTo cpos (starEach [e, f] X.env)).all (fun x => !x.1) && (backToKw cpos (keywordEach [] X.env)).all (fun x => x.1.isSome)
    && decide (([e, f] : List Expr).length + ([] : List Keyword).length + (if ([] : List Keyword).isEmpty then 0 else 1) < 30)) = true
  line : (apos.endLine == cpos.line) = true
  trees : backTo cpos (starEach [e, f] X.env) = [(false, eval e X.env), (false, eval f X.env)]
section
variable {X : Cx} {pins : List (Addr × Obj)} {σ : St} {H : Hp} {s : Shared} {a : Addr} {y d : V} {u r : Value} {o : Option V} {A : Around} {E : Value → Shared → Prop}
end
section
variable {X : Cx} {o e f : Expr} {apos cpos : Pos} {td ty tx : TE}
end
/-! ### dict(d): a copy -/
section
variable {X : Cx} {pins : List (Addr × Obj)} {σ : St} {H : Hp} {s : Shared} {a : Addr} {kvs : List (Key × V)} {A : Around} {E : Value → Shared → Prop}
end
section
variable {X : Cx} {pins : List (Addr × Obj)} {σ : St} {H : Hp} {s : Shared} {a : Addr} {y : V} {u : Value} {A : Around} {E : Value → Shared → Prop}
end
end L2
namespace L2
open PySem PySem.Spec PyProof.Rows
section
variable {X : Cx}
end
/-! ### a dict's pairs: keys that differ -/
section
variable {κ : Type} [DecidableEq κ]
end
end L2
end
section
set_option Elab.async false
set_option linter.all false
set_option maxRecDepth 100000
set_option maxHeartbeats 4000000
/-! MORE RULES over the hand layer: a method by the class that stands there, isinstance, a class without __init__, a comprehension. -/
namespace L2
open PySem PySem.Spec PyProof.Rows
/-! ### a method, whatever the class -/
/-- every instance of the class at C answers m by a def that keeps sp -/
structure MethAt (P : Program) (w : World) (K : PySem.W.Frag) (mg : Str → Option Value) (base : Bs) (CX : CXT) (k : Nat) (C : Addr) (m : Str) (sp : Sp) : Prop where
  cl : Cls K C
  ex : ∃ (f : Addr) (fd : FuncData) (ps : List Str), Meth K C m f ∧ FnOk P w K mg base CX k f fd ps sp ∧ Binds K fd ps []
theorem MethAt.mono {P : Program} {w : World} {K : PySem.W.Frag} {mg : Str → Option Value} {base : Bs} {CX : CXT} {j k : Nat} {C : Addr} {m : Str} {sp : Sp} (h : MethAt P w K mg base CX j C m sp) (hk : j ≤ k) : MethAt P w K mg base CX k C m sp :=
  ⟨h.cl, let ⟨f, fd, ps, a, b, c⟩ := h.ex; ⟨f, fd, ps, a, b.mono hk, c⟩⟩
section
variable {X : Cx} {CX : CXT} {k : Nat} {E : XK} {m : Str} {pos apos : Pos} {e o : Expr} {es : List Expr} {ta : TE} {t : TA}
def tMethD {ι : Type} (R : ι → Addr) (m : Str) (sp : ι → Sp) (E : XK) (ta : TE) (t : TA) : TE := fun σ H Q => ta σ H fun x H1 => ∃ i a dx fs, x = .ref a ∧ H1 a = some (.ins (R i) dx fs) ∧ fs.lookup m = none ∧
  t σ H1 fun vs H2 => sp i (x :: vs) H2 Q E
theorem pe_methD {ι : Type} {R : ι → Addr} {sp : ι → Sp} {pl : Sem Bool} (he : PE X o ta) (hR : ∀ i, MethAt X.prog X.w X.K X.mg X.base CX k (R i) m (sp i)) (hr : Room k X.A) (hx : Passes CX X E) (ha : PA X (e :: es) t)
    (hst : starEach (e :: es) X.env = (false, eval e X.env) :: starEach es X.env := by rfl) (hpl : (backTo pos (starEach es X.env)).any (·.1) = false := by rfl)
    (ht : eval (.Call (.Attribute o m apos) (e :: es) [] pos) X.env = (do
      let ov ← eval o X.env
      standAt apos.atName
      let (f, first) ← holding [ov] (getMethod ov m pl)
      callWith pos f first (backTo pos (starEach (e :: es) X.env)) (backToKw pos (keywordEach [] X.env))) := by rfl) :
    PE X (.Call (.Attribute o m apos) (e :: es) [] pos) (tMethD R m sp E ta t) := by
  intro pins s σ H Q I h
  refine PySem.W.methodCall_KW (pl := pl) (thn (he pins s σ H _ I h) fun u s1 ⟨x, H1, I1, rx, i, a, dx, fs, ex, ea, l, q⟩ => ?_) ht
  subst ex
  obtain rfl : u = Value.ref a := rx
  obtain ⟨c, f, fd, ps, hm, F, hb⟩ := hR i
  refine getmeth_ok I1 ea c hm l ?_
  refine PySem.W.callWith_K (first := [.ref a]) (h₀ := X.base) I.ok.mod.kin hm.kp (thn (ha pos pins s1 σ H1 _ I1 q) fun us s2 ⟨vs, H2, I2, r, q2⟩ => ⟨I2.kIn, ?_⟩) hst hpl
  exact run_fn (us := .ref a :: us) (vs := .ref a :: vs) (dvs := []) (ds := []) F hr hb .nil hx I2 (.cons rfl r) (by rw [List.append_nil]; exact q2)
end
/-! ### isinstance -/
section
variable {X : Cx}
/-- a built-in class's name -/
theorem pe_type {x : Str} {n : String} {pos : Pos} (hg : Gl X x) (hm : X.mg x = none) (hv : bootBuiltins x = some (.type n)) (hn : x ≠ "__name__" := by decide) (hd : (x == ("__debug__" : Str)) = false := by decide) : PE X (.Name x pos) (tC (.ty n)) :=
  pe_bltn hg hm hv rfl hn hd
end
/-! ### a class that has no __init__ of its own -/
structure Mk0 (K : PySem.W.Frag) (C : Addr) : Prop where
  makes : PySem.W.makesIn K C = true
  init : PySem.W.findIn K (.ref C) "__init__" = some (some (.builtin "object.__init__"))
  kp : PySem.W.keepIn K (.ref C) = true
section
variable {X : Cx} {C : Addr} {x : Str} {p pos : Pos}
def tMake0 (C : Addr) : TE := fun _ H Q => ∀ x dx, H x = none → H dx = none → dx ≠ x → Q (.ref x) (upd (upd H dx (.own x)) x (.ins C dx []))
theorem run_make0 {pins : List (Addr × Obj)} {σ : St} {H : Hp} {s : Shared} {Q : VK} (M : Mk0 X.K C) (I : Inv X pins σ H s)
    (h : ∀ x dx, H x = none → H dx = none → dx ≠ x → Q (.ref x) (upd (upd H dx (.own x)) x (.ins C dx []))) :
    wpAny (model X.prog X.w) X.A (call (.ref C) []) (EP X pins σ Q) X.xe s := by
  have hq := h (s.heap.objs.size + 1) s.heap.objs.size (I.hok.fresh (Nat.le_succ _)) (I.hok.fresh (Nat.le_refl _)) (Nat.ne_of_lt (Nat.lt_succ_self _))
  have I2 := Inv.made (C := C) I
  have Y := PySem.W.makes_of (M := model X.prog X.w) I.kIn M.makes
  refine wpAny_call (make_map0 I.kIn M.makes M.init (fun self => PySem.W.Looks.of_pure (PySem.W.oi_bind self)) ?_)
  have e2 : ((s.heap.push PySem.W.emptyDict).push (PySem.W.instObj C s.heap.objs.size)).get? (s.heap.objs.size + 1) = some (PySem.W.instObj C s.heap.objs.size) := by
    have := Heap.get?_push_size (s.heap.push PySem.W.emptyDict) (o := PySem.W.instObj C s.heap.objs.size) rfl
    rwa [Heap.size_push] at this
  have t1 : PySem.W.Looks (model X.prog X.w) ((s.heap.push PySem.W.emptyDict).push (PySem.W.instObj C s.heap.objs.size)) (typeOf (.ref (s.heap.objs.size + 1))) (.ref C) := (PySem.W.Looks.ld e2).andThen .now
  have t2 : PySem.W.Looks (model X.prog X.w) ((s.heap.push PySem.W.emptyDict).push (PySem.W.instObj C s.heap.objs.size)) (isInstance (.ref (s.heap.objs.size + 1)) (.type "object")) true := t1.andThen (Y.top.keeps fun b o e => Heap.get?_push_of_some _ (Heap.get?_push_of_some _ e))
  refine codeAny_call_builtin PySem.W.oi_plain PySem.W.entry_oi (@PySem.W.check_slot (model X.prog X.w) _ _ _ "object.__init__" "object" "__init__" (.ref (s.heap.objs.size + 1)) [] [] _ PySem.W.oi_kind PySem.W.oi_split t2 (PySem.W.oi_args (.ref (s.heap.objs.size + 1))) ?_)
  rw [PySem.W.oi_run]
  exact wpAny_pure (And.intro rfl ⟨V.ref (s.heap.objs.size + 1), _, I2, rfl, hq⟩)
theorem pe_make00 (M : Mk0 X.K C) (hg : Gl X x) (hm : X.mg x = some (.ref C)) (hdb : (x == ("__debug__" : Str)) = false := by decide) : PE X (.Call (.Name x p) [] [] pos) (tMake0 C) := by
  intro pins s σ H Q I h
  refine wpAny_Call_Name_kw (ld_glob I hg hm ?_ hdb)
  exact PySem.W.callWith_K0 I.kIn M.kp (run_make0 M I h)
end
/-! ### a comprehension -/
/-- the cells of the free names, as closureFor lays them -/
def clos (env : Env) : List (Str × NameKind) → List (Str × Addr) → List (Str × Addr)
  | [], cs => cs
  | (n, k) :: r, cs => clos env r (if k == .free then (match env.cells.lookup n with | some a => (n, a) :: cs | none => cs) else cs)
theorem clos_eq (env : Env) : ∀ (ns : List (Str × NameKind)) (cs : List (Str × Addr)), (∀ y ∈ ns, y.2 = .free → ∃ c, env.cells.lookup y.1 = some c) →
    (forIn ns cs fun (x : Str × NameKind) (r : List (Str × Addr)) => (if (x.2 == .free) = true then do let a ← cellOf env x.1; pure (ForInStep.yield ((x.1, a) :: r)) else pure (ForInStep.yield r) : Sem (ForInStep (List (Str × Addr))))) = pure (clos env ns cs)
  | [], cs, _ => rfl
  | (n, k) :: r, cs, h => by
    have ih := clos_eq env r
    rw [List.forIn_cons]
    by_cases hk : k = .free
    · subst hk
      obtain ⟨c, e⟩ := h (n, .free) List.mem_cons_self rfl
      have e' : env.cells.lookup n = some c := e
      simp only [beq_self_eq_true, if_true, cellOf, e', pure_bind, clos]
      exact ih _ fun y hy => h y (List.mem_cons_of_mem _ hy)
    · have hb : (k == NameKind.free) = false := by simpa using hk
      simp only [hb, Bool.false_eq_true, if_false, pure_bind, clos]
      exact ih _ fun y hy => h y (List.mem_cons_of_mem _ hy)
theorem closureFor_eq {scope : Scope} {env : Env} (h : ∀ y ∈ scope.names, y.2 = .free → ∃ c, env.cells.lookup y.1 = some c) : closureFor scope env = pure (clos env scope.names []) := by
  have q := clos_eq env scope.names [] h
  simp only [closureFor]
  first
    | (rw [q]; rfl)
    | (refine Eq.trans (congrArg (fun z => z >>= fun cs => pure cs) q) ?_; rfl)
theorem clos_sub {env : Env} {x : Str} {c : Addr} : ∀ {ns : List (Str × NameKind)} {cs : List (Str × Addr)}, (clos env ns cs).lookup x = some c → cs.lookup x = some c ∨ env.cells.lookup x = some c
  | [], cs, h => .inl h
  | (n, k) :: r, cs, h => by
    have ih := clos_sub (ns := r) h
    rcases ih with ih | ih
    · by_cases hk : (k == NameKind.free) = true
      · rw [if_pos hk] at ih
        cases e : env.cells.lookup n with
        | none => rw [e] at ih; exact .inl ih
        | some a =>
          rw [e] at ih
          by_cases hx : x == n
          · have hx' : x = n := by simpa using hx
            subst hx'
            simp at ih
            subst ih
            exact .inr e
          · simp only [List.lookup_cons, hx] at ih
            exact .inl ih
      · rw [if_neg hk] at ih
        exact .inl ih
    · exact .inr ih
theorem clos_keeps {env : Env} {x : Str} {c : Addr} (hc : env.cells.lookup x = some c) : ∀ {ns : List (Str × NameKind)} {cs : List (Str × Addr)}, cs.lookup x = some c → (clos env ns cs).lookup x = some c
  | [], cs, h => h
  | (n, k) :: r, cs, h => by
    refine clos_keeps hc (ns := r) ?_
    by_cases hk : (k == NameKind.free) = true
    · rw [if_pos hk]
      cases e : env.cells.lookup n with
      | none => exact h
      | some a =>
        by_cases hx : x == n
        · have hx' : x = n := by simpa using hx
          subst hx'
          rw [hc] at e
          cases e
          simp
        · simp only [List.lookup_cons, hx]
          exact h
    · rw [if_neg hk]
      exact h
theorem clos_has {env : Env} {x : Str} {c : Addr} (hc : env.cells.lookup x = some c) : ∀ {ns : List (Str × NameKind)} {cs : List (Str × Addr)}, (x, NameKind.free) ∈ ns → (clos env ns cs).lookup x = some c
  | [], cs, h => by simp at h
  | (n, k) :: r, cs, h => by
    rcases List.mem_cons.mp h with h | h
    · cases h
      refine clos_keeps hc (ns := r) ?_
      simp [hc]
    · exact clos_has hc (ns := r) h
theorem relabel_cell {scope : Scope} {env : Env} {x : Str} : ∀ {ns : List (Str × NameKind)} {k : NameKind},
    (ns.map fun (n, k) => if (k == NameKind.free && env.scope.kind == .function && env.kindOf n == some .cell) then (n, NameKind.cell) else (n, k)).lookup x = some k → (k = .cell ∨ k = .free) → (∀ y ∈ ns, y.2 ≠ .cell) → (x, NameKind.free) ∈ ns
  | [], _, h, _, _ => by simp at h
  | (n, j) :: r, k, h, hk, nc => by
    by_cases hx : x == n
    · have hx' : x = n := by simpa using hx
      subst hx'
      have hj : j ≠ .cell := nc _ List.mem_cons_self
      by_cases hc : (j == NameKind.free && env.scope.kind == .function && env.kindOf x == some .cell) = true
      · have : j = .free := by
          have := (Bool.and_eq_true_iff.mp (Bool.and_eq_true_iff.mp hc).1).1
          simpa using this
        subst this
        exact List.mem_cons_self
      · simp only [List.map_cons, hc, if_neg, Bool.false_eq_true, not_false_eq_true, List.lookup_cons, beq_self_eq_true] at h
        have : j = k := by simpa using h
        subst this
        rcases hk with hk | hk
        · exact absurd hk hj
        · subst hk; exact List.mem_cons_self
    · refine List.mem_cons_of_mem _ (relabel_cell (scope := scope) (env := env) (ns := r) (k := k) ?_ hk fun y hy => nc y (List.mem_cons_of_mem _ hy))
      simp only [List.map_cons] at h
      by_cases hc : (j == NameKind.free && env.scope.kind == .function && env.kindOf n == some .cell) = true
      · rw [if_pos hc] at h
        simpa only [List.lookup_cons, hx] using h
      · rw [if_neg hc] at h
        simpa only [List.lookup_cons, hx] using h
theorem relabel_free {env : Env} {x : Str} : ∀ {ns : List (Str × NameKind)}, ns.lookup x = some .free →
    (ns.map fun (n, k) => if (k == NameKind.free && env.scope.kind == .function && env.kindOf n == some .cell) then (n, NameKind.cell) else (n, k)).lookup x = some .cell ∨
    (ns.map fun (n, k) => if (k == NameKind.free && env.scope.kind == .function && env.kindOf n == some .cell) then (n, NameKind.cell) else (n, k)).lookup x = some .free
  | [], h => by simp at h
  | (n, j) :: r, h => by
    by_cases hx : x == n
    · have hx' : x = n := by simpa using hx
      subst hx'
      have : j = .free := by simpa using h
      subst this
      by_cases hc : (NameKind.free == NameKind.free && env.scope.kind == .function && env.kindOf x == some .cell) = true
      · left; simp only [List.map_cons]; rw [if_pos hc]; simp
      · right; simp only [List.map_cons]; rw [if_neg hc]; simp
    · have h' : r.lookup x = some .free := by simpa only [List.lookup_cons, hx] using h
      have ih := relabel_free (env := env) (ns := r) h'
      simp only [List.map_cons]
      by_cases hc : (j == NameKind.free && env.scope.kind == .function && env.kindOf n == some .cell) = true
      · rw [if_pos hc]; simpa only [List.lookup_cons, hx] using ih
      · rw [if_neg hc]; simpa only [List.lookup_cons, hx] using ih
end L2
end
section
set_option Elab.async false
set_option linter.all false
set_option maxRecDepth 100000
set_option maxHeartbeats 4000000
namespace L2
open PySem PySem.Spec PyProof.Rows
/-- a comprehension's block: own names, then the captured ones -/
abbrev cxB (X : Cx) (scope : Scope) (C : Addr) (N' : List Str) (s₀ : Shared) (H₀ : Hp) (fp : List Addr) : Cx :=
  { X with N := N', s₀ := s₀, H₀ := H₀, env := compEnvC scope (clos X.env scope.names []) C X.env, outer := X.stack, stack := X.stack, ex := fp, fn := fun _ => false, cw := fun _ => false, pn := [], xe := fun _ _ => False }
/-- the captured names: where they stand in X -/
def CapsOk (X : Cx) (scope : Scope) : List (Str × Nat) → Prop
  | [] => True
  | p :: r => (scope.names.lookup p.1 = some .free ∧ X.N[p.2]? = some p.1 ∧ (X.env.scope.names.lookup p.1 = some .cell ∨ X.env.scope.names.lookup p.1 = some .free)) ∧ CapsOk X scope r
theorem CapsOk.mem {X : Cx} {scope : Scope} : ∀ {l : List (Str × Nat)}, CapsOk X scope l → ∀ p ∈ l, scope.names.lookup p.1 = some .free ∧ X.N[p.2]? = some p.1 ∧ (X.env.scope.names.lookup p.1 = some .cell ∨ X.env.scope.names.lookup p.1 = some .free)
  | [], _, p, h => by simp at h
  | q :: r, h, p, hp => by
    rcases List.mem_cons.mp hp with e | e
    · rw [e]; exact h.1
    · exact CapsOk.mem h.2 p e
/-- every free name of the block is a cell's here -/
def FreesOk (X : Cx) (names : List (Str × NameKind)) : Prop := (names.all fun y => y.2 != .free || X.env.scope.names.lookup y.1 == some .cell || X.env.scope.names.lookup y.1 == some .free) = true
theorem FreesOk.mem {X : Cx} {l : List (Str × NameKind)} (h : FreesOk X l) : ∀ y ∈ l, y.2 = .free → (X.env.scope.names.lookup y.1 = some .cell ∨ X.env.scope.names.lookup y.1 = some .free) := fun y hy e => by
  have q := List.all_eq_true.mp h y hy
  rw [e] at q
  have q' : ((X.env.scope.names.lookup y.1 == some .cell) || (X.env.scope.names.lookup y.1 == some .free)) = true := q
  rcases Bool.or_eq_true_iff.mp q' with z | z
  · exact .inl (eq_of_beq z)
  · exact .inr (eq_of_beq z)
structure CompScope (X : Cx) (scope : Scope) (own : List Str) (caps : List (Str × Nat)) : Prop where
  kind : scope.kind = .function
  nocell : ∀ y ∈ scope.names, y.2 ≠ .cell
  names : ∀ y ∈ scope.names, y.2 = .local → scope.names.lookup y.1 = some .local
  caps : CapsOk X scope caps
  frees : FreesOk X scope.names
abbrev capN (own : List Str) (caps : List (Str × Nat)) : List Str := own ++ caps.map (·.1)
abbrev capS (own : List Str) (caps : List (Str × Nat)) (σ : St) : St := List.replicate own.length none ++ caps.map fun p => (σ[p.2]?).getD none
theorem compLoop_any {prog : Program} {w : World} {A : Around} {R : Result → Shared → Prop} {s : Shared} {elt target iter : Expr} {ifs : List Expr} {scope : Scope} {pos : Pos} {it acc : Value} {env : Env} (I : Nat → Shared → Prop)
    (turn : ∀ n s, I n s → wpAny (model prog w) A (pyNext it) (fun r s₁ => match r with
      | none => R (.ok .next) s₁
      | some v => wpAny (model prog w) A (letOwnedTupleGo target it v) (fun _ s₁' => wpAny (model prog w) A (assign target env v) (fun _ s₂ =>
          wpAny (model prog w) A (forIn ifs true fun c r => if r = true then do let ok ← isTrue c env (eval c env); pure (ForInStep.yield ok) else pure (ForInStep.yield r)) (fun ok s₃ =>
            if ok = true then wpAny (model prog w) A (eval elt env) (fun x s₄ =>
              wpAny (model prog w) A (call (.builtin "list.append") [acc, x]) (fun _ s₅ => ∃ m, m < n ∧ I m s₅) (fun _ _ => False) s₄) (fun _ _ => False) s₃
            else ∃ m, m < n ∧ I m s₃) (fun _ _ => False) s₂) (fun _ _ => False) s₁') (fun _ _ => False) s₁) (fun _ _ => False) s)
    (n : Nat) (h : I n s) :
    codeAny (model prog w) A (.compLoop (.ListComp elt [⟨target, iter, ifs, 0⟩] scope pos) 0 it acc env) R s := by
  refine codeAny_loop rfl I (fun n s hI => ?_) n h
  show wpAny _ A ((compTurn (.ListComp elt [⟨target, iter, ifs, 0⟩] scope pos) 0 it acc env).onRaise (fun x => do noteFrame x env; theTreesLotGoes x)) _ _ s
  refine wpAny_noted ?_
  rw [compTurn_list]
  refine wpAny_bind (wpAny_standAt (wpAny_bind (wpAny_mono (turn n s hI) (fun r s₁ h₁ => ?_) fun _ _ h' => h'.elim)))
  cases r with
  | none => exact wpAny_pure h₁
  | some v =>
    refine wpAny_bind (wpAny_mono h₁ (fun _ s₁' h₁' => ?_) fun _ _ h' => h'.elim)
    refine wpAny_bind (wpAny_mono h₁' (fun _ s₂ h₂ => wpAny_bind (wpAny_mono h₂ (fun ok s₃ h₃ => ?_) fun _ _ h' => h'.elim)) fun _ _ h' => h'.elim)
    cases ok with
    | false => exact wpAny_pure ⟨rfl, h₃⟩
    | true =>
      exact wpAny_bind (wpAny_bind (wpAny_mono h₃ (fun x s₄ h₄ => wpAny_bind (wpAny_mono h₄ (fun _ s₅ h₅ => wpAny_pure (wpAny_pure ⟨rfl, h₅⟩)) fun _ _ h' => h'.elim)) fun _ _ h' => h'.elim))
section
variable {X : Cx} {pins : List (Addr × Obj)} {σ : St} {H : Hp} {s s1 : Shared} {scope : Scope} {own : List Str} {caps : List (Str × Nat)} {fp : List Addr}
theorem Inv.block {h1 : Heap} {tk : Nat} (I : Inv X pins σ H s) (S : CompScope X scope own caps) (hf : ∀ b ∈ fp, FpOk X pins H b)
    (hns : h1.Ns s.heap.objs.size fun _ => none) (hk : ∀ b o, s.heap.get? b = some o → h1.get? b = some o) (hfl : ∀ b ∈ fp, b < s.heap.objs.size) :
    Inv (cxB X scope s.heap.objs.size (capN own caps) s H fp) [] (capS own caps σ) H { s with heap := h1, toks := tk } := by
  have hfree : ∀ y ∈ scope.names, y.2 = .free → ∃ c, X.env.cells.lookup y.1 = some c := fun y hy e => I.ok.has _ (S.frees.mem y hy e)
  have sub : ∀ x c, (clos X.env scope.names []).lookup x = some c → X.env.cells.lookup x = some c := fun x c e => by
    rcases clos_sub e with z | z
    · simp at z
    · exact z
  have celT : ∀ {c : Addr} {v : Option Value}, s.heap.IsCell c v → h1.IsCell c v := fun {c v} ⟨o, ho, hd⟩ => ⟨o, hk _ _ ho, hd⟩
  refine ⟨⟨I.ok.mod, ?_, I.ok.glob, I.ok.blt, Nat.le_refl _, fun y z c e1 e2 => I.ok.inj y z c (sub _ _ e1) (sub _ _ e2), fun y hy => ?_, (fun y c e => (nomatch e)), I.ok.hd, I.ok.frames, .inl rfl, fun b hb => ⟨Nat.ne_of_lt (hfl b hb), fun x c e => (hf b hb).2.2.2.2.1 x c (sub x c e)⟩,
      I.bs, Nat.le_trans I.ok.bsz I.sz, fun b o e hb => ?_, fun b hb z => ?_, I.stack, I.stkFree, fun P z => I.base.tbls P 0 (I.ok.tab P z), fun _ z => z⟩,
    rfl, I.bare, Un.kept hk, ⟨_, hns, fun i y v e1 e2 e3 => ?_⟩, fun y c e => ?_, I.hok.fresh (Nat.le_refl _), fun y c e => (I.freeC y c (sub y c e)).imp id fun ⟨_, z⟩ => ⟨rfl, z⟩, fun p hp => absurd (show p ∈ ([] : List (Addr × Obj)) from hp) (by simp), I.hok.kept hk, ?_⟩
  · exact S.kind
  · have hy : (relabel scope X.env).names.lookup y = some .cell ∨ (relabel scope X.env).names.lookup y = some .free := hy
    have m : (y, NameKind.free) ∈ scope.names := by
      rcases hy with z | z
      · exact relabel_cell (scope := scope) (env := X.env) z (.inl rfl) S.nocell
      · exact relabel_cell (scope := scope) (env := X.env) z (.inr rfl) S.nocell
    obtain ⟨c, e⟩ := hfree _ m rfl
    exact ⟨c, clos_has e m⟩
  · rcases (hf b hb).2.2.2.1 with z | z
    · exact I.ok.noex b o e z
    · exact absurd (Nat.lt_of_lt_of_le (Heap.lt_size e) (Nat.le_trans I.ok.bsz z)) (Nat.lt_irrefl _)
  · rcases List.mem_cons.mp (I.stkSub b z) with q | q
    · exact (hf b hb).2.1 q
    · exact (hf b hb).2.2.1 q
  · -- a captured name
    have hi : own.length ≤ i := by
      rcases Nat.lt_or_ge i own.length with q | q
      · rw [List.getElem?_append_left (by simpa using q), List.getElem?_replicate, if_pos q] at e2
        cases e2
      · exact q
    rw [List.getElem?_append_right hi, List.getElem?_map] at e1
    rw [List.getElem?_append_right (by simpa using hi), List.length_replicate, List.getElem?_map] at e2
    cases ep : caps[i - own.length]? with
    | none => rw [ep] at e1; cases e1
    | some p =>
      rw [ep] at e1 e2
      have ey : p.1 = y := Option.some.inj e1
      subst ey
      obtain ⟨f1, f2, f3⟩ := S.caps.mem p (List.mem_of_getElem? ep)
      have eσ : σ[p.2]? = some (some v) := by
        have e2' : (σ[p.2]?).getD none = some v := Option.some.inj e2
        cases q : σ[p.2]? with
        | none => rw [q] at e2'; cases e2'
        | some o => rw [q] at e2'; exact congrArg some e2'
      obtain ⟨m, _, hl⟩ := I.loc
      obtain ⟨u, ru, L⟩ := hl p.2 p.1 v f2 eσ (f3.elim (fun z => .inr (.inl z)) fun z => .inr (.inr z))
      refine ⟨u, ru, .inr ⟨relabel_free f1, ?_⟩⟩
      rcases L with ⟨L, _⟩ | ⟨_, c, e, ic⟩
      · have L : X.env.scope.names.lookup p.1 = some .local := L
        rcases f3 with z | z <;> (rw [z] at L; cases L)
      · exact ⟨c, clos_has e (PySem.mem_of_lookup f1), celT ic⟩
  · obtain ⟨v, z⟩ := I.cell y c (sub y c e)
    exact ⟨v, celT z⟩
  · show (capS own caps σ).length = (capN own caps).length
    simp
/-- the tests of a comprehension: none or one -/
def PTs (X : Cx) (ifs : List Expr) (t : TT) : Prop := ∀ (pins : List (Addr × Obj)) (s : Shared) (σ : St) (H : Hp) (Q : Bool → Hp → Prop), Inv X pins σ H s → t σ H Q →
  wpAny (model X.prog X.w) X.A (forIn ifs true fun c r => if r = true then do let ok ← isTrue c X.env (eval c X.env); pure (ForInStep.yield ok) else pure (ForInStep.yield r)) (TP X pins σ Q) X.xe s
def tYes : TT := fun _ H Q => Q true H
theorem pts_nil {X : Cx} : PTs X [] tYes := fun _ _ _ H _ I h => wpAny_tests_nil ⟨H, I, h⟩
/-- the reading: D is the new list; W, N as in a for -/
def CompGo (own : List Str) (caps : List (Str × Nat)) (g : TG) (tc : TT) (te : TE) (σ : St) (Q : VK) (J : It) (H1 : Hp) : Prop := ∀ D, H1 D = none → ∃ W : Nat → Nat → St → Hp → Prop, (∃ m, W 0 m (capS own caps σ) (upd H1 D (.lst []))) ∧ ∀ i m σ' H', W i m σ' H' →
  (J.stop i H' ∧ Q (.ref D) H') ∨ (J.go i H' ∧ ∃ N : St → Hp → Prop, (∀ σ2 H2, N σ2 H2 → ∃ m', m' < m ∧ W (i + 1) m' σ2 H2) ∧ ∀ x H2, J.yld i H' x H2 → g x σ' H2 fun σ3 H3 => tc σ3 H3 fun b H4 =>
    if b = true then te σ3 H4 fun y H5 => ∃ ys, H5 D = some (.lst ys) ∧ ys.length < sizeLine ∧ N σ3 (upd H5 D (.lst (ys ++ [y]))) else N σ3 H4)
def tComp (own : List Str) (caps : List (Str × Nat)) (wi : TI) (g : TG) (tc : TT) (te : TE) : TE := fun σ H Q => wi σ H (CompGo own caps g tc te σ Q)
theorem pe_comp {elt tg iter : Expr} {ifs : List Expr} {pos : Pos} {wi : TI} {g : TG} {tc : TT} {te : TE} (S : CompScope X scope own caps) (hc : X.calm = true) (hi : PI X tg iter wi)
    (hg : ∀ C s₀ H₀ fp, PG (cxB X scope C (capN own caps) s₀ H₀ fp) tg g) (ht : ∀ C s₀ H₀ fp, PTs (cxB X scope C (capN own caps) s₀ H₀ fp) ifs tc) (he : ∀ C s₀ H₀ fp, PE (cxB X scope C (capN own caps) s₀ H₀ fp) elt te)
    (hs : ∀ x, foldedSetIterable iter X.env x = pure x := by intro _; rfl) : PE X (.ListComp elt [⟨tg, iter, ifs, 0⟩] scope pos) (tComp own caps wi g tc te) := by
  intro pins s σ H Q I h
  rw [eval_ListComp]
  have hfree : ∀ y ∈ scope.names, y.2 = .free → ∃ c, X.env.cells.lookup y.1 = some c := fun y hy e => I.ok.has _ (S.frees.mem y hy e)
  refine wpAny_comprehension_free (use := none) rfl hs (closureFor_eq hfree) S.kind S.names (thn (hi pins s σ H _ I h) fun v s1 h1 => thn h1 fun itv s2 h2 => ?_)
  obtain ⟨it, fp, tn, J, H2, e, I2, T, st2, f2, hW⟩ := h2
  subst e
  -- the new list
  refine wpAny_newList ?_
  have hD : H2 s2.heap.objs.size = none := I2.fresh
  have I3 := I2.lnew (its := []) (ys := []) (t' := s2.toks) .nil (Nat.zero_le _)
  have k3 : ∀ b o, s2.heap.get? b = some o → (s2.heap.push { cls := .type "list", data := .seq ([] : List Value).toArray }).get? b = some o := fun b o q => Heap.get?_push_of_some _ q
  have st3 : tn 0 (s2.heap.push { cls := .type "list", data := .seq ([] : List Value).toArray }) := T.keep _ _ _ st2 fun b _ o q => k3 b o q
  have lt2 : ∀ b ∈ fp, b < s2.heap.objs.size := fun b hb => let ⟨o, q, _⟩ := T.obj _ _ st2 b hb; Heap.lt_size q
  have neD : ∀ b ∈ fp, b ≠ s2.heap.objs.size := fun b hb => Nat.ne_of_lt (lt2 b hb)
  have f3 : ∀ b ∈ fp, FpOk X pins (upd H2 s2.heap.objs.size (.lst [])) b := fun b hb => ⟨by rw [upd_ne (neD b hb)]; exact (f2 b hb).1, (f2 b hb).2⟩
  obtain ⟨W, ⟨m0, w0⟩, turn⟩ := hW _ hD
  generalize eD : s2.heap.objs.size = D at *
  generalize eH : upd H2 D (.lst []) = H3 at *
  generalize eh : s2.heap.push { cls := .type "list", data := .seq ([] : List Value).toArray } = hp3 at *
  have I3' : Inv X pins σ H3 { s2 with heap := hp3 } := I3
  -- the block's frame
  refine wpAny_newFunctionEnv S.nocell (fun y hy => by simp at hy) (fun h1 hns hsb => ?_) S.kind
  have kb : ∀ b o, hp3.get? b = some o → h1.get? b = some o := fun b o q => hsb.extBut b o (Nat.ne_of_lt (Heap.lt_size q)) (Heap.get?_push_of_some _ q)
  have lt3 : ∀ b ∈ fp, b < hp3.objs.size := fun b hb => let ⟨o, q, _⟩ := T.obj _ _ st3 b hb; Heap.lt_size q
  have IB := Inv.block (s := { s2 with heap := hp3 }) (h1 := h1) (tk := s2.toks) I3' S f3 hns kb lt3
  have stB : tn 0 h1 := T.keep _ _ _ st3 fun b _ o q => kb b o q
  have back : ∀ {σ' : St} {H' : Hp} {s' : Shared} {h' : Heap}, Inv (cxB X scope hp3.objs.size (capN own caps) { s2 with heap := hp3 } H3 fp) [] σ' H' s' → Heap.SameBut hp3.objs.size s'.heap h' → Inv X pins σ H' { s' with heap := h' } := fun {σ' H' s' h'} J hsm => by
    have nC : ∀ b o, H' b = some o → b ≠ hp3.objs.size := fun b o q z => by
      have := J.free
      rw [z] at q
      have q2 : H' hp3.objs.size = none := this
      rw [q] at q2; cases q2
    have hok : HOk X.prog X.w H' h' := fun b o q => (J.hok b o q).stay (fun c v hc z => hsm.extBut c v (by
      rcases hc with hc | hc
      · rw [hc]; exact nC b o q
      · exact nC c _ hc) z) (fun _ z => z) (fun _ _ z => z) fun _ _ _ z => z
    have nb : ∀ b o, hp3.get? b = some o → b ≠ hp3.objs.size := fun b o q => Nat.ne_of_lt (Heap.lt_size q)
    have un : Un (frs X.stack) fp H3 H' hp3 h' := ⟨fun b o q n hb hx => hsm.extBut b o (nb b o q) (J.base.keep b o q n hb hx), fun b o q n hb hx => by
        obtain ⟨sl, z⟩ := J.base.slot b o q n hb hx
        exact ⟨sl, hsm.extBut b _ (nb b o q) z⟩, J.base.free, fun b o q hx => by
        obtain ⟨o', z⟩ := J.base.there b o q hx
        exact ⟨o', hsm.extBut b _ (nb b o q) z⟩, J.base.tups, J.base.frzs, J.base.tbls⟩
    have os := J.os
    have bare := J.bare
    obtain ⟨hh, g, d, t, os'⟩ := s'
    obtain rfl : os' = s2.os := os
    show Inv X pins σ H' { ({ s2 with heap := hp3 } : Shared) with heap := h', gens := g, drawn := d, toks := t }
    exact I3'.call (h' := h') (g' := g) (d' := d) (t' := t) (ch := fp) un hok bare fun b hb => ⟨(f3 b hb).2.2.2.1, (f3 b hb).2.1, (f3 b hb).2.2.2.2.1, (f3 b hb).2.2.2.2.2⟩
  have statB : ∀ {H' : Hp}, (∀ b ∈ fp, H' b = none) → ∀ b ∈ fp, FpOk (cxB X scope hp3.objs.size (capN own caps) { s2 with heap := hp3 } H3 fp) [] H' b := fun hn b hb =>
    ⟨hn b hb, Nat.ne_of_lt (lt3 b hb), fun z => (IB.ok.exfs b hb) z, .inl hb, (IB.ok.exf b hb).2, fun p hp => absurd (show p ∈ ([] : List (Addr × Obj)) from hp) (by simp)⟩
  have loop : ∀ s₃ : Shared, s₃ = { s2 with heap := h1, toks := s2.toks } → codeAny (model X.prog X.w) X.A (.compLoop (.ListComp elt [⟨tg, iter, ifs, 0⟩] scope pos) 0 (.ref it) (.ref D) (compEnvC scope (clos X.env scope.names []) hp3.objs.size X.env))
      (compPost (model X.prog X.w) X.A X.xe none (EP X pins σ Q) (.ref D) hp3.objs.size) s₃ := by
    rintro s₃ rfl
    refine compLoop_any (fun n s' => ∃ i σ' H', Inv (cxB X scope hp3.objs.size (capN own caps) { s2 with heap := hp3 } H3 fp) [] σ' H' s' ∧ tn i s'.heap ∧ (∀ b ∈ fp, H' b = none) ∧ W i n σ' H') ?_ m0 ⟨0, capS own caps σ, H3, IB, stB, fun b hb => (f3 b hb).1, w0⟩
    rintro n s3 ⟨i, σ3, H4, I4, st4, fr4, w4⟩
    rcases turn i n σ3 H4 w4 with ⟨stop, qn⟩ | ⟨go, N, hN, step⟩
    · refine thn (T.done (cxB X scope hp3.objs.size (capN own caps) { s2 with heap := hp3 } H3 fp) rfl rfl rfl hc i [] s3 σ3 H4 _ I4 (statB fr4) st4 stop) fun r s4 ⟨hr, I5⟩ => ?_
      subst hr
      obtain ⟨m, hn, _⟩ := I5.loc
      exact ⟨m, hn, fun h' hsm => ⟨.ref D, H4, back I5 hsm, rfl, qn⟩⟩
    · refine thn (T.item (cxB X scope hp3.objs.size (capN own caps) { s2 with heap := hp3 } H3 fp) rfl rfl rfl hc i [] s3 σ3 H4 (fun _ _ => False) I4 (statB fr4) st4 go) fun r s4 ⟨u, hr, h4⟩ => ?_
      subst hr
      refine thn h4 fun _ s5 ⟨x, H5, I5, r5, y5, st5, fr5⟩ => ?_
      have I5' := I5.pinned (statB fr5) (T.obj _ _ st5)
      refine thn (hg hp3.objs.size { s2 with heap := hp3 } H3 fp _ s5 σ3 H5 x u _ I5' r5 (step x H5 y5)) fun _ s6 ⟨σ6, H6, I6, q6⟩ => ?_
      refine thn (ht hp3.objs.size { s2 with heap := hp3 } H3 fp _ s6 σ6 H6 _ I6 q6) fun ok s7 ⟨H7, I7, q7⟩ => ?_
      have again : ∀ {σ7 : St} {H7 : Hp} {s7 : Shared}, Inv (cxB X scope hp3.objs.size (capN own caps) { s2 with heap := hp3 } H3 fp) ([] ++ pinsAt fp s5.heap) σ7 H7 s7 → N σ7 H7 → ∃ m, m < n ∧ ∃ i σ' H', Inv (cxB X scope hp3.objs.size (capN own caps) { s2 with heap := hp3 } H3 fp) [] σ' H' s7 ∧ tn i s7.heap ∧ (∀ b ∈ fp, H' b = none) ∧ W i m σ' H' := fun {σ7 H7 s7} I7 n7 => by
        obtain ⟨m', hm, w7⟩ := hN σ7 H7 n7
        refine ⟨m', hm, i + 1, σ7, H7, I7.unpinned, T.keep _ _ _ st5 fun b hb o e => (I7.pin (b, o) (List.mem_append_right _ (List.mem_append_right _ (mem_pinsAt hb e)))).1, fun b hb => ?_, w7⟩
        obtain ⟨o, e, d⟩ := T.obj _ _ st5 b hb
        exact (I7.pin (b, o) (List.mem_append_right _ (List.mem_append_right _ (mem_pinsAt hb e)))).2.1
      cases ok with
      | false =>
        rw [if_neg (by decide)]
        rw [if_neg (by decide)] at q7
        exact again I7 q7
      | true =>
        rw [if_pos rfl]
        rw [if_pos rfl] at q7
        refine thn (he hp3.objs.size { s2 with heap := hp3 } H3 fp _ s7 σ6 H7 _ I7 q7) fun y s8 ⟨yv, H8, I8, r8, ys, e8, z8, n8⟩ => ?_
        refine thn (mt_append (X := cxB X scope hp3.objs.size (capN own caps) { s2 with heap := hp3 } H3 fp) _ s8 σ6 H8 (.ref D) [yv] (.ref D) [y] (fun _ H' => N σ6 H') I8 rfl (.cons r8 .nil) ⟨D, ys, yv, rfl, rfl, e8, z8, n8⟩) fun _ s9 ⟨v9, H9, I9, _, q9⟩ => ?_
        exact again I9 q9
  exact codeAny_compStart_list (loop _ rfl) (T.self _ 0 _ _ _ stB (loop _ rfl))
end
end L2
end
section
set_option Elab.async false
set_option linter.all false
set_option maxRecDepth 100000
set_option maxHeartbeats 4000000
namespace L2
open PySem PySem.Spec PyProof.Rows
/-! ### plain data: flat values and tuples of plain data -/
inductive D where
  | at (v : V)
  | tup (ds : List D)
mutual
def DatAt (K : PySem.W.Frag) (H : Hp) : D → V → Prop
  | .at x, v => v = x ∧ flatV x = true
  | .tup ds, v => ∃ a xs, v = .ref a ∧ SqT K H a xs ∧ DatsAt K H ds xs
def DatsAt (K : PySem.W.Frag) (H : Hp) : List D → List V → Prop
  | [], xs => xs = []
  | d :: ds, xs => ∃ x r, xs = x :: r ∧ DatAt K H d x ∧ DatsAt K H ds r
end
mutual
def D.depth : D → Nat
  | .at _ => 0
  | .tup ds => depths ds + 1
def depths : List D → Nat
  | [] => 0
  | d :: ds => max d.depth (depths ds)
end
theorem Same.tup {K : PySem.W.Frag} {H H' : Hp} {a : Addr} {xs : List V} (e : Same H H') (h : SqT K H a xs) : SqT K H' a xs := by
  rcases h with (h | ⟨o, h⟩) | h
  · exact .inl (.inl (e _ _ h))
  · exact .inl (.inr ⟨o, e _ _ h⟩)
  · exact .inr h
mutual
theorem DatAt.same {K : PySem.W.Frag} {H H' : Hp} (e : Same H H') : ∀ {d : D} {v : V}, DatAt K H d v → DatAt K H' d v
  | .at x, v, h => h
  | .tup ds, v, h => by
    obtain ⟨a, xs, e1, e2, e3⟩ := h
    exact ⟨a, xs, e1, e.tup e2, DatsAt.same e e3⟩
theorem DatsAt.same {K : PySem.W.Frag} {H H' : Hp} (e : Same H H') : ∀ {ds : List D} {xs : List V}, DatsAt K H ds xs → DatsAt K H' ds xs
  | [], xs, h => h
  | d :: ds, xs, h => by
    obtain ⟨x, r, e1, e2, e3⟩ := h
    exact ⟨x, r, e1, DatAt.same e e2, DatsAt.same e e3⟩
end
section
variable {X : Cx} {pins : List (Addr × Obj)} {σ : St} {H : Hp} {s : Shared}
end
end L2
end
section
set_option Elab.async false
set_option linter.all false
set_option maxRecDepth 100000
set_option maxHeartbeats 4000000
namespace PySem.SeqAt
open AutoSeq1 (wpAny_loadPart')
open MeetsSeq MeetsSeq2 MeetsSeq3 SeqRoads2
theorem wpAny_forIn_upto {M : Model} {A : Around} {E : Value → Shared → Prop} {s : Shared} {β : Type} {n : Nat} (f : Nat → β → Sem (ForInStep β)) (I : Nat → β → Shared → Prop) (Q : β → Shared → Prop)
    (turn : ∀ i b s, i < n → I i b s → wpAny M A (f i b) (fun r s' => match r with | .yield b' => I (i + 1) b' s' | .done b' => Q b' s') E s)
    (fin : ∀ b s, I n b s → Q b s) (b : β) (h : I 0 b s) : wpAny M A (forIn ([:n] : Std.Legacy.Range) b f) Q E s := by
  rw [Std.Legacy.Range.forIn_eq_forIn_range']
  simp only [Std.Legacy.Range.size, Nat.sub_zero, Nat.add_sub_cancel, Nat.div_one]
  refine wpAny_forIn_list f (fun rest b s' => ∃ i, rest = List.range' i (n - i) ∧ i ≤ n ∧ I i b s') Q ?_ ?_ _ _ ⟨0, by simp, Nat.zero_le _, h⟩
  · rintro x rest b s' ⟨i, hr, hi, hI⟩
    have hlt : i < n := by
      rcases Nat.lt_or_ge i n with q | q
      · exact q
      · rw [Nat.sub_eq_zero_of_le q] at hr; simp at hr
    obtain ⟨rfl, hrest⟩ : x = i ∧ rest = List.range' (i + 1) (n - (i + 1)) := by
      rw [show n - i = (n - (i + 1)) + 1 by omega, List.range'_succ] at hr
      injection hr with h1 h2
      exact ⟨h1, h2⟩
    refine wpAny_mono (turn x b s' hlt hI) (fun r s2 hr2 => ?_) fun _ _ z => z
    cases r with
    | done b' => exact hr2
    | yield b' => exact ⟨x + 1, hrest, hlt, hr2⟩
  · rintro b s' ⟨i, hr, hi, hI⟩
    have : i = n := by
      rcases Nat.lt_or_ge i n with q | q
      · rw [show n - i = (n - (i + 1)) + 1 by omega, List.range'_succ] at hr; cases hr
      · omega
    subst this
    exact fin _ _ hI
theorem tuple_indexAt (l : Addr) (items : Array Value) (n : Nat) (dd : Option Addr) (sl : Array (Option Value)) (x : Value) (e : Value → Bool) (j : Nat) (hj : j < items.size)
    (hit : e items[j] = true) (hno : ∀ m (hm : m < items.size), m < j → e items[m] = false) :
    Meets (Builtin.«tuple.index» ⟨[.ref l, x], []⟩)
      (fun A R s => s.heap.get? l = some { cls := .type "tuple", dict := dd, data := .seq items n, slots := sl } ∧ (∀ y, y ∈ items → EqAt A.in1 s y x (e y)) ∧ R (.ok (.ret (.int j s.toks))) { s with toks := s.toks + 1 }) :=
  .of_wp fun prog w A R s h => by
    obtain ⟨hp, g, d, tk, os⟩ := s; obtain ⟨hl, he, h⟩ := h
    wp_walk using wpAny_loadPart' hl, wpAny_forIn_upto (n := min items.size items.size) _ (fun i b s' => b.1 = none ∧ i ≤ j ∧ s' = ⟨hp, g, d, tk, os⟩) _
    case turn =>
      rintro i b s' hi ⟨hb, hij, rfl⟩
      have hi' : i < items.size := by omega
      rw [Array.getElem?_eq_getElem hi']
      refine wpAny_bind (he _ (Array.getElem_mem hi') prog w _ _ ?_)
      by_cases ij : i = j
      · subst ij
        rw [hit]
        wp_walk
        exact ⟨_, rfl, h⟩
      · rw [hno i hi' (by omega)]
        wp_walk
        exact ⟨rfl, by omega, rfl⟩
    case fin =>
      rintro b s' ⟨hb, hij, rfl⟩
      omega
    case h =>
      exact ⟨rfl, Nat.zero_le _, rfl⟩
end PySem.SeqAt
namespace L2
open PySem PySem.Spec PyProof.Rows
section
variable {X : Cx}
def rIndexT (K : PySem.W.Frag) : V → List V → Hp → VK → Prop := fun x vs H Q => ∃ a xs y j z, x = .ref a ∧ vs = [y] ∧ SqT K H a xs ∧ flatV y = true ∧ xs.all flatV = true ∧ xs[j]? = some z ∧ eqV z y = true ∧ (∀ i z, i < j → xs[i]? = some z → eqV z y = false) ∧ Q (.int (j : Nat)) H
theorem mt_indexT : MtR X "tuple.index" (rIndexT X.K) := by
  intro pins s σ H x vs v us Q I rx rv h
  obtain ⟨a, xs, y, j, z, rfl, rfl, hS, fy, fs, ej, ez, hno, q⟩ := h
  obtain rfl : v = Value.ref a := rx
  obtain ⟨u, rfl, ru⟩ := rv.one
  obtain ⟨its, r, pl, _⟩ := I.tuple hS
  have eqs := mem_eqAt (A := X.A.in1) (s := s) ru fy r fs
  obtain ⟨w, ew, rw'⟩ := r.get ej
  have hj : j < its.length := (List.getElem?_eq_some_iff.mp ew).1
  obtain ⟨ob, eo, hc, nn, hd⟩ := pl
  obtain ⟨cls, dd, data, sl⟩ := ob
  simp only at hc hd
  subst hc hd
  have flat_at : ∀ {i : Nat} {z : V}, xs[i]? = some z → flatV z = true := fun {i z} e => by
    exact List.all_eq_true.mp fs z (List.mem_of_getElem? e)
  refine call_meets F.slot_tuple_index ⟨_, eo, rfl⟩ F.entry_tuple_index (F.args_tuple_index_2 _ _) (SeqAt.tuple_indexAt a its.toArray nn dd sl u (eqU y) j (by simpa using hj) ?_ ?_) ⟨eo, fun w hw => eqs w (by simpa using hw), ?_⟩
  · have : its[j] = w := (List.getElem?_eq_some_iff.mp ew).2
    show eqU y its[j] = true
    rw [this, eqU_of rw' (flat_at ej)]
    exact ez
  · intro m hm hmj
    have hm' : m < its.length := by simpa using hm
    have hx : m < xs.length := by rw [r.length]; exact hm'
    obtain ⟨w', ew', r'⟩ := r.get (List.getElem?_eq_getElem hx)
    have : its[m] = w' := (List.getElem?_eq_some_iff.mp ew').2
    show eqU y its[m] = false
    rw [this, eqU_of r' (flat_at (List.getElem?_eq_getElem hx))]
    exact hno m _ hmj (List.getElem?_eq_getElem hx)
  · exact ⟨.int (j : Nat), H, I.tok _, ⟨_, rfl⟩, q⟩
end
end L2
end
section
set_option Elab.async false
set_option linter.all false
set_option maxRecDepth 100000
set_option maxHeartbeats 4000000
namespace L2
open PySem PySem.Spec PyProof.Rows
/-! ### a def of the text by its name and its promise -/
structure FnAt (P : Program) (w : World) (K : PySem.W.Frag) (mg : Str → Option Value) (base : Bs) (CX : CXT) (k : Nat) (x : Str) (sp : Sp) : Prop where
  ex : ∃ (f : Addr) (fd : FuncData) (ps : List Str), mg x = some (.ref f) ∧ PySem.W.keepIn K (.ref f) = true ∧ FnOk P w K mg base CX k f fd ps sp ∧ Binds K fd ps []
theorem FnAt.mono {P : Program} {w : World} {K : PySem.W.Frag} {mg : Str → Option Value} {base : Bs} {CX : CXT} {j k : Nat} {x : Str} {sp : Sp} (h : FnAt P w K mg base CX j x sp) (hk : j ≤ k) : FnAt P w K mg base CX k x sp :=
  ⟨let ⟨f, fd, ps, a, b, c, d⟩ := h.ex; ⟨f, fd, ps, a, b, c.mono hk, d⟩⟩
theorem FnAt.imp {P : Program} {w : World} {K : PySem.W.Frag} {mg : Str → Option Value} {base : Bs} {CX : CXT} {k : Nat} {x : Str} {sp sp' : Sp} (h : FnAt P w K mg base CX k x sp) (hs : ∀ vs H Q E, sp' vs H Q E → sp vs H Q E) : FnAt P w K mg base CX k x sp' :=
  ⟨let ⟨f, fd, ps, a, b, c, d⟩ := h.ex; ⟨f, fd, ps, a, b, c.imp hs, d⟩⟩
def tFn (sp : Sp) (E : XK) (t : TA) : TE := fun σ H Q => t σ H fun vs H1 => sp vs H1 Q E
section
variable {X : Cx} {CX : CXT} {k : Nat} {sp : Sp} {E : XK} {x : Str} {p pos : Pos} {e : Expr} {es : List Expr} {t : TA}
theorem pe_fn (h : FnAt X.prog X.w X.K X.mg X.base CX k x sp) (hr : Room k X.A) (hg : Gl X x) (hx : Passes CX X E) (ha : PA X (e :: es) t) (hdb : (x == ("__debug__" : Str)) = false := by decide)
    (he : starEach (e :: es) X.env = (false, eval e X.env) :: starEach es X.env := by rfl) (hpl : (backTo pos (starEach es X.env)).any (·.1) = false := by rfl) : PE X (.Call (.Name x p) (e :: es) [] pos) (tFn sp E t) := by
  obtain ⟨f, fd, ps, hm, hk, F, hb⟩ := h.ex
  intro pins s σ H Q I hq
  refine pe_call (dvs := []) (ds := []) F hr hg hm hk hb .nil hx ha hdb he hpl pins s σ H Q I ?_
  have e0 : (fun (vs : List V) (H1 : Hp) => sp (vs ++ []) H1 Q E) = fun vs H1 => sp vs H1 Q E := by funext vs H1; rw [List.append_nil]
  show t σ H (fun vs H1 => sp (vs ++ []) H1 Q E)
  rw [e0]
  exact hq
end
/-- a class or an object of the top -/
theorem pe_globR {X : Cx} {x : Str} {a : Addr} {pos : Pos} (hg : Gl X x) (hm : X.mg x = some (.ref a)) (hd : (x == ("__debug__" : Str)) = false := by decide) : PE X (.Name x pos) (tC (.ref a)) := pe_glob (v := .ref a) hg hm rfl hd
/-- a tuple of the top -/
def TopT (K : PySem.W.Frag) (a : Addr) (xs : List V) : Prop := ∃ (o : Obj) (its : Array Value) (n : Nat), K.lookup a = some o ∧ o.cls = .type "tuple" ∧ o.dict = none ∧ o.data = .seq its n ∧ its.size ≤ sizeLine ∧ Vals xs its.toList
theorem TopT.sq {K : PySem.W.Frag} {a : Addr} {xs : List V} (h : TopT K a xs) (H : Hp) : SqT K H a xs := let ⟨o, its, n, h1, h2, _, h3, h4, h5⟩ := h; .inr ⟨o, its, n, h1, h2, h3, h4, h5⟩
theorem TopT.ty {K : PySem.W.Frag} {a : Addr} {xs : List V} (h : TopT K a xs) (H : Hp) : tyV K "tuple" (.ref a) H := let ⟨o, its, n, h1, h2, h0, h3, h4, h5⟩ := h; .inr (.inl ⟨rfl, o, h1, h2, h0⟩)
/-! ### a new instance whose __init__ stores its arguments -/
def newI (H : Hp) (x dx C : Addr) (fs : List (Str × V)) : Hp := upd (upd H dx (.own x)) x (.ins C dx fs)
theorem newI_at {H : Hp} {x dx C : Addr} {fs : List (Str × V)} : newI H x dx C fs x = some (.ins C dx fs) := upd_same
theorem newI_same {H : Hp} {x dx C : Addr} {fs : List (Str × V)} (hx : H x = none) (hd : H dx = none) : Same H (newI H x dx C fs) := fun b o e => by
  unfold newI
  rw [upd_ne (ne_of_none e hx), upd_ne (ne_of_none e hd)]
  exact e
theorem same_upd {H : Hp} {p : Addr} (h : H p = none) (o : HO) : Same H (upd H p o) := fun b u q => by rw [upd_ne (ne_of_none q h)]; exact q
def tNew (C : Addr) (fs : List Str) (t : TA) : TE := fun σ H Q => t σ H fun vs H1 => vs.length = fs.length ∧ ∀ x dx, H1 x = none → H1 dx = none → dx ≠ x → Q (.ref x) (newI H1 x dx C (fs.zip vs))
def spNew (C : Addr) (fs : List Str) : Sp := fun vs H Q _ => ∃ p dx r, vs = .ref p :: r ∧ r.length = fs.length ∧ H p = some (.ins C dx []) ∧ Q .non (upd H p (.ins C dx (fs.zip r)))
structure NewAt (P : Program) (w : World) (K : PySem.W.Frag) (mg : Str → Option Value) (base : Bs) (x : Str) (C : Addr) (fs : List Str) : Prop where
  glob : mg x = some (.ref C)
  cl : Cls K C
  ex : ∃ (f : Addr) (fd : FuncData) (ps : List Str), Mk K C f ∧ FnOk P w K mg base CX0 1 f fd ps (spNew C fs) ∧ Binds K fd ps []
section
variable {X : Cx} {C : Addr} {fs : List Str} {x : Str} {p pos : Pos} {e : Expr} {es : List Expr} {t : TA} {k : Nat}
theorem pe_new (h : NewAt X.prog X.w X.K X.mg X.base x C fs) (hr : Room (k + 2) X.A) (hg : Gl X x) (ha : PA X (e :: es) t) (hdb : (x == ("__debug__" : Str)) = false := by decide)
    (he : starEach (e :: es) X.env = (false, eval e X.env) :: starEach es X.env := by rfl) (hpl : (backTo pos (starEach es X.env)).any (·.1) = false := by rfl) : PE X (.Call (.Name x p) (e :: es) [] pos) (tNew C fs t) := by
  obtain ⟨f, fd, ps, M, F, hb⟩ := h.ex
  intro pins s σ H Q I hq
  refine wpAny_Call_Name_kw (ld_glob I hg h.glob ?_ hdb)
  refine PySem.W.callWith_K (h₀ := X.base) I.ok.mod.kin M.kp (thn (ha pos pins s σ H _ I hq) fun us s1 ⟨vs, H1, I1, r, hl, q⟩ => ⟨I1.kIn, ?_⟩) he hpl
  refine run_make (dvs := []) (ds := []) (E := E0) M F (hr.mono (Nat.le_add_left 2 k)) hb .nil pass0 I1 r fun x dx n1 n2 ne => ?_
  refine ⟨x, dx, vs ++ [], rfl, by rw [List.append_nil]; exact hl, upd_same, rfl, ?_⟩
  rw [List.append_nil, upd_upd]
  exact q x dx n1 n2 ne
end
/-! ### __init__ that stores its arguments: one, two, three fields -/
section
variable {P : Program} {w : World} {K : PySem.W.Frag} {mg : Str → Option Value} {base : Bs} {C f : Addr} {fd : FuncData} {qual : Str} {st : Stmt}
theorem init_ok1 {a : Str} {p1 p2 p3 p4 : Pos} (F : Fun K "__init__" qual st f fd) (hb : defBody st = [.Assign [.Attribute (.Name "self" p1) a p2] (.Name a p3) p4]) (S : FnScope ["self", a] ["self", a] (defScope st))
    (cl : Cls K C) (na : NoAttr K C a) (hd : (a == ("__debug__" : Str)) = false) (hcd : (a == ("__classdict__" : Str)) = false) : FnOk P w K mg base CX0 1 f fd ["self", a] (spNew C [a]) := by
  refine F.ok S (fun vs H Q E h => ?_) (fun cdv A outer s H vs Q E hr h => ?_)
  · obtain ⟨p, dx, r, rfl, hl, _⟩ := h
    match r, hl with | [_], _ => rfl
  · obtain ⟨p, dx, r, rfl, hl, hp, q⟩ := h
    match r, hl with
    | [v], _ =>
      have vis : ∀ x ∈ (["self", a] : List Str), Vis (defScope st) x := fun x hx => (S.par x hx).elim (fun z => .inl z) fun z => .inr (.inl z)
      rw [hb]
      refine ⟨_, pss_one (ps_fld (pe_var (i := 0) rfl (vis "self" (by simp))) (pe_var (i := 1) rfl (vis a (by simp)) hd hcd) rfl), ?_⟩
      exact ⟨v, rfl, _, rfl, p, C, dx, [], rfl, hp, cl, na, by show 0 < 1000; decide, q⟩
theorem init_ok2 {a b : Str} {p1 p2 p3 p4 q1 q2 q3 q4 : Pos} (F : Fun K "__init__" qual st f fd) (hb : defBody st = [.Assign [.Attribute (.Name "self" p1) a p2] (.Name a p3) p4, .Assign [.Attribute (.Name "self" q1) b q2] (.Name b q3) q4])
    (S : FnScope ["self", a, b] ["self", a, b] (defScope st)) (cl : Cls K C) (na : NoAttr K C a) (nb : NoAttr K C b) (hd : (a == ("__debug__" : Str)) = false) (hcd : (a == ("__classdict__" : Str)) = false)
    (hd' : (b == ("__debug__" : Str)) = false) (hcd' : (b == ("__classdict__" : Str)) = false) (ab : ¬ a = b) : FnOk P w K mg base CX0 1 f fd ["self", a, b] (spNew C [a, b]) := by
  refine F.ok S (fun vs H Q E h => ?_) (fun cdv A outer s H vs Q E hr h => ?_)
  · obtain ⟨p, dx, r, rfl, hl, _⟩ := h
    match r, hl with | [_, _], _ => rfl
  · obtain ⟨p, dx, r, rfl, hl, hp, q⟩ := h
    match r, hl with
    | [v, u], _ =>
      have vis : ∀ x ∈ (["self", a, b] : List Str), Vis (defScope st) x := fun x hx => (S.par x hx).elim (fun z => .inl z) fun z => .inr (.inl z)
      rw [hb]
      refine ⟨_, pss_cons (ps_fld (pe_var (i := 0) rfl (vis "self" (by simp))) (pe_var (i := 1) rfl (vis a (by simp)) hd hcd) rfl) (pss_one (ps_fld (pe_var (i := 0) rfl (vis "self" (by simp))) (pe_var (i := 2) rfl (vis b (by simp)) hd' hcd') rfl)), ?_⟩
      refine ⟨v, rfl, _, rfl, p, C, dx, [], rfl, hp, cl, na, (by show 0 < 1000; decide), u, rfl, _, rfl, p, C, dx, _, rfl, upd_same, cl, nb, (by show 1 < 1000; decide), ?_⟩
      have e : putF b u (putF a v []) = [(a, v), (b, u)] := by
        show (if a = b then _ else (a, v) :: putF b u []) = _
        rw [if_neg ab]
        rfl
      rw [upd_upd, e]
      exact q
theorem init_ok3 {a b c : Str} {p1 p2 p3 p4 q1 q2 q3 q4 r1 r2 r3 r4 : Pos} (F : Fun K "__init__" qual st f fd) (hb : defBody st = [.Assign [.Attribute (.Name "self" p1) a p2] (.Name a p3) p4, .Assign [.Attribute (.Name "self" q1) b q2] (.Name b q3) q4, .Assign [.Attribute (.Name "self" r1) c r2] (.Name c r3) r4])
    (S : FnScope ["self", a, b, c] ["self", a, b, c] (defScope st)) (cl : Cls K C) (na : NoAttr K C a) (nb : NoAttr K C b) (nc : NoAttr K C c) (hd : (a == ("__debug__" : Str)) = false) (hcd : (a == ("__classdict__" : Str)) = false)
    (hd' : (b == ("__debug__" : Str)) = false) (hcd' : (b == ("__classdict__" : Str)) = false) (hd'' : (c == ("__debug__" : Str)) = false) (hcd'' : (c == ("__classdict__" : Str)) = false) (ab : ¬ a = b) (ac : ¬ a = c) (bc : ¬ b = c) : FnOk P w K mg base CX0 1 f fd ["self", a, b, c] (spNew C [a, b, c]) := by
  refine F.ok S (fun vs H Q E h => ?_) (fun cdv A outer s H vs Q E hr h => ?_)
  · obtain ⟨p, dx, r, rfl, hl, _⟩ := h
    match r, hl with | [_, _, _], _ => rfl
  · obtain ⟨p, dx, r, rfl, hl, hp, q⟩ := h
    match r, hl with
    | [v, u, z], _ =>
      have vis : ∀ x ∈ (["self", a, b, c] : List Str), Vis (defScope st) x := fun x hx => (S.par x hx).elim (fun z => .inl z) fun z => .inr (.inl z)
      have e : putF b u (putF a v []) = [(a, v), (b, u)] := by
        show (if a = b then _ else (a, v) :: putF b u []) = _
        rw [if_neg ab]
        rfl
      rw [hb]
      refine ⟨_, pss_cons (ps_fld (pe_var (i := 0) rfl (vis "self" (by simp))) (pe_var (i := 1) rfl (vis a (by simp)) hd hcd) rfl) (pss_cons (ps_fld (pe_var (i := 0) rfl (vis "self" (by simp))) (pe_var (i := 2) rfl (vis b (by simp)) hd' hcd') rfl) (pss_one (ps_fld (pe_var (i := 0) rfl (vis "self" (by simp))) (pe_var (i := 3) rfl (vis c (by simp)) hd'' hcd'') rfl))), ?_⟩
      refine ⟨v, rfl, _, rfl, p, C, dx, [], rfl, hp, cl, na, (by show 0 < 1000; decide), u, rfl, _, rfl, p, C, dx, _, rfl, upd_same, cl, nb, (by show 1 < 1000; decide), z, rfl, _, rfl, p, C, dx, _, rfl, upd_same, cl, nc, ?_, ?_⟩
      · rw [e]; show 2 < 1000; decide
      · have e' : putF c z [(a, v), (b, u)] = [(a, v), (b, u), (c, z)] := by
          show (if a = c then _ else (a, v) :: (if b = c then _ else (b, u) :: putF c z [])) = _
          rw [if_neg ac, if_neg bc]
          rfl
        rw [upd_upd, upd_upd, e, e']
        exact q
end
end L2
end
section
set_option Elab.async false
set_option linter.all false
set_option maxRecDepth 100000
set_option maxHeartbeats 4000000
namespace L2
open PySem PySem.Spec PyProof.Rows
/-- an iterator over known values that new objects don't change -/
structure Walks1 (J : It) (H1 : Hp) (xs : List V) : Prop where
  go : ∀ i x H', xs[i]? = some x → Same H1 H' → J.go i H'
  yld : ∀ i x y H' H2, xs[i]? = some x → Same H1 H' → J.yld i H' y H2 → H2 = H' ∧ y = x
  stop : ∀ H', Same H1 H' → J.stop xs.length H'
def rngV (lo : Int) (n : Nat) : List V := (List.range n).map fun (i : Nat) => V.int (lo + (i : Int))
theorem rngV_at {lo : Int} {n i : Nat} (h : i < n) : (rngV lo n)[i]? = some (.int (lo + (i : Int))) := by
  unfold rngV
  rw [List.getElem?_map, List.getElem?_range h]
  rfl
theorem rngV_len {lo : Int} {n : Nat} : (rngV lo n).length = n := by unfold rngV; simp
end L2
end
section
set_option Elab.async false
set_option linter.all false
set_option maxRecDepth 100000
set_option maxHeartbeats 4000000
namespace L2
open PySem PySem.Spec PyProof.Rows
/-! ### what the top has written, in bundles -/
structure ClsF (K : PySem.W.Frag) (C : Addr) : Prop where
  pg : PySem.W.plainGet K C Str.empty = true
  hd : PySem.W.hasDictIn K C = true
  po : PySem.W.plainOver K C = true
  sa : PySem.W.findIn K (.ref C) "__setattr__" = some (some (.builtin "object.__setattr__"))
  ca : PySem.W.findIn K (.ref C) "__class__" = some (some (.builtin "object.__class__"))
  cs : PySem.W.specialIn K (.builtin "object.__class__") "__get__" = some (some (.builtin "getset_descriptor.__get__"))
  ct : PySem.W.takesIn K (.builtin "object.__class__") = some true
  cm : PySem.W.mroIn K C (.type "object") = some true
  mks : PySem.W.makesIn K C = true
  kp : PySem.W.keepIn K (.ref C) = true
theorem ClsF.cls {K : PySem.W.Frag} {C : Addr} (h : ClsF K C) : Cls K C := ⟨h.pg, h.hd, h.po, h.sa⟩
theorem ClsF.ty {K : PySem.W.Frag} {C : Addr} (h : ClsF K C) {H : Hp} {a dx : Addr} {fs : List (Str × V)} (e : H a = some (.ins C dx fs)) : TyOf K H (.ref a) (.ref C) := .ins e h.cls h.ca h.cs h.ct h.cm
def FnF (K : PySem.W.Frag) (f : Addr) (x qual : Str) (st : Stmt) : Prop := ∃ fd, Fun K x qual st f fd
theorem fnf_mk {K : PySem.W.Frag} {x qual : Str} {st : Stmt} {f : Addr} {oc : Value} {od an : Option Addr} {osl : Array (Option Value)} {kV doc pm cdv ct : Value} (l : K.lookup f = some ⟨oc, od, .func (PySem.W.fnOf x qual (defArgs st) (defBody st) (defScope st) .none kV doc pm an cdv ct), osl⟩)
    (c : PySem.W.codeIn K cdv qual = true) (k : PySem.W.keepIn K (.ref f) = true) : FnF K f x qual st := ⟨_, fun_mk l c k⟩
theorem topT_mk {K : PySem.W.Frag} {a : Addr} {its : Array Value} {n : Nat} {sl : Array (Option Value)} {xs : List V} (l : K.lookup a = some ⟨.type "tuple", none, .seq its n, sl⟩) (hs : its.size ≤ sizeLine) (hv : Vals xs its.toList) : TopT K a xs :=
  ⟨_, its, n, l, rfl, rfl, rfl, hs, hv⟩
/-- a def that can't be asked anything -/
theorem fn_none {P : Program} {w : World} {K : PySem.W.Frag} {mg : Str → Option Value} {base : Bs} {CX : CXT} {k : Nat} {f : Addr} {fd : FuncData} {ps : List Str} {sp : Sp} (no : ∀ vs H Q E, ¬ sp vs H Q E) : FnOk P w K mg base CX k f fd ps sp :=
  ⟨fun vs H Q E h => absurd h (no vs H Q E), fun A outer s H args us vs Q E _ _ _ _ h => absurd h (no vs H Q E)⟩
/-- a def of the top -/
structure DefF (K : PySem.W.Frag) (mg : Str → Option Value) (x : Str) (st : Stmt) (ps : List Str) (f : Addr) (fd : FuncData) : Prop where
  F : Fun K x x st f fd
  b : Binds K fd ps []
  m : mg x = some (.ref f)
theorem DefF.at {P : Program} {w : World} {K : PySem.W.Frag} {mg : Str → Option Value} {base : Bs} {k : Nat} {x : Str} {st : Stmt} {ps : List Str} {f : Addr} {fd : FuncData} {sp : Sp} (h : DefF K mg x st ps f fd) (G : FnOk P w K mg base CX0 k f fd ps sp) :
    FnAt P w K mg base CX0 k x sp := ⟨f, fd, ps, h.m, h.F.kp, G, h.b⟩
end L2
end
section
set_option Elab.async false
set_option linter.all false
set_option maxRecDepth 100000
set_option maxHeartbeats 4000000
namespace L2
open PySem PySem.Spec PyProof.Rows
section
variable {X : Cx}
/-- an int of the top -/
theorem pe_globI {x : Str} {i : Int} {tk : Tok} {pos : Pos} (hg : Gl X x) (hm : X.mg x = some (.int i tk)) (hd : (x == ("__debug__" : Str)) = false := by decide) : PE X (.Name x pos) (tC (.int i)) := pe_glob (v := .int i) hg hm ⟨_, rfl⟩ hd
end
end L2
end
section
set_option Elab.async false
set_option linter.all false
set_option maxRecDepth 100000
set_option maxHeartbeats 4000000
/-! Defs within defs, and lambdas: made, called -/
namespace L2
open PySem PySem.Spec PyProof.Rows
/-- a def within a def (or a lambda) as it is written; free: the names it takes from around -/
structure Nst where
  params : Arguments
  body : FuncBody
  scope : Scope
  free : List Str
abbrev fnY (n : Nst) (nm qual : Str) (cl : List (Str × Addr)) (doc pm cdv ct : Value) : FuncData :=
  { name := nm, qualname := qual, params := n.params, body := n.body, scope := n.scope, globals := mainGlobals, closure := cl, defaults := .none, kwdefaults := .none, doc := doc, pyModule := pm, annotations := none, code := cdv, closureTuple := ct, builtins := builtinsNs }
/-- the function object at q, its cells -/
def CloAt (n : Nst) (H : Hp) (q : Addr) (cl : List (Str × Addr)) : Prop :=
  ∃ (o : Obj) (u : HO) (nm qual : Str) (doc pm : Value) (cc : Addr) (ct : Value) (oc : Obj) (u2 : HO), H q = some (.frz o u) ∧ o.cls = .type "function" ∧ o.data = .func (fnY n nm qual cl doc pm (.ref cc) ct) ∧ H cc = some (.frz oc u2) ∧ CodeO oc
structure CellsAt (H : Hp) (free : List Str) (cl : List (Str × Addr)) (vs : List V) : Prop where
  len : free.length = vs.length
  val : ∀ (i : Nat) x v, free[i]? = some x → vs[i]? = some v → ∃ c ob u w, cl.lookup x = some c ∧ H c = some (.frz ob u) ∧ ob.data = .cell (some w) ∧ RelV v w
  sub : ∀ x c, cl.lookup x = some c → x ∈ free
  inj : ∀ x y c, cl.lookup x = some c → cl.lookup y = some c → x = y
/-- what is known stays known -/
theorem CloAt.keep {n : Nst} {H H' : Hp} {q : Addr} {cl : List (Str × Addr)} (h : CloAt n H q cl) (k : ∀ a o u, H a = some (.frz o u) → H' a = some (.frz o u)) : CloAt n H' q cl :=
  let ⟨o, u, nm, qual, doc, pm, cc, ct, oc, u2, e1, e2, e3, e4, e5⟩ := h
  ⟨o, u, nm, qual, doc, pm, cc, ct, oc, u2, k _ _ _ e1, e2, e3, k _ _ _ e4, e5⟩
theorem CellsAt.keep {H H' : Hp} {fr : List Str} {cl : List (Str × Addr)} {vs : List V} (h : CellsAt H fr cl vs) (k : ∀ a o u, H a = some (.frz o u) → H' a = some (.frz o u)) : CellsAt H' fr cl vs :=
  ⟨h.len, fun i x v e1 e2 => let ⟨c, ob, u, w, a1, a2, a3, a4⟩ := h.val i x v e1 e2; ⟨c, ob, u, w, a1, k _ _ _ a2, a3, a4⟩, h.sub, h.inj⟩
theorem CellsAt.some {H : Hp} {fr : List Str} {cl : List (Str × Addr)} {vs : List V} (h : CellsAt H fr cl vs) {x : Str} (hx : x ∈ fr) : ∃ c ob u w, cl.lookup x = some c ∧ H c = some (.frz ob u) ∧ ob.data = .cell (some w) := by
  obtain ⟨i, hi, e⟩ := List.getElem_of_mem hx
  have hi' : i < vs.length := by rw [← h.len]; exact hi
  obtain ⟨c, ob, u, w, a1, a2, a3, _⟩ := h.val i x vs[i] (by rw [List.getElem?_eq_getElem hi, e]) (List.getElem?_eq_getElem hi')
  exact ⟨c, ob, u, w, a1, a2, a3⟩
/-! ### the body's context -/
def cxN (CX : CXT) (P : Program) (w : World) (K : PySem.W.Frag) (mg : Str → Option Value) (base : Bs) (N : List Str) (qual : Str) (scope : Scope) (f : Addr) (cd : Value) (cl : List (Str × Addr)) (A : Around) (outer : List Env) (s : Shared) (H : Hp) (E : XK) : Cx where
  prog := P
  w := w
  K := K
  mg := mg
  base := base
  A := A.deeper (PySem.W.envX qual scope s.heap.objs.size f cd cl)
  N := N
  s₀ := s
  H₀ := H
  env := PySem.W.envX qual scope s.heap.objs.size f cd cl
  outer := outer
  stack := PySem.W.envX qual scope s.heap.objs.size f cd cl :: outer
  ex := []
  calm := true
  fn := fun _ => false
  cw := fun _ => false
  pn := []
  xe := fun e s' => wpAny (model P w) (A.deeper (PySem.W.envX qual scope s.heap.objs.size f cd cl)) (leaving (PySem.W.envX qual scope s.heap.objs.size f cd cl) e) (fun _ s'' => CX outer H s E e s'') (fun e' s'' => CX outer H s E e' s'') s'
structure NScope (N P F : List Str) (sc : Scope) : Prop where
  kind : sc.kind = .function
  co : sc.isCoroutine = false
  gen : sc.isGenerator = false
  nd : N.Nodup
  pre : N.take (P ++ F).length = P ++ F
  par : ∀ x ∈ P, sc.names.lookup x = some .local
  fre : ∀ x ∈ F, sc.names.lookup x = some .free
  nocell : ∀ y ∈ sc.names, y.2 ≠ .cell
  allf : ∀ y ∈ sc.names, y.2 = .free → y.1 ∈ F
theorem rev_zip : ∀ {ps : List Str} {us : List Value} {i : Nat} {x : Str} {u : Value}, ps.Nodup → ps[i]? = some x → us[i]? = some u → (ps.zip us).reverse.lookup x = some u
  | [], us, i, x, u, _, h, _ => by simp at h
  | p :: ps, [], i, x, u, _, _, h => by simp at h
  | p :: ps, w :: us, 0, x, u, nd, h1, h2 => by
    simp at h1 h2
    subst h1 h2
    have hn : (ps.zip us).reverse.lookup p = none := by
      rw [List.lookup_eq_none_iff]
      intro q hq
      have := (List.of_mem_zip (List.mem_reverse.mp hq)).1
      simp only [bne_iff_ne, ne_eq, beq_eq_false_iff_ne]
      intro z
      rw [← z] at this
      exact (List.nodup_cons.mp nd).1 this
    rw [List.zip_cons_cons, List.reverse_cons, List.lookup_append, hn]
    simp [List.lookup]
  | p :: ps, w :: us, i + 1, x, u, nd, h1, h2 => by
    have ih := rev_zip (i := i) (List.nodup_cons.mp nd).2 (by simpa using h1) (by simpa using h2)
    rw [List.zip_cons_cons, List.reverse_cons, List.lookup_append, ih]
    rfl
theorem inv_startN {CX : CXT} {P : Program} {w : World} {K : PySem.W.Frag} {mg : Str → Option Value} {base : Bs} {N ps fr : List Str} {qual : Str} {scope : Scope} {f : Addr} {cd : Value} {cl : List (Str × Addr)} {A : Around} {outer : List Env} {s : Shared} {h1 : Heap} {tk : Nat} {H : Hp} {E : XK} {us : List Value} {vs cv : List V}
    (S : NScope N ps fr scope) (hd : A.handled = none) (e0 : Env0 P w K mg base A outer s H) (hl : vs.length = ps.length) (r : Vals vs us) (C : CellsAt H fr cl cv)
    (hns : h1.Ns s.heap.objs.size (fun y => (ps.zip us).reverse.lookup y)) (hk : ∀ b o, s.heap.get? b = some o → h1.get? b = some o) :
    Inv (cxN CX P w K mg base N qual scope f cd cl A outer s H E) [] (start N (vs ++ cv)) H { s with heap := h1, toks := tk } := by
  have hcl : ∀ x c, cl.lookup x = some c → ∃ ob u w, H c = some (.frz ob u) ∧ ob.data = .cell (some w) := fun x c e => by
    obtain ⟨c', ob, u, w, a1, a2, a3⟩ := C.some (C.sub x c e)
    rw [e] at a1; cases a1
    exact ⟨ob, u, w, a2, a3⟩
  have cell : ∀ c ob u w, H c = some (.frz ob u) → ob.data = .cell (some w) → h1.IsCell c (some w) := fun c ob u w a2 a3 => by
    obtain ⟨e, _⟩ := e0.hok c _ a2
    exact ⟨ob, hk _ _ e, a3⟩
  have noA : ∀ b : Addr, b ∉ (cxN CX P w K mg base N qual scope f cd cl A outer s H E).ex := fun b z => absurd (show b ∈ ([] : List Addr) from z) (by simp)
  have hpl : (ps ++ fr).length ≤ N.length := by have := congrArg List.length S.pre; rw [List.length_take] at this; omega
  have hvl : (vs ++ cv).length = (ps ++ fr).length := by rw [List.length_append, List.length_append, hl, C.len]
  refine ⟨⟨e0.mod, S.kind, rfl, rfl, Nat.le_refl _, C.inj, fun y hy => ?_, (fun y c z => nomatch z), fun _ => hd, Around.frames_deeper e0.frames, .inr ⟨rfl, rfl⟩, fun b z => absurd z (noA b), e0.bs, e0.bsz, fun b _ _ => noA b, fun b z => absurd z (noA b), e0.funs, e0.frf, e0.tab, fun _ z => nomatch z⟩,
    rfl, e0.bare, Un.kept hk, ⟨_, hns, fun i y v h1 h2 h3 => ?_⟩, fun y c h => ?_, e0.hok.fresh (Nat.le_refl _), fun y c h => ?_, fun p hp => absurd (show p ∈ ([] : List (Addr × Obj)) from hp) (by simp), e0.hok.kept hk, ?_⟩
  · have hy : scope.names.lookup y = some .cell ∨ scope.names.lookup y = some .free := hy
    rcases hy with hy | hy
    · exact absurd rfl (S.nocell _ (PySem.mem_of_lookup hy))
    · obtain ⟨c, _, _, _, a1, _⟩ := C.some (S.allf _ (PySem.mem_of_lookup hy) rfl)
      exact ⟨c, a1⟩
  · have hi : i < (vs ++ cv).length := by
      unfold start at h2
      by_cases hi : i < (vs ++ cv).length
      · exact hi
      · rw [List.getElem?_append_right (by simpa using hi)] at h2
        rw [List.getElem?_replicate] at h2
        split at h2 <;> cases h2
    have ha : (vs ++ cv)[i]? = some v := by
      unfold start at h2
      rw [List.getElem?_append_left (by simpa using hi), List.getElem?_map] at h2
      cases e : (vs ++ cv)[i]? with
      | none => rw [e] at h2; cases h2
      | some a => rw [e] at h2; cases h2; rfl
    have hp : (ps ++ fr)[i]? = some y := by
      rw [← S.pre, List.getElem?_take_of_lt (by omega)]; exact h1
    have ndP : (ps ++ fr).Nodup := by rw [← S.pre]; exact S.nd.sublist (List.take_sublist _ _)
    by_cases hv : i < vs.length
    · rw [List.getElem?_append_left hv] at ha
      rw [List.getElem?_append_left (by omega)] at hp
      obtain ⟨u, hu, rv⟩ := r.get ha
      exact ⟨u, rv, .inl ⟨S.par y (List.mem_of_getElem? hp), rev_zip (List.nodup_append.mp ndP).1 hp hu⟩⟩
    · rw [List.getElem?_append_right (by omega)] at ha hp
      rw [← hl] at hp
      obtain ⟨c, ob, u, w, a1, a2, a3, a4⟩ := C.val _ y v hp ha
      exact ⟨w, a4, .inr ⟨.inr (S.fre y (List.mem_of_getElem? hp)), c, a1, cell c ob u w a2 a3⟩⟩
  · obtain ⟨ob, u, w, a2, a3⟩ := hcl y c h
    exact ⟨_, cell c ob u w a2 a3⟩
  · obtain ⟨ob, u, w, a2, _⟩ := hcl y c h
    exact .inr ⟨rfl, ob, u, a2⟩
  · unfold start
    show _ = N.length
    rw [List.length_append, List.length_map, List.length_replicate]
    omega
/-! ### a function is called: the frame's name is what its code says -/
section
variable {P : Program} {w : World} {A : Around} {s : Shared} {R : Result → Shared → Prop} {a : Addr} {args : Args} {o oc : Obj} {fd : FuncData} {cc : Addr} {fv : Array Value} {q : Str} {tq : Tok}
theorem call_ownE {body : Expr} (hroom : A.depth < recursionLimit) (ho : s.heap.get? a = some o) (hd : o.data = .func fd) (hco : fd.scope.isCoroutine = false) (hgen : fd.scope.isGenerator = false)
    (hc : fd.code = .ref cc) (hoc : s.heap.get? cc = some oc) (hdc : oc.data = .fields fv) (hq : fv[1]? = some (.str q tq)) (hbody : fd.body = .expr body)
    (h : wpAny (model P w) A.in1 (bindArgs fd args) (fun binds s1 => wpAny (model P w) A.in1 (newFunctionEnv fd.scope fd.globals fd.closure binds (q ++ ".<locals>.") (some a) (.ref cc) none fd.builtins)
        (fun env s2 => s2.heap.NoLimit ∧ codeAny (model P w) A (.expr body env) R s2) (fun e s' => R (.error e) s') s1) (fun e s' => R (.error e) s') s) : codeAny (model P w) A (.call (.ref a) args) R s := by
  refine codeAny_of_tree (show wpAny _ A.in1 (callAny (.ref a) args) _ _ s from ?_)
  unfold callAny
  refine wpAny_bind (wpAny_load ho ?_)
  simp only [hd, callFunction, hco, hgen, hbody, hc]
  refine wpAny_bind (m := field (.ref cc) 1) (wpAny_field hoc hdc hq (wpAny_bind (wpAny_pure (wpAny_bind (wpAny_mono h (fun binds s1 h1 => ?_) fun _ _ z => z)))))
  exact wpAny_bind (wpAny_mono h1 (fun env s2 h2 => wpAny_bind (wpAny_enterFrame h2.1 hroom (wpAny_pure ⟨rfl, h2.2⟩))) fun _ _ z => z)
end
/-- a promise of the arguments and of what the cells hold -/
abbrev SpN := List V → List V → Hp → VK → XK → Prop
structure ClOk (P : Program) (w : World) (K : PySem.W.Frag) (mg : Str → Option Value) (base : Bs) (CX : CXT) (k : Nat) (n : Nst) (sp : SpN) : Prop where
  run : ∀ (A : Around) (outer : List Env) (s : Shared) (H : Hp) (q : Addr) (cl : List (Str × Addr)) (us : List Value) (vs cv : List V) (Q : VK) (E : XK), Room k A → Env0 P w K mg base A outer s H → CloAt n H q cl → CellsAt H n.free cl cv → Vals vs us → sp vs cv H Q E →
    codeAny (model P w) A (.call (.ref q) ⟨us, []⟩) (CR CX outer P w H s Q E) s
section
variable {CX : CXT} {P : Program} {w : World} {K : PySem.W.Frag} {mg : Str → Option Value} {base : Bs} {k : Nat} {n : Nst} {N ps : List Str} {sp : SpN}
theorem clo_ofE {body : Expr} (hb : n.body = .expr body) (S : NScope N ps n.free n.scope) (len : ∀ vs cv H Q E, sp vs cv H Q E → vs.length = ps.length)
    (hbind : ∀ (nm qual : Str) (cl : List (Str × Addr)) (doc pm cdv ct : Value) (us : List Value), us.length = ps.length → bindArgs (fnY n nm qual cl doc pm cdv ct) ⟨us, []⟩ = pure (ps.zip us))
    (hbody : ∀ (qual : Str) (cd : Value) (cl : List (Str × Addr)) (f : Addr) (A : Around) (outer : List Env) (s : Shared) (H : Hp) (vs cv : List V) (Q : VK) (E : XK), Room k (A.deeper (PySem.W.envX qual n.scope s.heap.objs.size f cd cl)) → CellsAt H n.free cl cv → sp vs cv H Q E →
      ∃ t, PE (cxN CX P w K mg base N qual n.scope f cd cl A outer s H E) body t ∧ t (start N (vs ++ cv)) H Q) : ClOk P w K mg base CX (k + 1) n sp := by
  refine ⟨fun A outer s H q cl us vs cv Q E hr e0 hc hce r hsp => ?_⟩
  obtain ⟨o, u, nm, qual, doc, pm, cc, ct, oc, u2, e1, e2, e3, e4, fv, fq, tq, e5, e6⟩ := hc
  obtain ⟨g1, _⟩ := e0.hok q _ e1
  obtain ⟨g2, _⟩ := e0.hok cc _ e4
  have lim : s.heap.NoLimit := e0.mod.nolimit.keeps fun b o e => (e0.bs b o e).1
  have hlu : us.length = ps.length := by rw [← r.length]; exact len _ _ _ _ _ hsp
  refine call_ownE hr.depth g1 e3 S.co S.gen rfl g2 e5 e6 hb ?_
  rw [hbind _ _ _ _ _ _ _ _ hlu]
  refine wpAny_pure (wpAny_newFunctionEnv S.nocell (fun x hx => S.par x.1 (List.of_mem_zip (show (x.1, x.2) ∈ ps.zip us from hx)).1) (fun h1 hns hsb => ⟨lim.fresh _ hsb, PySem.W.kla_codeExpr ?_⟩) S.kind)
  have hk : ∀ b o, s.heap.get? b = some o → h1.get? b = some o := fun b o e => hsb.extBut b o (Nat.ne_of_lt (Heap.lt_size e)) (Heap.get?_push_of_some _ e)
  obtain ⟨t, ht, hq⟩ := hbody fq (.ref cc) cl q A outer s H vs cv Q E (hr.deeper _) hce hsp
  have I := inv_startN (CX := CX) (N := N) (qual := fq) (f := q) (cd := .ref cc) (E := E) (tk := s.toks + (ps.zip us).length) S hr.hd e0 (len _ _ _ _ _ hsp) r hce hns hk
  exact wpAny_mono (ht [] _ _ H _ I hq) (fun u s' ⟨v, H', J, rv, q⟩ => ⟨v, H', J.os, J.bare, J.base, J.hok, rv, q⟩) fun e s' hs => hs
end
/-! ### x(..), x.a(..): x, or its attribute, holds a function -/
section
variable {X : Cx} {CX : CXT} {k : Nat} {E : XK} {x m : Str} {p pos apos : Pos} {e o : Expr} {es : List Expr} {ta : TE} {t : TA} {ι : Type} {nn : ι → Nst} {sp : ι → SpN}
def tCallV (nn : ι → Nst) (sp : ι → SpN) (E : XK) (t : TA) (σ : St) (H : Hp) (x : V) (Q : VK) : Prop := ∃ (i : ι) (q : Addr) (cl : List (Str × Addr)) (cv : List V), x = .ref q ∧ CloAt (nn i) H q cl ∧ t σ H fun vs H2 => CloAt (nn i) H2 q cl ∧ CellsAt H2 (nn i).free cl cv ∧ sp i vs cv H2 Q E
theorem CloAt.fn {pins : List (Addr × Obj)} {σ : St} {H : Hp} {s : Shared} {n : Nst} {q : Addr} {cl : List (Str × Addr)} (I : Inv X pins σ H s) (h : CloAt n H q cl) : PySem.W.FnAt q s.heap := by
  obtain ⟨o, u, nm, qual, doc, pm, cc, ct, oc, u2, e1, e2, e3, _⟩ := h
  obtain ⟨g, _⟩ := I.hok q _ e1
  obtain ⟨c, d, dt, sl⟩ := o
  exact ⟨c, d, _, sl, by rw [g]; exact congrArg (fun z => some (Obj.mk c d z sl)) e3⟩
theorem run_clo {pins : List (Addr × Obj)} {σ : St} {H : Hp} {s : Shared} {Q : VK} {us : List Value} {vs cv : List V} {n : Nst} {sp : SpN} {q : Addr} {cl : List (Str × Addr)} (F : ClOk X.prog X.w X.K X.mg X.base CX k n sp) (hr : Room k X.A) (hx : Passes CX X E)
    (I : Inv X pins σ H s) (hc : CloAt n H q cl) (hce : CellsAt H n.free cl cv) (r : Vals vs us) (h : sp vs cv H Q E) : wpAny (model X.prog X.w) X.A (call (.ref q) us) (EP X pins σ Q) X.xe s := by
  refine wpAny_call (codeAny_mono (F.run X.A X.stack s H q cl us vs cv Q E hr I.env0 hc hce r h) fun r s' hq => ?_)
  cases r with
  | error e => exact hx pins σ H s e s' I hq
  | ok fl =>
    cases fl with
    | ret u => exact I.after hq
    | next => exact False.elim hq
    | brk => exact False.elim hq
    | cont => exact False.elim hq
theorem pe_callV (hf : PE X (.Name x p) ta) (F : ∀ i, ClOk X.prog X.w X.K X.mg X.base CX k (nn i) (sp i)) (hr : Room k X.A) (hx : Passes CX X E) (ha : PA X (e :: es) t)
    (hst : starEach (e :: es) X.env = (false, eval e X.env) :: starEach es X.env := by rfl) (hpl : (backTo pos (starEach es X.env)).any (·.1) = false := by rfl) :
    PE X (.Call (.Name x p) (e :: es) [] pos) (fun σ H Q => ta σ H fun v H1 => tCallV nn sp E t σ H1 v Q) := by
  intro pins s σ H Q I h
  refine wpAny_Call_Name_kw (thn (hf pins s σ H _ I h) fun u s1 ⟨v, H1, I1, rv, i, q, cl, cv, ev, hc, h1⟩ => ?_)
  subst ev
  obtain rfl : u = Value.ref q := rv
  exact PySem.W.callWith_F (hc.fn I1) (thn (ha pos pins s1 σ H1 _ I1 h1) fun us s2 ⟨vs, H2, I2, r, hc2, hce, h2⟩ => ⟨hc2.fn I2, run_clo (F i) hr hx I2 hc2 hce r h2⟩) hst hpl
theorem pe_callA {pl : Sem Bool} (he : PE X o ta) (F : ∀ i, ClOk X.prog X.w X.K X.mg X.base CX k (nn i) (sp i)) (hr : Room k X.A) (hx : Passes CX X E) (ha : PA X (e :: es) t)
    (hst : starEach (e :: es) X.env = (false, eval e X.env) :: starEach es X.env := by rfl) (hpl : (backTo pos (starEach es X.env)).any (·.1) = false := by rfl)
    (ht : eval (.Call (.Attribute o m apos) (e :: es) [] pos) X.env = (do
      let ov ← eval o X.env
      standAt apos.atName
      let (f, first) ← holding [ov] (getMethod ov m pl)
      callWith pos f first (backTo pos (starEach (e :: es) X.env)) (backToKw pos (keywordEach [] X.env))) := by rfl) :
    PE X (.Call (.Attribute o m apos) (e :: es) [] pos) (fun σ H Q => ta σ H fun v H1 => ∃ a C dx fs u, v = .ref a ∧ H1 a = some (.ins C dx fs) ∧ Cls X.K C ∧ NoAttr X.K C m ∧ fs.lookup m = some u ∧ tCallV nn sp E t σ H1 u Q) := by
  intro pins s σ H Q I h
  refine PySem.W.methodCall_KW (pl := pl) (thn (he pins s σ H _ I h) fun u s1 ⟨v, H1, I1, rv, a, C, dx, fs, y, ev, ea, hC, hn, hl, h2⟩ => ?_) ht
  subst ev
  obtain rfl : u = Value.ref a := rv
  obtain ⟨mA, O, r, _, _, _⟩ := ins_get I1.hok ea
  obtain ⟨od, J, _⟩ := O.look
  refine PySem.W.method_usual I1.kIn J (PySem.W.plainGet_of (hC.get m)).1 (PySem.W.plainGet_of (hC.get m)).2 hn rfl (getattr_ok I1 ea hC hn hl fun z s2 I2 rz => ?_)
  obtain ⟨i, q, cl, cv, eq, hc, h1⟩ := h2
  subst eq
  obtain rfl : z = Value.ref q := rz
  exact PySem.W.callWith_F (hc.fn I2) (thn (ha pos pins s2 σ H1 _ I2 h1) fun us s3 ⟨vs, H2, I3, r, hc2, hce, h3⟩ => ⟨hc2.fn I3, run_clo (F i) hr hx I3 hc2 hce r h3⟩) hst hpl
end
end L2
end
section
set_option Elab.async false
set_option linter.all false
set_option maxRecDepth 100000
set_option maxHeartbeats 4000000
namespace L2
open PySem PySem.Spec PyProof.Rows
section
variable {X : Cx} {pins : List (Addr × Obj)} {σ : St} {H : Hp} {s : Shared}
/-! ### a cell of this frame that is not stored to any more -/
theorem Inv.seal (I : Inv X pins σ H s) {x : Str} {c : Addr} (hx : X.env.cells.lookup x = some c) (hf : X.fn x = false) (hw : X.cw x = true) :
    ∃ H', Inv X pins σ H' s ∧ (∀ a o, H a = some o → H' a = some o) ∧ ∃ ob u, H' c = some (.frz ob u) := by
  obtain ⟨v, ob, hob, hd⟩ := I.cell x c hx
  rcases I.freeC x c hx with hc | ⟨_, o, u, hc⟩
  · have ne : ∀ {b : Addr} {o : HO}, H b = some o → b ≠ c := fun {b o} e z => by rw [z, hc] at e; cases e
    refine ⟨upd H c (.frz ob (.own 0)), ⟨I.ok, I.os, I.bare, ⟨I.base.keep, I.base.slot, fun b o e n hb => ?_, I.base.there, fun b xs e => ?_, fun b o u e => ?_, fun b q e => ?_⟩, I.loc, I.cell, ?_, fun y c' e => ?_, fun p hp => ?_, fun b o e => ?_, I.len⟩, fun a o e => ?_, ob, .own 0, upd_same⟩
    · rw [upd_ne (Nat.ne_of_lt (Nat.lt_of_lt_of_le (Heap.lt_size e) (I.ok.cab x c hw hx)))]
      exact I.base.free b o e n hb
    · have := I.base.tups b xs e; rw [upd_ne (ne this)]; exact this
    · have := I.base.frzs b o u e; rw [upd_ne (ne this)]; exact this
    · have := I.base.tbls b q e; rw [upd_ne (ne this)]; exact this
    · rw [upd_ne (Ne.symm (I.cne x c hx))]; exact I.free
    · by_cases h : c' = c
      · subst h
        have : y = x := I.ok.inj y x c' e hx
        subst this
        exact .inr ⟨hf, ob, .own 0, upd_same⟩
      · rw [upd_ne h]; exact I.freeC y c' e
    · obtain ⟨e, n, ne', nf, d⟩ := I.pin p hp
      have : p.1 ≠ c := fun z => by
        rw [z, hob] at e
        have q : ob = p.2 := Option.some.inj e
        exact d v (by rw [← q]; exact hd)
      exact ⟨e, by rw [upd_ne this]; exact n, ne', nf, d⟩
    · by_cases h : b = c
      · subst h; rw [upd_same] at e; cases e; exact ⟨hob, ob, hob⟩
      · rw [upd_ne h] at e
        exact (I.hok b o e).stay (fun _ _ _ q => q) (fun d q => by rw [upd_ne (ne q)]; exact q) (fun d xs q => by rw [upd_ne (ne q)]; exact q) fun d o u q => by rw [upd_ne (ne q)]; exact q
    · rw [upd_ne (ne e)]; exact e
  · exact ⟨H, I, fun _ _ e => e, o, u, hc⟩
theorem Inv.sealAll : ∀ (fr : List Str) {H : Hp}, Inv X pins σ H s → (∀ x ∈ fr, (∃ c, X.env.cells.lookup x = some c) ∧ X.fn x = false ∧ X.cw x = true) →
    ∃ H', Inv X pins σ H' s ∧ (∀ a o, H a = some o → H' a = some o) ∧ ∀ x ∈ fr, ∃ c ob u, X.env.cells.lookup x = some c ∧ H' c = some (.frz ob u)
  | [], H, I, _ => ⟨H, I, fun _ _ e => e, fun x hx => absurd hx (by simp)⟩
  | y :: fr, H, I, h => by
    obtain ⟨⟨c, hc⟩, hf, hw⟩ := h y List.mem_cons_self
    obtain ⟨H1, I1, s1, ob, u, e1⟩ := I.seal hc hf hw
    obtain ⟨H2, I2, s2, e2⟩ := Inv.sealAll fr I1 fun x hx => h x (List.mem_cons_of_mem _ hx)
    refine ⟨H2, I2, fun a o e => s2 _ _ (s1 _ _ e), fun x hx => ?_⟩
    rcases List.mem_cons.mp hx with rfl | hx
    · exact ⟨c, ob, u, hc, s2 _ _ e1⟩
    · exact e2 x hx
/-! ### the table grows -/
theorem among_snoc {pos : Pos} {a b : Int} {c cv : Value} (l : List Value) (h : TriplesOk l) (e : codeAmong pos (l ++ [rawInt a, rawInt b, c]) = some cv) : codeAmong pos l = some cv ∨ cv = c := by
  fun_induction TriplesOk l with
  | case1 =>
    simp only [List.nil_append, rawInt, codeAmong] at e
    split at e
    · cases e; exact .inr rfl
    · cases e
  | case2 l1 t1 l2 t2 d rest ih =>
    simp only [List.cons_append, codeAmong] at e ⊢
    split at e
    · rename_i hc; rw [if_pos hc]; exact .inl e
    · rename_i hc; rw [if_neg hc]; exact ih h e
  | case3 l h1 h2 => exact h.elim
theorem Inv.madeNew {P c' : Addr} {oc fo : Obj} {h' : Heap} {ps : Array Value} {a b : Int} {tk : Nat} {q : Nat} (I : Inv X pins σ H s) (hP : H P = some (.tbl q)) (hx : Heap.ExtBut P s.heap h') (h1 : s.heap.objs.size ≤ c') (h2 : c' < h'.objs.size)
    (hps : s.heap.get? P = some (PySem.W.tabObj ps)) (ht : TriplesOk ps.toList) (hT : h'.get? P = some (PySem.W.tabObj (ps ++ #[rawInt a, rawInt b, .ref c']))) (hoc : h'.get? c' = some oc) (hC : CodeO oc) (hfo : fo.isFreed = false) :
    Inv X pins σ (upd (upd H c' (.frz oc (.own 0))) h'.objs.size (.frz fo (.own 0))) { s with heap := h'.push fo, toks := tk } := by
  have hq : s.heap.objs.size ≤ h'.objs.size := Nat.le_trans h1 (Nat.le_of_lt h2)
  have n1 : H c' = none := I.hok.fresh h1
  have n2 : H h'.objs.size = none := I.hok.fresh hq
  have ne1 : ∀ {b : Addr} {o : HO}, H b = some o → b ≠ c' := fun {b o} e z => by rw [z, n1] at e; cases e
  have ne2 : ∀ {b : Addr} {o : HO}, H b = some o → b ≠ h'.objs.size := fun {b o} e z => by rw [z, n2] at e; cases e
  have up : ∀ {b : Addr} {o : HO}, H b = some o → upd (upd H c' (.frz oc (.own 0))) h'.objs.size (.frz fo (.own 0)) b = some o := fun {b o} e => by rw [upd_ne (ne2 e), upd_ne (ne1 e)]; exact e
  have old1 : ∀ {b : Addr} {o : Obj}, s.heap.get? b = some o → b ≠ c' := fun {b o} e => Nat.ne_of_lt (Nat.lt_of_lt_of_le (Heap.lt_size e) h1)
  have old2 : ∀ {b : Addr} {o : Obj}, s.heap.get? b = some o → b ≠ h'.objs.size := fun {b o} e => Nat.ne_of_lt (Nat.lt_of_lt_of_le (Heap.lt_size e) hq)
  have keep : ∀ b o, b ≠ P → s.heap.get? b = some o → (h'.push fo).get? b = some o := fun b o n e => Heap.get?_push_of_some _ (hx b o n e)
  have hTp : (h'.push fo).get? P = some (PySem.W.tabObj (ps ++ #[rawInt a, rawInt b, .ref c'])) := Heap.get?_push_of_some _ hT
  have unP : ∀ b, H b = none → b ≠ P := fun b n z => by rw [z, hP] at n; cases n
  refine I.un (h' := h'.push fo) (t' := tk) ⟨fun b o e n _ _ => keep b o (unP b n) e, fun b o e n _ _ => ⟨o.slots, keep b o (unP b n) e⟩, fun b o e n _ => by rw [upd_ne (old2 e), upd_ne (old1 e)]; exact n, fun b o e _ => ?_, fun b xs e => up e, fun b o u e => up e, fun b q e => up e⟩ fun b o e => ?_
  · by_cases hb : b = P
    · rw [hb]; exact ⟨_, hTp⟩
    · exact ⟨o, keep b o hb e⟩
  · by_cases hb2 : b = h'.objs.size
    · subst hb2
      rw [upd_same] at e; cases e
      have : (h'.push fo).get? h'.objs.size = some fo := Heap.get?_push_size _ hfo
      exact ⟨this, fo, this⟩
    · rw [upd_ne hb2] at e
      by_cases hb1 : b = c'
      · subst hb1
        rw [upd_same] at e; cases e
        have := Heap.get?_push_of_some (h := h') fo hoc
        exact ⟨this, oc, this⟩
      · rw [upd_ne hb1] at e
        by_cases hbP : b = P
        · subst hbP
          rw [hP] at e; cases e
          obtain ⟨ps', e1, _, r⟩ := I.hok b _ hP
          rw [hps] at e1; cases e1
          refine ⟨_, hTp, by rw [Array.toList_append]; exact TriplesOk_snoc _ _ _ _ ht, fun pos cv z => ?_⟩
          rw [Array.toList_append] at z
          rcases among_snoc _ ht z with z | z
          · obtain ⟨c, o', u, a1, a2, a3⟩ := r pos cv z
            exact ⟨c, o', u, a1, up a2, a3⟩
          · exact ⟨c', oc, .own 0, z, by rw [upd_ne (Nat.ne_of_lt h2), upd_same], hC⟩
        · refine (I.hok b o e).stay (fun d v hd' z => keep d v ?_ z) (fun d z => up z) (fun d xs z => up z) fun d o u z => up z
          rcases hd' with rfl | hd'
          · exact hbP
          · rintro rfl; rw [hP] at hd'; cases hd'
/-! ### a function is made -/
/-- the code object of the frame, its table -/
structure MkX (X : Cx) (c P : Addr) : Prop where
  code : X.env.code = .ref c
  hd : PySem.W.codeHdIn X.K c P = true
  tab : P ∈ X.base.tabs
/-- the names that it takes from around: cells of this frame, stored to no more; where they stand -/
structure Takes (X : Cx) (n : Nst) (js : List Nat) : Prop where
  len : n.free.length = js.length
  at_ : ∀ (i : Nat) x j, n.free[i]? = some x → js[i]? = some j → X.N[j]? = some x ∧ X.env.kindOf x = some .cell ∧ X.fn x = false ∧ X.cw x = true ∧ (x, NameKind.free) ∈ n.scope.names
  all : ∀ y ∈ n.scope.names, y.2 = .free → y.1 ∈ n.free
def Held (σ : St) (js : List Nat) (cv : List V) : Prop := js.length = cv.length ∧ ∀ (i : Nat) j v, js[i]? = some j → cv[i]? = some v → σ[j]? = some (some v)
theorem Takes.mem {n : Nst} {js : List Nat} (T : Takes X n js) {x : Str} (hx : x ∈ n.free) : ∃ (i j : Nat), n.free[i]? = some x ∧ js[i]? = some j := by
  obtain ⟨i, hi, e⟩ := List.getElem_of_mem hx
  have : i < js.length := by rw [← T.len]; exact hi
  exact ⟨i, js[i], by rw [List.getElem?_eq_getElem hi, e], List.getElem?_eq_getElem this⟩
theorem clos_free {env : Env} {x : Str} {c : Addr} : ∀ {ns : List (Str × NameKind)} {cs : List (Str × Addr)}, (clos env ns cs).lookup x = some c → (∃ d, cs.lookup x = some d) ∨ (x, NameKind.free) ∈ ns
  | [], cs, h => .inl ⟨c, h⟩
  | (m, k) :: r, cs, h => by
    have ih := clos_free (ns := r) h
    rcases ih with ⟨d, ih⟩ | ih
    · by_cases hk : (k == NameKind.free) = true
      · rw [if_pos hk] at ih
        cases e : env.cells.lookup m with
        | none => rw [e] at ih; exact .inl ⟨d, ih⟩
        | some a =>
          rw [e] at ih
          by_cases hx : x == m
          · have hx' : x = m := by simpa using hx
            have hk' : k = NameKind.free := by simpa using hk
            subst hx' hk'
            exact .inr List.mem_cons_self
          · have ih : List.lookup x ((m, a) :: cs) = some d := ih
            rw [List.lookup_cons, show (x == m) = false from by simpa using hx] at ih
            exact .inl ⟨d, ih⟩
      · rw [if_neg hk] at ih; exact .inl ⟨d, ih⟩
    · exact .inr (List.mem_cons_of_mem _ ih)
theorem run_mk {c P : Addr} {n : Nst} {js : List Nat} {cv : List V} {nm qual : Str} {pos : Pos} {line : Nat} {Q : Value → Shared → Prop} (I : Inv X pins σ H s) (m : MkX X c P) (T : Takes X n js) (hv : Held σ js cv)
    (h : ∀ q cl H' s', Inv X pins σ H' s' → (∀ a o, H a = some o → H' a = some o) → H q = none → CloAt n H' q cl → CellsAt H' n.free cl cv → Q (.ref q) s') :
    wpAny (model X.prog X.w) X.A (makeFunction nm qual n.params n.body n.scope X.env [] [] [] pos line) Q X.xe s := by
  have has : ∀ x ∈ n.free, (∃ c, X.env.cells.lookup x = some c) ∧ X.fn x = false ∧ X.cw x = true := fun x hx => by
    obtain ⟨i, j, e1, e2⟩ := T.mem hx
    obtain ⟨_, k, f, w, _⟩ := T.at_ i x j e1 e2
    exact ⟨I.ok.has x (.inl k), f, w⟩
  have hcl : closureFor n.scope X.env = pure (clos X.env n.scope.names []) := closureFor_eq fun y hy hk => (has y.1 (T.all y hy hk)).1
  obtain ⟨H1, I1, s1, hs⟩ := Inv.sealAll n.free I has
  -- the cells
  have cells : ∀ H2 : Hp, (∀ a o u, H1 a = some (.frz o u) → H2 a = some (.frz o u)) → CellsAt H2 n.free (clos X.env n.scope.names []) cv := fun H2 k => by
    refine ⟨T.len.trans hv.1, fun i x v e1 e2 => ?_, fun x d e => ?_, fun x y d e1 e2 => ?_⟩
    · have hi : i < js.length := by rw [hv.1]; exact (List.getElem?_eq_some_iff.mp e2).1
      have e3 := List.getElem?_eq_getElem hi
      obtain ⟨a1, a2, a3, a4, a5⟩ := T.at_ i x js[i] e1 e3
      obtain ⟨d, ob, u, b1, b2⟩ := hs x (List.mem_of_getElem? e1)
      obtain ⟨mm, _, hl⟩ := I1.loc
      obtain ⟨uu, r, l⟩ := hl js[i] x v a1 (hv.2 i js[i] v e3 e2) (.inr (.inl a2))
      obtain ⟨g, _⟩ := I1.hok d _ b2
      rcases l with ⟨k1, _⟩ | ⟨_, d', b3, oo, b4, b5⟩
      · rw [a2] at k1; cases k1
      · rw [b1] at b3; cases b3
        rw [g] at b4; cases b4
        exact ⟨d, ob, u, uu, clos_has b1 a5, k _ _ _ b2, b5, r⟩
    · rcases clos_free e with ⟨z, e'⟩ | e'
      · simp at e'
      · exact T.all _ e' rfl
    · have f1 := (clos_sub e1).resolve_left (by simp)
      have f2 := (clos_sub e2).resolve_left (by simp)
      exact I.ok.inj x y d f1 f2
  have hP : H1 P = some (.tbl 0) := I1.base.tbls P 0 (I.ok.tab P m.tab)
  obtain ⟨ps, g1, ht, ent⟩ := I1.hok P _ hP
  have hg : s.heap.Ns mainGlobals X.mg := I.mod.glob.keeps I.bk
  have C : PySem.W.CodeHd s.heap c P := PySem.W.codeHd_of_K I.kIn m.hd
  have nP : ∀ {b : Addr} {o : Obj}, X.base.get? b = some o → b ≠ P := fun {b o} e z => by
    have := (I1.bs b o e).2
    rw [z, hP] at this; cases this
  have hgP : mainGlobals ≠ P := by
    obtain ⟨o, _, _, e, _⟩ := I.mod.glob
    exact nP e
  have hb : s.heap.BuiltinsAt X.mg P := by
    obtain ⟨bm, ob, a1, a2, a3, a4, a5, a6⟩ := I.mod.bmain
    refine ⟨bm, ob, a1, a2, fun z => ?_, nP a3, I.bk _ _ a3, a4, a5, a6⟩
    obtain ⟨o, es, ep, e, d, _⟩ := I.mod.glob
    rw [z, e] at a3; cases a3; rw [d] at a6; cases a6
  have fz : ∀ {a : Addr} {o : HO}, H a = some o → H1 a = some o := fun e => s1 _ _ e
  have fresh : ∀ {q : Addr}, s.heap.objs.size ≤ q → H q = none := fun e => I.hok.fresh e
  have newC : ∀ (c' : Addr) (h' : Heap) (tk : Nat) (fo : Obj) (doc pm ct : Value), Heap.ExtBut P s.heap h' → s.heap.objs.size ≤ c' → c' < h'.objs.size → h'.CodeRec (.ref c') qual → h'.get? P = some (PySem.W.tabObj (ps ++ #[rawInt pos.line, rawInt pos.col, .ref c'])) →
      fo.isFreed = false → fo.cls = .type "function" → fo.data = .func (fnY n nm qual (clos X.env n.scope.names []) doc pm (.ref c') ct) → Q (.ref h'.objs.size) { s with heap := h'.push fo, toks := tk } := fun c' h' tk fo doc pm ct hx x1 x2 hrec hT f1 f2 f3 => by
    obtain ⟨c2, oc, fv, t, z1, z2, z3, z4⟩ := hrec
    cases z1
    have hq : s.heap.objs.size ≤ h'.objs.size := Nat.le_trans x1 (Nat.le_of_lt x2)
    have J := I1.madeNew (tk := tk) hP hx x1 x2 g1 ht hT z2 ⟨fv, qual, t, z3, z4⟩ f1
    have n1 := I1.hok.fresh x1
    have n2 := I1.hok.fresh hq
    have up : ∀ {b : Addr} {o : HO}, H1 b = some o → upd (upd H1 c' (.frz oc (.own 0))) h'.objs.size (.frz fo (.own 0)) b = some o := fun {b o} e => by
      rw [upd_ne (ne_of_none e n2), upd_ne (ne_of_none e n1)]; exact e
    refine h _ (clos X.env n.scope.names []) _ _ J (fun a o e => up (fz e)) (fresh hq) ⟨fo, .own 0, nm, qual, doc, pm, c', ct, oc, .own 0, upd_same, f2, f3, by rw [upd_ne (Nat.ne_of_lt x2), upd_same], fv, qual, t, z3, z4⟩ (cells _ fun a o u e => up e)
  have hitC : ∀ (cv' : Value) (h' : Heap) (tk : Nat) (fo : Obj) (doc pm ct : Value), codeAmong pos ps.toList = some cv' → (∀ b o, s.heap.get? b = some o → h'.get? b = some o) → s.heap.objs.size ≤ h'.objs.size →
      fo.isFreed = false → fo.cls = .type "function" → fo.data = .func (fnY n nm qual (clos X.env n.scope.names []) doc pm cv' ct) → Q (.ref h'.objs.size) { s with heap := h'.push fo, toks := tk } := fun cv' h' tk fo doc pm ct hf hk hq f1 f2 f3 => by
    obtain ⟨c', oc, u, z1, z2, z3⟩ := ent pos cv' hf
    subst z1
    have n2 := I1.hok.fresh hq
    have J := I1.laid (o := .frz fo (.own 0)) (h' := h'.push fo) (t' := tk) (fun b o e => Heap.get?_push_of_some _ (hk b o e)) hq (show ObjOk X.prog X.w _ _ _ (.frz fo (.own 0)) from by
      have := Heap.get?_push_size h' f1
      exact ⟨this, fo, this⟩)
    have up : ∀ {b : Addr} {o : HO}, H1 b = some o → upd H1 h'.objs.size (.frz fo (.own 0)) b = some o := fun {b o} e => by rw [upd_ne (ne_of_none e n2)]; exact e
    exact h _ (clos X.env n.scope.names []) _ _ J (fun a o e => up (fz e)) (fresh hq) ⟨fo, .own 0, nm, qual, doc, pm, c', ct, oc, u, upd_same, f2, f3, up z2, z3⟩ (cells _ fun a o u e => up e)
  obtain ⟨prm, bd, sc, fr⟩ := n
  cases bd with
  | stmts body =>
    cases hf : codeAmong pos ps.toList with
    | none => exact PySem.W.makeFunction_K hcl I.ok.glob hg m.code C g1 ht hf hgP hb fun c' ct doc h' tk hx x1 x2 hrec hT => newC c' h' tk _ doc _ ct hx x1 x2 hrec hT rfl rfl rfl
    | some cv' => exact PySem.W.makeFunction_hit hcl I.ok.glob hg m.code C g1 ht hf hb fun ct doc h' tk hk hq => hitC cv' h' tk _ doc _ ct hf hk hq rfl rfl rfl
  | expr body =>
    cases hf : codeAmong pos ps.toList with
    | none => exact PySem.W.kla_makeFunction hcl I.ok.glob hg m.code C g1 ht hf hgP hb fun c' ct h' tk hx x1 x2 hrec hT => newC c' h' tk _ .none _ ct hx x1 x2 hrec hT rfl rfl rfl
    | some cv' => exact PySem.W.kla_makeFunctionHit hcl I.ok.glob hg m.code C g1 ht hf hb fun ct h' tk hk hq => hitC cv' h' tk _ .none _ ct hf hk hq rfl rfl rfl
/-- what stands behind a function that was made -/
def tMk (n : Nst) (js : List Nat) (σ : St) (H : Hp) (Q : VK) : Prop := ∃ cv, Held σ js cv ∧ ∀ q cl H', (∀ a o, H a = some o → H' a = some o) → H q = none → CloAt n H' q cl → CellsAt H' n.free cl cv → Q (.ref q) H'
theorem pe_lam {c P : Addr} {params : Arguments} {body : Expr} {scope : Scope} {fr : List Str} {js : List Nat} {pos : Pos} (m : MkX X c P) (T : Takes X ⟨params, .expr body, scope, fr⟩ js) (hdef : defaultsOf params X.env = ([], []) := by rfl) :
    PE X (.Lambda params body scope pos) (tMk ⟨params, .expr body, scope, fr⟩ js) := by
  intro pins s σ H Q I ⟨cv, hv, h⟩
  exact PySem.W.kla_eval hdef (run_mk (n := ⟨params, .expr body, scope, fr⟩) I m T hv fun q cl H' s' I' sm hn hc hce => ⟨.ref q, H', I', rfl, h q cl H' sm hn hc hce⟩)
end
end L2
end
section
set_option Elab.async false
set_option linter.all false
set_option maxRecDepth 100000
set_option maxHeartbeats 4000000
/-! THE MIRROR: a def's body as a total function over plain values, by the rules of the hand layer. -/
namespace DN
open PySem L2
inductive PV where
  | non | bl (b : Bool) | int (i : Int) | str (x : Str)
  | tup (xs : List PV) | lst (xs : List PV) | obj (k : Nat) (xs : List PV) | dic (ks : List Key) (xs : List PV) | clo (f : Nat) (xs : List PV)
inductive Rx (α : Type) where
  | ok (a : α) | bad | exc (c : Nat)
def Rx.bind {α β : Type} : Rx α → (α → Rx β) → Rx β
  | .ok a, f => f a
  | .bad, _ => .bad
  | .exc c, _ => .exc c
theorem bind_ok {α β : Type} {m : Rx α} {f : α → Rx β} {b : β} (h : m.bind f = .ok b) : ∃ a, m = .ok a ∧ f a = .ok b := by
  cases m with
  | ok a => exact ⟨a, rfl, h⟩
  | bad => cases h
  | exc c => cases h
@[simp] theorem ok_bind {α β : Type} (a : α) (f : α → Rx β) : (Rx.ok a).bind f = f a := rfl
@[simp] theorem bad_bind {α β : Type} (f : α → Rx β) : (Rx.bad : Rx α).bind f = .bad := rfl
@[simp] theorem exc_bind {α β : Type} (c : Nat) (f : α → Rx β) : (Rx.exc c : Rx α).bind f = .exc c := rfl
/-- the program's classes: address, attributes' names -/
structure Pg where
  cA : Nat → Addr
  fN : Nat → List Str
  nF : Nat → Nst
abbrev Av := Addr → Prop
def RdL (K : PySem.W.Frag) (H : Hp) (A : Av) (a : Addr) (vs : List V) : Prop :=
  (H a = some (.lst vs) ∧ ¬ A a) ∨ (∃ o, H a = some (.frz o (.lst vs))) ∨
    ∃ (o : Obj) (its : Array Value) (n : Nat), K.lookup a = some o ∧ o.cls = .type "list" ∧ o.dict = none ∧ o.data = .seq its n ∧ its.size ≤ sizeLine ∧ Vals vs its.toList
theorem RdL.sq {K : PySem.W.Frag} {H : Hp} {A : Av} {a : Addr} {vs : List V} (h : RdL K H A a vs) : SqL K H a vs := by
  rcases h with ⟨h, _⟩ | ⟨o, h⟩ | h
  · exact .inl (.inl h)
  · exact .inl (.inr ⟨o, h⟩)
  · exact .inr h
mutual
def Rep (K : PySem.W.Frag) (G : Pg) (H : Hp) (A : Av) : PV → V → Prop
  | .non, v => v = .non
  | .bl b, v => v = .bl b
  | .int i, v => v = .int i
  | .str x, v => v = .str x
  | .tup xs, v => ∃ a vs, v = .ref a ∧ SqT K H a vs ∧ Reps K G H A xs vs
  | .lst xs, v => ∃ a vs, v = .ref a ∧ RdL K H A a vs ∧ Reps K G H A xs vs
  | .obj k xs, v => ∃ a dx vs, v = .ref a ∧ H a = some (.ins (G.cA k) dx ((G.fN k).zip vs)) ∧ (G.fN k).length = vs.length ∧ ¬ A a ∧ Reps K G H A xs vs
  | .dic ks xs, v => ∃ a vs, v = .ref a ∧ H a = some (.dK (ks.zip vs)) ∧ ks.length = vs.length ∧ ¬ A a ∧ Reps K G H A xs vs
  | .clo f xs, v => ∃ q cl vs, v = .ref q ∧ CloAt (G.nF f) H q cl ∧ CellsAt H (G.nF f).free cl vs ∧ Reps K G H A xs vs
def Reps (K : PySem.W.Frag) (G : Pg) (H : Hp) (A : Av) : List PV → List V → Prop
  | [], vs => vs = []
  | x :: xs, vs => ∃ v r, vs = v :: r ∧ Rep K G H A x v ∧ Reps K G H A xs r
end
/-- what may stand at an address that is one's own -/
abbrev Mt (o : HO) : Prop := (∀ xs, o ≠ .tup xs) ∧ ∀ o' u, o ≠ .frz o' u
/-- frozen things stay: H to H', the addresses to shun A to A' -/
structure Kp (K : PySem.W.Frag) (G : Pg) (H : Hp) (A : Av) (H' : Hp) (A' : Av) : Prop where
  rd : ∀ a o, H a = some o → ¬ A a → H' a = some o
  tp : ∀ a vs, H a = some (.tup vs) → H' a = some (.tup vs)
  fz : ∀ a o u, H a = some (.frz o u) → H' a = some (.frz o u)
  av : ∀ a, H a ≠ none → A' a → A a
section
variable {K : PySem.W.Frag} {G : Pg} {H H' H2 : Hp} {A A' A2 : Av}
theorem Kp.sqT (k : Kp K G H A H' A') {a : Addr} {vs : List V} (h : SqT K H a vs) : SqT K H' a vs := by
  rcases h with (h | ⟨o, h⟩) | h
  · exact .inl (.inl (k.tp _ _ h))
  · exact .inl (.inr ⟨o, k.fz _ _ _ h⟩)
  · exact .inr h
theorem Kp.rdL (k : Kp K G H A H' A') {a : Addr} {vs : List V} (h : RdL K H A a vs) : RdL K H' A' a vs := by
  rcases h with ⟨h, n⟩ | ⟨o, h⟩ | h
  · exact .inl ⟨k.rd _ _ h n, fun z => n (k.av _ (by rw [h]; simp) z)⟩
  · exact .inr (.inl ⟨o, k.fz _ _ _ h⟩)
  · exact .inr (.inr h)
mutual
theorem Kp.rep (k : Kp K G H A H' A') : ∀ {w : PV} {v : V}, Rep K G H A w v → Rep K G H' A' w v
  | .non, _, h => h
  | .bl _, _, h => h
  | .int _, _, h => h
  | .str _, _, h => h
  | .tup xs, v, h => by
    obtain ⟨a, vs, e, s, r⟩ := h
    exact ⟨a, vs, e, k.sqT s, Kp.reps k r⟩
  | .lst xs, v, h => by
    obtain ⟨a, vs, e, s, r⟩ := h
    exact ⟨a, vs, e, k.rdL s, Kp.reps k r⟩
  | .obj c xs, v, h => by
    obtain ⟨a, dx, vs, e, s, l, n, r⟩ := h
    exact ⟨a, dx, vs, e, k.rd _ _ s n, l, fun z => n (k.av _ (by rw [s]; simp) z), Kp.reps k r⟩
  | .dic ks xs, v, h => by
    obtain ⟨a, vs, e, s, l, n, r⟩ := h
    exact ⟨a, vs, e, k.rd _ _ s n, l, fun z => n (k.av _ (by rw [s]; simp) z), Kp.reps k r⟩
  | .clo f xs, v, h => by
    obtain ⟨q, cl, vs, e, hc, hce, r⟩ := h
    exact ⟨q, cl, vs, e, hc.keep k.fz, hce.keep k.fz, Kp.reps k r⟩
theorem Kp.reps (k : Kp K G H A H' A') : ∀ {ws : List PV} {vs : List V}, Reps K G H A ws vs → Reps K G H' A' ws vs
  | [], vs, h => h
  | w :: ws, vs, h => by
    obtain ⟨v, r, e, h1, h2⟩ := h
    exact ⟨v, r, e, Kp.rep k h1, Kp.reps k h2⟩
end
theorem Kp.of_same (s : Same H H') : Kp K G H A H' A := ⟨fun a o h _ => s _ _ h, fun a vs h => s _ _ h, fun a o u h => s _ _ h, fun a _ h => h⟩
theorem Kp.weak (h : ∀ a, A' a → A a) : Kp K G H A H A' := ⟨fun a o h _ => h, fun a vs h => h, fun a o u h => h, fun a _ z => h a z⟩
theorem Kp.trans (k : Kp K G H A H' A') (k2 : Kp K G H' A' H2 A2) : Kp K G H A H2 A2 :=
  ⟨fun a o h n => k2.rd _ _ (k.rd _ _ h n) fun z => n (k.av _ (by rw [h]; simp) z), fun a vs h => k2.tp _ _ (k.tp _ _ h), fun a o u h => k2.fz _ _ _ (k.fz _ _ _ h),
    fun a n z => by
      by_cases q : A a
      · exact q
      · cases e : H a with
        | none => exact absurd e n
        | some o => exact k.av a n (k2.av a (by rw [k.rd _ _ e q]; simp) z)⟩
/-- a store at an address of one's own -/
theorem Kp.own {p : Addr} {o u : HO} (hA : A p) (hp : H p = some o) (m : Mt o) : Kp K G H A (upd H p u) A :=
  ⟨fun a x h n => by
      rw [upd_ne (by intro z; subst z; exact n hA)]; exact h,
    fun a vs h => by
      rw [upd_ne (by intro z; subst z; rw [hp] at h; exact m.1 _ (Option.some.inj h))]; exact h,
    fun a o' u' h => by
      rw [upd_ne (by intro z; subst z; rw [hp] at h; exact m.2 _ _ (Option.some.inj h))]; exact h,
    fun a _ h => h⟩
/-- a new thing that becomes one's own -/
theorem Kp.take {p : Addr} (hp : H p = none) (hs : Same H H') (h : ∀ a, A' a → a = p ∨ A a) : Kp K G H A H' A' :=
  ⟨fun a o h _ => hs _ _ h, fun a vs h => hs _ _ h, fun a o u h => hs _ _ h, fun a n z => by
    rcases h a z with e | e
    · subst e; exact absurd hp n
    · exact e⟩
theorem Rep.same {w : PV} {v : V} (h : Rep K G H A w v) (s : Same H H') : Rep K G H' A w v := (Kp.of_same s).rep h
theorem Reps.same {ws : List PV} {vs : List V} (h : Reps K G H A ws vs) (s : Same H H') : Reps K G H' A ws vs := (Kp.of_same s).reps h
theorem Reps.len : ∀ {ws : List PV} {vs : List V}, Reps K G H A ws vs → ws.length = vs.length
  | [], vs, h => by have h : vs = [] := h; rw [h]; rfl
  | w :: ws, vs, h => by
    obtain ⟨v, r, e, _, h2⟩ := h
    subst e
    rw [List.length_cons, List.length_cons, Reps.len h2]
theorem Reps.get : ∀ {ws : List PV} {vs : List V} {i : Nat} {w : PV}, Reps K G H A ws vs → ws[i]? = some w → ∃ v, vs[i]? = some v ∧ Rep K G H A w v
  | [], vs, i, w, h, e => by simp at e
  | x :: ws, vs, 0, w, h, e => by
    obtain ⟨v, r, e', h1, h2⟩ := h
    subst e'
    simp at e; subst e
    exact ⟨v, by simp, h1⟩
  | x :: ws, vs, i + 1, w, h, e => by
    obtain ⟨v, r, e', h1, h2⟩ := h
    subst e'
    obtain ⟨u, q1, q2⟩ := Reps.get (i := i) h2 (by simpa using e)
    exact ⟨u, by simpa using q1, q2⟩
theorem Reps.app : ∀ {ws ws' : List PV} {vs vs' : List V}, Reps K G H A ws vs → Reps K G H A ws' vs' → Reps K G H A (ws ++ ws') (vs ++ vs')
  | [], ws', vs, vs', h, h' => by have h : vs = [] := h; subst h; exact h'
  | w :: ws, ws', vs, vs', h, h' => by
    obtain ⟨v, r, e, h1, h2⟩ := h
    subst e
    exact ⟨v, r ++ vs', rfl, h1, Reps.app h2 h'⟩
theorem Reps.one {w : PV} {v : V} (h : Rep K G H A w v) : Reps K G H A [w] [v] := ⟨v, [], rfl, h, rfl⟩
theorem Reps.snoc {ws : List PV} {vs : List V} {w : PV} {v : V} (h : Reps K G H A ws vs) (h' : Rep K G H A w v) : Reps K G H A (ws ++ [w]) (vs ++ [v]) := h.app (.one h')
theorem Reps.take : ∀ {ws : List PV} {vs : List V} (n : Nat), Reps K G H A ws vs → Reps K G H A (ws.take n) (vs.take n)
  | ws, vs, 0, h => by simp [Reps]
  | [], vs, n + 1, h => by have h : vs = [] := h; subst h; rfl
  | w :: ws, vs, n + 1, h => by
    obtain ⟨v, r, e, h1, h2⟩ := h
    subst e
    exact ⟨v, r.take n, rfl, h1, Reps.take n h2⟩
theorem Reps.drop : ∀ {ws : List PV} {vs : List V} (n : Nat), Reps K G H A ws vs → Reps K G H A (ws.drop n) (vs.drop n)
  | ws, vs, 0, h => by simpa using h
  | [], vs, n + 1, h => by have h : vs = [] := h; subst h; rfl
  | w :: ws, vs, n + 1, h => by
    obtain ⟨v, r, e, h1, h2⟩ := h
    subst e
    exact Reps.drop n h2
theorem Reps.set : ∀ {ws : List PV} {vs : List V} {w : PV} {v : V} (i : Nat), Reps K G H A ws vs → Rep K G H A w v → Reps K G H A (ws.set i w) (vs.set i v)
  | [], vs, w, v, i, h, h' => by have h : vs = [] := h; subst h; rfl
  | x :: ws, vs, w, v, 0, h, h' => by
    obtain ⟨u, r, e, h1, h2⟩ := h
    subst e
    exact ⟨v, r, rfl, h', h2⟩
  | x :: ws, vs, w, v, i + 1, h, h' => by
    obtain ⟨u, r, e, h1, h2⟩ := h
    subst e
    exact ⟨u, r.set i v, rfl, h1, Reps.set i h2 h'⟩
theorem Reps.ints : ∀ (ns : List Int), Reps K G H A (ns.map PV.int) (ns.map V.int)
  | [] => rfl
  | n :: ns => ⟨_, _, rfl, rfl, Reps.ints ns⟩
end
/-! ### slots -/
/-- a thing of one's own -/
inductive Ow where
  | lst (xs : List PV) | dic (ks : List Key) (xs : List PV) | obj (k : Nat) (xs : List PV)
/-- ino: the one thing that is lent to a def to be changed; ini: the instance that is being made -/
inductive Sl where
  | no | v (w : PV) | own (o : Ow) | bor (w : PV) | ino (o : Ow) | ini (k : Nat) (xs : List PV)
abbrev PSt := List Sl
def Ow.pv : Ow → PV
  | .lst xs => .lst xs
  | .dic ks xs => .dic ks xs
  | .obj k xs => .obj k xs
def RepO (K : PySem.W.Frag) (G : Pg) (H : Hp) (A : Av) : Ow → Addr → Prop
  | .lst xs, p => ∃ vs, H p = some (.lst vs) ∧ Reps K G H A xs vs
  | .dic ks xs, p => ∃ vs, H p = some (.dK (ks.zip vs)) ∧ ks.length = vs.length ∧ Reps K G H A xs vs
  | .obj k xs, p => ∃ dx vs, H p = some (.ins (G.cA k) dx ((G.fN k).zip vs)) ∧ (G.fN k).length = vs.length ∧ Reps K G H A xs vs
/-- an instance some attributes of which stand -/
def RepI (K : PySem.W.Frag) (G : Pg) (H : Hp) (A : Av) (k : Nat) (xs : List PV) (p : Addr) : Prop := ∃ dx vs, H p = some (.ins (G.cA k) dx (((G.fN k).take xs.length).zip vs)) ∧ xs.length ≤ (G.fN k).length ∧ Reps K G H A xs vs
/-- the entry: its heap, the callers' own addresses -/
structure Fr where
  H0 : Hp
  A0 : Av
  B0 : Av
  lx : Option Addr
/-- all but what is lent is as it was at the entry -/
def SmL (c : Fr) (H : Hp) : Prop := ∀ a o, c.H0 a = some o → c.lx ≠ some a → H a = some o
theorem SmL.trans {c : Fr} {H H' : Hp} (h : SmL c H) (s : Same H H') : SmL c H' := fun a o e n => s _ _ (h a o e n)
theorem SmL.free {c : Fr} {H : Hp} {p : Addr} (h : SmL c H) (hp : H p = none) (n : c.lx ≠ some p) : c.H0 p = none := by
  cases e : c.H0 p with
  | none => rfl
  | some o => rw [h p o e n] at hp; cases hp
theorem SmL.same {c : Fr} {H : Hp} (h : SmL c H) (n : c.lx = none) : Same c.H0 H := fun a o e => h a o e (by rw [n]; simp)
theorem SmL.of {c : Fr} {H : Hp} (s : Same c.H0 H) : SmL c H := fun a o e _ => s a o e
abbrev Ows := Nat → Option Addr
def av (c : Fr) (ow : Ows) : Av := fun a => c.A0 a ∨ ∃ i, ow i = some a
/-- a value that is looked at: frozen, or a thing of someone's own -/
def RepB (K : PySem.W.Frag) (G : Pg) (H : Hp) (A : Av) (w : PV) (v : V) : Prop := Rep K G H A w v ∨ ∃ x p, w = x.pv ∧ v = .ref p ∧ RepO K G H A x p
def SlAt (K : PySem.W.Frag) (G : Pg) (c : Fr) (H : Hp) (A : Av) (ow : Ows) (i : Nat) : Sl → Option V → Prop
  | .no, _ => ow i = none
  | .v w, o => ow i = none ∧ ∃ v, o = some v ∧ Rep K G H A w v
  | .own x, o => ∃ p, ow i = some p ∧ o = some (.ref p) ∧ RepO K G H A x p
  | .bor w, o => ow i = none ∧ ∃ v, o = some v ∧ (Rep K G H A w v ∨ ∃ x p, w = x.pv ∧ v = .ref p ∧ RepO K G H A x p ∧ c.B0 p)
  | .ino x, o => ow i = none ∧ i = 0 ∧ ∃ p, o = some (.ref p) ∧ c.lx = some p ∧ RepO K G H A x p
  | .ini k xs, o => ow i = none ∧ i = 0 ∧ ∃ p, o = some (.ref p) ∧ c.lx = some p ∧ RepI K G H A k xs p
structure RepS (K : PySem.W.Frag) (G : Pg) (c : Fr) (H : Hp) (ow : Ows) (ps : PSt) (σ : St) : Prop where
  len : ps.length = σ.length
  same : SmL c H
  lent : ∀ p, c.lx = some p → c.A0 p ∧ H p ≠ none
  a0 : ∀ a, c.A0 a → c.H0 a ≠ none
  b0 : ∀ a, c.B0 a → c.H0 a ≠ none ∧ c.lx ≠ some a
  fresh : ∀ i p, ow i = some p → c.H0 p = none
  inj : ∀ i j p, ow i = some p → ow j = some p → i = j
  out : ∀ i, ps.length ≤ i → ow i = none
  slot : ∀ i s o, ps[i]? = some s → σ[i]? = some o → SlAt K G c H (av c ow) ow i s o
section
variable {K : PySem.W.Frag} {G : Pg} {H H' : Hp} {A A' : Av} {c : Fr} {ow : Ows} {ps : PSt} {σ : St}
theorem RepO.at {x : Ow} {p : Addr} (h : RepO K G H A x p) : ∃ o, H p = some o ∧ Mt o := by
  cases x with
  | lst xs => obtain ⟨vs, e, _⟩ := h; exact ⟨_, e, And.intro (fun _ z => by cases z) (fun _ _ z => by cases z)⟩
  | dic ks xs => obtain ⟨vs, e, _⟩ := h; exact ⟨_, e, And.intro (fun _ z => by cases z) (fun _ _ z => by cases z)⟩
  | obj k xs => obtain ⟨dx, vs, e, _⟩ := h; exact ⟨_, e, And.intro (fun _ z => by cases z) (fun _ _ z => by cases z)⟩
theorem RepI.at {k : Nat} {xs : List PV} {p : Addr} (h : RepI K G H A k xs p) : ∃ o, H p = some o ∧ Mt o := by
  obtain ⟨dx, vs, e, _⟩ := h; exact ⟨_, e, And.intro (fun _ z => by cases z) (fun _ _ z => by cases z)⟩
theorem RepI.keep {k : Nat} {xs : List PV} {p : Addr} (h : RepI K G H A k xs p) (kp : Kp K G H A H' A') (e : H' p = H p) : RepI K G H' A' k xs p := by
  obtain ⟨dx, vs, q, l, r⟩ := h; exact ⟨dx, vs, by rw [e]; exact q, l, kp.reps r⟩
theorem RepO.keep {x : Ow} {p : Addr} (h : RepO K G H A x p) (k : Kp K G H A H' A') (e : H' p = H p) : RepO K G H' A' x p := by
  cases x with
  | lst xs => obtain ⟨vs, q, r⟩ := h; exact ⟨vs, by rw [e]; exact q, k.reps r⟩
  | dic ks xs => obtain ⟨vs, q, l, r⟩ := h; exact ⟨vs, by rw [e]; exact q, l, k.reps r⟩
  | obj c xs => obtain ⟨dx, vs, q, l, r⟩ := h; exact ⟨dx, vs, by rw [e]; exact q, l, k.reps r⟩
/-- frozen: the address is no longer one's own -/
theorem RepO.freeze {x : Ow} {p : Addr} (h : RepO K G H A x p) (n : ¬ A p) : Rep K G H A x.pv (.ref p) := by
  cases x with
  | lst xs => obtain ⟨vs, q, r⟩ := h; exact ⟨p, vs, rfl, .inl ⟨q, n⟩, r⟩
  | dic ks xs => obtain ⟨vs, q, l, r⟩ := h; exact ⟨p, vs, rfl, q, l, n, r⟩
  | obj c xs => obtain ⟨dx, vs, q, l, r⟩ := h; exact ⟨p, dx, vs, rfl, q, l, n, r⟩
theorem RepS.get (R : RepS K G c H ow ps σ) {i : Nat} {s : Sl} (e : ps[i]? = some s) : ∃ o, σ[i]? = some o ∧ SlAt K G c H (av c ow) ow i s o := by
  have hi : i < ps.length := (List.getElem?_eq_some_iff.mp e).1
  have hi' : i < σ.length := by rw [← R.len]; exact hi
  exact ⟨σ[i], List.getElem?_eq_getElem hi', R.slot i s _ e (List.getElem?_eq_getElem hi')⟩
theorem RepS.getV (R : RepS K G c H ow ps σ) {i : Nat} {w : PV} (e : ps[i]? = some (.v w)) : ∃ v, σ[i]? = some (some v) ∧ Rep K G H (av c ow) w v := by
  obtain ⟨o, eo, _, v, rfl, r⟩ := R.get e
  exact ⟨v, eo, r⟩
theorem RepS.getO (R : RepS K G c H ow ps σ) {i : Nat} {x : Ow} (e : ps[i]? = some (.own x)) : ∃ p, ow i = some p ∧ σ[i]? = some (some (.ref p)) ∧ RepO K G H (av c ow) x p := by
  obtain ⟨o, eo, p, e1, rfl, r⟩ := R.get e
  exact ⟨p, e1, eo, r⟩
/-- every address to shun is in use -/
theorem RepS.used (R : RepS K G c H ow ps σ) : ∀ a, av c ow a → H a ≠ none := by
  intro a h
  rcases h with h | ⟨i, h⟩
  · by_cases hl : c.lx = some a
    · exact (R.lent a hl).2
    · cases e : c.H0 a with
      | none => exact absurd e (R.a0 a h)
      | some o => rw [R.same _ _ e hl]; simp
  · have hi : i < ps.length := by
      rcases Nat.lt_or_ge i ps.length with q | q
      · exact q
      · rw [R.out i q] at h; cases h
    obtain ⟨o, eo, q⟩ := R.get (List.getElem?_eq_getElem hi)
    cases e : ps[i] with
    | no => rw [e] at q; rw [show ow i = none from q] at h; cases h
    | v w => rw [e] at q; rw [q.1] at h; cases h
    | bor w => rw [e] at q; rw [q.1] at h; cases h
    | ino x => rw [e] at q; rw [q.1] at h; cases h
    | ini k xs => rw [e] at q; rw [q.1] at h; cases h
    | own x =>
      rw [e] at q
      obtain ⟨p, e1, _, r⟩ := q
      rw [e1] at h; cases h
      obtain ⟨o', e', _⟩ := r.at
      rw [e']; simp
theorem bor_keep {w : PV} {v : V} {A A' : Av} (b0 : ∀ a, c.B0 a → c.H0 a ≠ none ∧ c.lx ≠ some a) (s : SmL c H) (s' : SmL c H') (k : Kp K G H A H' A') (h : Rep K G H A w v ∨ ∃ x p, w = x.pv ∧ v = .ref p ∧ RepO K G H A x p ∧ c.B0 p) :
    Rep K G H' A' w v ∨ ∃ x p, w = x.pv ∧ v = .ref p ∧ RepO K G H' A' x p ∧ c.B0 p := by
  rcases h with h | ⟨x, p, e1, e2, r, n⟩
  · exact .inl (k.rep h)
  · refine .inr ⟨x, p, e1, e2, r.keep k ?_, n⟩
    cases q : c.H0 p with
    | none => exact absurd q (b0 p n).1
    | some o => rw [s _ _ q (b0 p n).2, s' _ _ q (b0 p n).2]
theorem RepS.keep (R : RepS K G c H ow ps σ) (s : SmL c H') (k : Kp K G H (av c ow) H' (av c ow)) (e : ∀ i p, ow i = some p → H' p = H p) (el : ∀ p, c.lx = some p → H' p = H p) : RepS K G c H' ow ps σ := by
  refine ⟨R.len, s, fun p h => ⟨(R.lent p h).1, by rw [el p h]; exact (R.lent p h).2⟩, R.a0, R.b0, R.fresh, R.inj, R.out, fun i x o e1 e2 => ?_⟩
  have q := R.slot i x o e1 e2
  cases x with
  | no => exact q
  | v w => obtain ⟨z, v, e3, r⟩ := q; exact ⟨z, v, e3, k.rep r⟩
  | own y => obtain ⟨p, e3, e4, r⟩ := q; exact ⟨p, e3, e4, r.keep k (e i p e3)⟩
  | bor w => obtain ⟨z, v, e3, r⟩ := q; exact ⟨z, v, e3, bor_keep R.b0 R.same s k r⟩
  | ino y => obtain ⟨z, z2, p, e3, e4, r⟩ := q; exact ⟨z, z2, p, e3, e4, r.keep k (el p e4)⟩
  | ini c xs => obtain ⟨z, z2, p, e3, e4, r⟩ := q; exact ⟨z, z2, p, e3, e4, r.keep k (el p e4)⟩
theorem RepS.grow (R : RepS K G c H ow ps σ) (s : Same H H') : RepS K G c H' ow ps σ :=
  R.keep (R.same.trans s) (Kp.of_same s) (fun i p e => by
    cases q : H p with
    | none => exact absurd q (R.used p (.inr ⟨i, e⟩))
    | some o => exact s _ _ q) fun p e => by
    cases q : H p with
    | none => exact absurd q (R.lent p e).2
    | some o => exact s _ _ q
/-- a slot gets a frozen value -/
def offW (ow : Ows) (i : Nat) : Ows := fun j => if j = i then none else ow j
def onW (ow : Ows) (i : Nat) (p : Addr) : Ows := fun j => if j = i then some p else ow j
theorem av_off {i : Nat} : ∀ a, av c (offW ow i) a → av c ow a := by
  intro a h
  rcases h with h | ⟨j, h⟩
  · exact .inl h
  · unfold offW at h
    split at h
    · cases h
    · exact .inr ⟨j, h⟩
theorem RepS.setV (R : RepS K G c H ow ps σ) {i : Nat} {w : PV} {v : V} (r : Rep K G H (av c ow) w v) : RepS K G c H (offW ow i) (ps.set i (.v w)) (σ.set i (some v)) := by
  have k : Kp K G H (av c ow) H (av c (offW ow i)) := Kp.weak av_off
  refine ⟨by simp [R.len], R.same, R.lent, R.a0, R.b0, fun j p e => ?_, fun j j' p e e' => ?_, fun j h => ?_, fun j x o e1 e2 => ?_⟩
  · unfold offW at e; split at e
    · cases e
    · exact R.fresh j p e
  · unfold offW at e e'
    split at e
    · cases e
    · split at e'
      · cases e'
      · exact R.inj j j' p e e'
  · unfold offW; split
    · rfl
    · exact R.out j (by simpa using h)
  · by_cases hj : j = i
    · subst hj
      have hl : j < ps.length := by
        have := (List.getElem?_eq_some_iff.mp e1).1
        simpa using this
      rw [List.getElem?_set_self hl] at e1
      rw [List.getElem?_set_self (by rw [← R.len]; exact hl)] at e2
      cases e1; cases e2
      exact ⟨by unfold offW; rw [if_pos rfl], v, rfl, k.rep r⟩
    · rw [List.getElem?_set_ne (fun z => hj z.symm)] at e1 e2
      have q := R.slot j x o e1 e2
      have eo : offW ow i j = ow j := by unfold offW; rw [if_neg hj]
      cases x with
      | no => show offW ow i j = none; rw [eo]; exact q
      | v w' => obtain ⟨z, v', e3, r'⟩ := q; exact ⟨by rw [eo]; exact z, v', e3, k.rep r'⟩
      | own y => obtain ⟨p, e3, e4, r'⟩ := q; exact ⟨p, by rw [eo]; exact e3, e4, r'.keep k rfl⟩
      | bor w => obtain ⟨z, v', e3, r'⟩ := q; exact ⟨by rw [eo]; exact z, v', e3, bor_keep R.b0 R.same R.same k r'⟩
      | ino y => obtain ⟨z, z2, p, e3, e4, r'⟩ := q; exact ⟨by rw [eo]; exact z, z2, p, e3, e4, r'.keep k rfl⟩
      | ini kk xs => obtain ⟨z, z2, p, e3, e4, r'⟩ := q; exact ⟨by rw [eo]; exact z, z2, p, e3, e4, r'.keep k rfl⟩
/-- a slot gets a new thing, its own -/
theorem RepS.setO (R : RepS K G c H ow ps σ) {i : Nat} {x : Ow} {p : Addr} (hi : i < ps.length) (hs : Same H H') (hp : H p = none) (r : RepO K G H' (fun a => av c ow a ∨ a = p) x p) :
    RepS K G c H' (onW ow i p) (ps.set i (.own x)) (σ.set i (some (.ref p))) := by
  have hav : ∀ a, av c (onW ow i p) a → av c ow a ∨ a = p := by
    intro a h
    rcases h with h | ⟨j, h⟩
    · exact .inl (.inl h)
    · unfold onW at h
      split at h
      · cases h; exact .inr rfl
      · exact .inl (.inr ⟨j, h⟩)
  have k : Kp K G H (av c ow) H' (av c (onW ow i p)) := Kp.take hp hs fun a h => (hav a h).symm
  have k2 : Kp K G H' (fun a => av c ow a ∨ a = p) H' (av c (onW ow i p)) := Kp.weak hav
  have nl : c.lx ≠ some p := fun z => (R.lent p z).2 hp
  refine ⟨by simp [R.len], R.same.trans hs, fun q h => ⟨(R.lent q h).1, fun z => (R.lent q h).2 (hs.free z)⟩, R.a0, R.b0, fun j q e => ?_, fun j j' q e e' => ?_, fun j h => ?_, fun j y o e1 e2 => ?_⟩
  · unfold onW at e; split at e
    · cases e; exact R.same.free hp nl
    · exact R.fresh j q e
  · unfold onW at e e'
    split at e
    · cases e
      split at e'
      · rename_i h1 h2; rw [h1, h2]
      · exact absurd hp (R.used _ (.inr ⟨j', e'⟩))
    · split at e'
      · cases e'
        exact absurd hp (R.used _ (.inr ⟨j, e⟩))
      · exact R.inj j j' q e e'
  · have h' : ps.length ≤ j := by simpa using h
    unfold onW; rw [if_neg (by omega)]
    exact R.out j h'
  · by_cases hj : j = i
    · subst hj
      rw [List.getElem?_set_self hi] at e1
      rw [List.getElem?_set_self (by rw [← R.len]; exact hi)] at e2
      cases e1; cases e2
      exact ⟨p, by unfold onW; rw [if_pos rfl], rfl, r.keep k2 rfl⟩
    · rw [List.getElem?_set_ne (fun z => hj z.symm)] at e1 e2
      have q := R.slot j y o e1 e2
      have eo : onW ow i p j = ow j := by unfold onW; rw [if_neg hj]
      cases y with
      | no => show onW ow i p j = none; rw [eo]; exact q
      | v w' => obtain ⟨z, v', e3, r'⟩ := q; exact ⟨by rw [eo]; exact z, v', e3, k.rep r'⟩
      | own y =>
        obtain ⟨p', e3, e4, r'⟩ := q
        obtain ⟨o', e5, _⟩ := r'.at
        exact ⟨p', by rw [eo]; exact e3, e4, r'.keep k (by rw [hs _ _ e5, e5])⟩
      | bor w => obtain ⟨z, v', e3, r'⟩ := q; exact ⟨by rw [eo]; exact z, v', e3, bor_keep R.b0 R.same (R.same.trans hs) k r'⟩
      | ino y =>
        obtain ⟨z, z2, p', e3, e4, r'⟩ := q
        obtain ⟨o', e5, _⟩ := r'.at
        exact ⟨by rw [eo]; exact z, z2, p', e3, e4, r'.keep k (by rw [hs _ _ e5, e5])⟩
      | ini kk xs =>
        obtain ⟨z, z2, p', e3, e4, r'⟩ := q
        obtain ⟨o', e5, _⟩ := r'.at
        exact ⟨by rw [eo]; exact z, z2, p', e3, e4, r'.keep k (by rw [hs _ _ e5, e5])⟩
/-- a thing of one's own changes -/
theorem RepS.chg (R : RepS K G c H ow ps σ) {i : Nat} {x y : Ow} {p : Addr} {u : HO} (e : ps[i]? = some (.own x)) (ep : ow i = some p) (r : RepO K G (upd H p u) (av c ow) y p) :
    RepS K G c (upd H p u) ow (ps.set i (.own y)) σ ∧ Kp K G H (av c ow) (upd H p u) (av c ow) := by
  obtain ⟨p', e1, e2, r1⟩ := R.getO e
  rw [ep] at e1; cases e1
  obtain ⟨o, eo, m⟩ := r1.at
  have k : Kp K G H (av c ow) (upd H p u) (av c ow) := Kp.own (.inr ⟨i, ep⟩) eo m
  have sm : SmL c (upd H p u) := fun b o' h n => by
    rw [upd_ne (by intro z; subst z; rw [R.fresh i b ep] at h; cases h)]
    exact R.same _ _ h n
  have npl : ∀ q, c.lx = some q → q ≠ p := fun q h z => by
    subst z
    exact absurd (R.fresh i q ep) (R.a0 q (R.lent q h).1)
  refine ⟨⟨by simp [R.len], sm, fun q h => ⟨(R.lent q h).1, by rw [upd_ne (npl q h)]; exact (R.lent q h).2⟩, R.a0, R.b0, R.fresh, R.inj, fun j h => R.out j (by simpa using h), fun j z o' h1 h2 => ?_⟩, k⟩
  · by_cases hj : j = i
    · subst hj
      have hl : j < ps.length := (List.getElem?_eq_some_iff.mp e).1
      rw [List.getElem?_set_self hl] at h1
      cases h1
      rw [e2] at h2; cases h2
      exact ⟨p, ep, rfl, r⟩
    · rw [List.getElem?_set_ne (fun z => hj z.symm)] at h1
      have q := R.slot j z o' h1 h2
      cases z with
      | no => exact q
      | v w' => obtain ⟨z, v', e3, r'⟩ := q; exact ⟨z, v', e3, k.rep r'⟩
      | own y' =>
        obtain ⟨p', e3, e4, r'⟩ := q
        exact ⟨p', e3, e4, r'.keep k (upd_ne (by intro z; subst z; exact hj (R.inj j i p' e3 ep)))⟩
      | bor w => obtain ⟨z, v', e3, r'⟩ := q; exact ⟨z, v', e3, bor_keep R.b0 R.same sm k r'⟩
      | ino y => obtain ⟨z, z2, p', e3, e4, r'⟩ := q; exact ⟨z, z2, p', e3, e4, r'.keep k (upd_ne (npl p' e4))⟩
      | ini kk xs => obtain ⟨z, z2, p', e3, e4, r'⟩ := q; exact ⟨z, z2, p', e3, e4, r'.keep k (upd_ne (npl p' e4))⟩
/-- a slot's own thing is frozen -/
theorem RepS.frz (R : RepS K G c H ow ps σ) {i : Nat} {x : Ow} (e : ps[i]? = some (.own x)) : ∃ p, σ[i]? = some (some (.ref p)) ∧ RepS K G c H (offW ow i) (ps.set i (.v x.pv)) σ ∧ Rep K G H (av c (offW ow i)) x.pv (.ref p) ∧ Kp K G H (av c ow) H (av c (offW ow i)) := by
  obtain ⟨p, e1, e2, r1⟩ := R.getO e
  have k : Kp K G H (av c ow) H (av c (offW ow i)) := Kp.weak av_off
  have np : ¬ av c (offW ow i) p := by
    rintro (h | ⟨j, h⟩)
    · exact absurd (R.fresh i p e1) (R.a0 p h)
    · unfold offW at h
      split at h
      · cases h
      · rename_i hj; exact hj (R.inj j i p h e1)
  have rp : Rep K G H (av c (offW ow i)) x.pv (.ref p) := (r1.keep k rfl).freeze np
  refine ⟨p, e2, ⟨by simp [R.len], R.same, R.lent, R.a0, R.b0, fun j p e => ?_, fun j j' p e e' => ?_, fun j h => ?_, fun j z o h1 h2 => ?_⟩, rp, k⟩
  · unfold offW at e; split at e
    · cases e
    · exact R.fresh j p e
  · unfold offW at e e'
    split at e
    · cases e
    · split at e'
      · cases e'
      · exact R.inj j j' p e e'
  · unfold offW; split
    · rfl
    · exact R.out j (by simpa using h)
  · by_cases hj : j = i
    · subst hj
      have hl : j < ps.length := (List.getElem?_eq_some_iff.mp e).1
      rw [List.getElem?_set_self hl] at h1
      cases h1
      rw [e2] at h2; cases h2
      exact ⟨by unfold offW; rw [if_pos rfl], _, rfl, rp⟩
    · rw [List.getElem?_set_ne (fun z => hj z.symm)] at h1
      have q := R.slot j z o h1 h2
      have eo : offW ow i j = ow j := by unfold offW; rw [if_neg hj]
      cases z with
      | no => show offW ow i j = none; rw [eo]; exact q
      | v w' => obtain ⟨z, v', e3, r'⟩ := q; exact ⟨by rw [eo]; exact z, v', e3, k.rep r'⟩
      | own y => obtain ⟨p, e3, e4, r'⟩ := q; exact ⟨p, by rw [eo]; exact e3, e4, r'.keep k rfl⟩
      | bor w => obtain ⟨z, v', e3, r'⟩ := q; exact ⟨by rw [eo]; exact z, v', e3, bor_keep R.b0 R.same R.same k r'⟩
      | ino y => obtain ⟨z, z2, p, e3, e4, r'⟩ := q; exact ⟨by rw [eo]; exact z, z2, p, e3, e4, r'.keep k rfl⟩
      | ini kk xs => obtain ⟨z, z2, p, e3, e4, r'⟩ := q; exact ⟨by rw [eo]; exact z, z2, p, e3, e4, r'.keep k rfl⟩
/-- the lent thing changes -/
theorem RepS.chgL (R : RepS K G c H ow ps σ) {s s' : Sl} {p : Addr} {o u : HO} (e : ps[0]? = some s) (hl : c.lx = some p) (hp : H p = some o) (m : Mt o) (r : ∀ v, σ[0]? = some v → SlAt K G c (upd H p u) (av c ow) ow 0 s' v) :
    RepS K G c (upd H p u) ow (ps.set 0 s') σ ∧ Kp K G H (av c ow) (upd H p u) (av c ow) := by
  have hA := (R.lent p hl).1
  have k : Kp K G H (av c ow) (upd H p u) (av c ow) := Kp.own (.inl hA) hp m
  have sm : SmL c (upd H p u) := fun b o' h n => by
    rw [upd_ne (by intro z; subst z; exact n hl)]
    exact R.same _ _ h n
  refine ⟨⟨by simp [R.len], sm, fun q h => ⟨(R.lent q h).1, ?_⟩, R.a0, R.b0, R.fresh, R.inj, fun j h => R.out j (by simpa using h), fun j z o' h1 h2 => ?_⟩, k⟩
  · rw [hl] at h; cases h; rw [upd_same]; simp
  · by_cases hj : j = 0
    · subst hj
      have hlt : 0 < ps.length := (List.getElem?_eq_some_iff.mp e).1
      rw [List.getElem?_set_self hlt] at h1
      cases h1
      exact r o' h2
    · rw [List.getElem?_set_ne (fun z => hj z.symm)] at h1
      have q := R.slot j z o' h1 h2
      cases z with
      | no => exact q
      | v w' => obtain ⟨z, v', e3, r'⟩ := q; exact ⟨z, v', e3, k.rep r'⟩
      | own y' =>
        obtain ⟨p', e3, e4, r'⟩ := q
        exact ⟨p', e3, e4, r'.keep k (upd_ne (by intro z; subst z; exact absurd (R.fresh j p' e3) (R.a0 p' hA)))⟩
      | bor w => obtain ⟨z, v', e3, r'⟩ := q; exact ⟨z, v', e3, bor_keep R.b0 R.same sm k r'⟩
      | ino y => exact absurd q.2.1 hj
      | ini kk xs => exact absurd q.2.1 hj
end
end DN
end
section
set_option Elab.async false
set_option linter.all false
set_option maxRecDepth 100000
set_option maxHeartbeats 4000000
namespace DN
open PySem PySem.Spec PyProof.Rows L2
abbrev DP := PSt → Rx PV
abbrev DA := PSt → Rx (List PV)
abbrev DT := PSt → Rx Bool
abbrev DM := PSt → Rx (PV × PSt)
abbrev DMA := PSt → Rx (List PV × PSt)
/-- an expression that changes nothing; one that is only looked at; a test; arguments (true: only looked at); a new list -/
def tPv (K : PySem.W.Frag) (G : Pg) (d : DP) : TE := fun σ H Q => ∃ (c : Fr) (ow : Ows) (ps : PSt) (w : PV), RepS K G c H ow ps σ ∧ d ps = .ok w ∧ ∀ v H', Same H H' → Rep K G H' (av c ow) w v → Q v H'
def tPb (K : PySem.W.Frag) (G : Pg) (d : DP) : TE := fun σ H Q => ∃ (c : Fr) (ow : Ows) (ps : PSt) (w : PV), RepS K G c H ow ps σ ∧ d ps = .ok w ∧ ∀ v H', Same H H' → RepB K G H' (av c ow) w v → Q v H'
def tPt (K : PySem.W.Frag) (G : Pg) (d : DT) : TT := fun σ H Q => ∃ (c : Fr) (ow : Ows) (ps : PSt) (b : Bool), RepS K G c H ow ps σ ∧ d ps = .ok b ∧ ∀ H', Same H H' → Q b H'
def RepM (K : PySem.W.Frag) (G : Pg) (H : Hp) (A : Av) : List Bool → List PV → List V → Prop
  | [], ws, vs => ws = [] ∧ vs = []
  | m :: ms, ws, vs => ∃ w wr v vr, ws = w :: wr ∧ vs = v :: vr ∧ (if m = true then RepB K G H A w v else Rep K G H A w v) ∧ RepM K G H A ms wr vr
def tPa (K : PySem.W.Frag) (G : Pg) (ms : List Bool) (d : DA) : TA := fun σ H Q => ∃ (c : Fr) (ow : Ows) (ps : PSt) (ws : List PV), RepS K G c H ow ps σ ∧ d ps = .ok ws ∧ ∀ vs H', Same H H' → RepM K G H' (av c ow) ms ws vs → Q vs H'
/-- the new list stands at p, apart from all that is known -/
def tPn (K : PySem.W.Frag) (G : Pg) (d : DA) : TE := fun σ H Q => ∃ (c : Fr) (ow : Ows) (ps : PSt) (ws : List PV), RepS K G c H ow ps σ ∧ d ps = .ok ws ∧ ∀ p vs H', Same H H' → H p = none → H' p = some (.lst vs) → Reps K G H' (fun a => av c ow a ∨ a = p) ws vs → Q (.ref p) H'
/-- one that may change things of one's own -/
def tMv (K : PySem.W.Frag) (G : Pg) (d : DM) : TE := fun σ H Q => ∃ (c : Fr) (ow : Ows) (ps : PSt) (w : PV) (ps' : PSt), RepS K G c H ow ps σ ∧ d ps = .ok (w, ps') ∧
  ∀ v H' ow', RepS K G c H' ow' ps' σ → Kp K G H (av c ow) H' (av c ow') → Rep K G H' (av c ow') w v → Q v H'
abbrev JP (X : Cx) (G : Pg) (e : Expr) (d : DP) : Prop := PE X e (tPv X.K G d)
abbrev JB (X : Cx) (G : Pg) (e : Expr) (d : DP) : Prop := PE X e (tPb X.K G d)
abbrev JT (X : Cx) (G : Pg) (e : Expr) (d : DT) : Prop := PT X e (tPt X.K G d)
abbrev JW (X : Cx) (G : Pg) (e : Expr) (d : DT) : Prop := PW X e (tPt X.K G d)
abbrev JA (X : Cx) (G : Pg) (ms : List Bool) (es : List Expr) (d : DA) : Prop := PA X es (tPa X.K G ms d)
abbrev JN (X : Cx) (G : Pg) (e : Expr) (d : DA) : Prop := PE X e (tPn X.K G d)
abbrev JM (X : Cx) (G : Pg) (e : Expr) (d : DM) : Prop := PE X e (tMv X.K G d)
theorem imp {X : Cx} {e : Expr} {t t' : TE} (h : PE X e t) (f : ∀ σ H Q, t' σ H Q → t σ H Q) : PE X e t' := fun pins s σ H Q I q => h pins s σ H Q I (f σ H Q q)
theorem impT {X : Cx} {e : Expr} {t t' : TT} (h : PT X e t) (f : ∀ σ H Q, t' σ H Q → t σ H Q) : PT X e t' := fun pins s σ H Q I q => h pins s σ H Q I (f σ H Q q)
theorem impW {X : Cx} {e : Expr} {t t' : TT} (h : PW X e t) (f : ∀ σ H Q, t' σ H Q → t σ H Q) : PW X e t' := fun wh pins s σ H Q I q => h wh pins s σ H Q I (f σ H Q q)
theorem impA {X : Cx} {es : List Expr} {t t' : TA} (h : PA X es t) (f : ∀ σ H Q, t' σ H Q → t σ H Q) : PA X es t' := fun pos pins s σ H Q I q => h pos pins s σ H Q I (f σ H Q q)
section
variable {K : PySem.W.Frag} {G : Pg} {H H' : Hp} {A A' : Av}
theorem RepB.same {w : PV} {v : V} (h : RepB K G H A w v) (s : Same H H') : RepB K G H' A w v := by
  rcases h with h | ⟨x, p, e1, e2, r⟩
  · exact .inl (h.same s)
  · obtain ⟨o, eo, _⟩ := r.at
    exact .inr ⟨x, p, e1, e2, r.keep (Kp.of_same s) (by rw [s _ _ eo, eo])⟩
theorem RepM.same : ∀ {ms : List Bool} {ws : List PV} {vs : List V}, RepM K G H A ms ws vs → Same H H' → RepM K G H' A ms ws vs
  | [], ws, vs, h, s => h
  | m :: ms, ws, vs, h, s => by
    obtain ⟨w, wr, v, vr, e1, e2, r, rr⟩ := h
    refine ⟨w, wr, v, vr, e1, e2, ?_, RepM.same rr s⟩
    cases m with
    | true => rw [if_pos rfl] at r ⊢; exact r.same s
    | false => rw [if_neg Bool.false_ne_true] at r ⊢; exact r.same s
theorem RepB.lst {xs : List PV} {v : V} (h : RepB K G H A (.lst xs) v) : ∃ a vs, v = .ref a ∧ SqL K H a vs ∧ Reps K G H A xs vs := by
  rcases h with ⟨a, vs, e, r, q⟩ | ⟨x, p, e1, e2, r⟩
  · exact ⟨a, vs, e, r.sq, q⟩
  · cases x with
    | lst ys => cases e1; obtain ⟨vs, q, r⟩ := r; exact ⟨p, vs, e2, SqL.of q, r⟩
    | dic ks ys => cases e1
    | obj k ys => cases e1
theorem RepB.tup {xs : List PV} {v : V} (h : RepB K G H A (.tup xs) v) : ∃ a vs, v = .ref a ∧ SqT K H a vs ∧ Reps K G H A xs vs := by
  rcases h with h | ⟨x, p, e1, e2, r⟩
  · exact h
  · cases x <;> cases e1
theorem RepB.int {i : Int} {v : V} (h : RepB K G H A (.int i) v) : v = .int i := by
  rcases h with h | ⟨x, p, e1, e2, r⟩
  · exact h
  · cases x <;> cases e1
theorem RepB.str {i : Str} {v : V} (h : RepB K G H A (.str i) v) : v = .str i := by
  rcases h with h | ⟨x, p, e1, e2, r⟩
  · exact h
  · cases x <;> cases e1
theorem RepB.bl {i : Bool} {v : V} (h : RepB K G H A (.bl i) v) : v = .bl i := by
  rcases h with h | ⟨x, p, e1, e2, r⟩
  · exact h
  · cases x <;> cases e1
theorem RepB.non {v : V} (h : RepB K G H A .non v) : v = .non := by
  rcases h with h | ⟨x, p, e1, e2, r⟩
  · exact h
  · cases x <;> cases e1
theorem RepB.obj {k : Nat} {xs : List PV} {v : V} (h : RepB K G H A (.obj k xs) v) : ∃ a dx vs, v = .ref a ∧ H a = some (.ins (G.cA k) dx ((G.fN k).zip vs)) ∧ (G.fN k).length = vs.length ∧ Reps K G H A xs vs := by
  rcases h with ⟨a, dx, vs, e, q, l, n, r⟩ | ⟨x, p, e1, e2, r⟩
  · exact ⟨a, dx, vs, e, q, l, r⟩
  · cases x with
    | lst ys => cases e1
    | dic ks ys => cases e1
    | obj k' ys => cases e1; obtain ⟨dx, vs, q, l, r⟩ := r; exact ⟨p, dx, vs, e2, q, l, r⟩
theorem RepB.dic {ks : List Key} {xs : List PV} {v : V} (h : RepB K G H A (.dic ks xs) v) : ∃ a vs, v = .ref a ∧ H a = some (.dK (ks.zip vs)) ∧ ks.length = vs.length ∧ Reps K G H A xs vs := by
  rcases h with ⟨a, vs, e, q, l, n, r⟩ | ⟨x, p, e1, e2, r⟩
  · exact ⟨a, vs, e, q, l, r⟩
  · cases x with
    | lst ys => cases e1
    | dic ks' ys => cases e1; obtain ⟨vs, q, l, r⟩ := r; exact ⟨p, vs, e2, q, l, r⟩
    | obj k ys => cases e1
theorem RepB.clo {f : Nat} {xs : List PV} {v : V} (h : RepB K G H A (.clo f xs) v) : Rep K G H A (.clo f xs) v := by
  rcases h with h | ⟨x, p, e1, e2, r⟩
  · exact h
  · cases x <;> cases e1
theorem RepM.reps : ∀ {ws : List PV} {vs : List V} {n : Nat}, RepM K G H A (List.replicate n false) ws vs → Reps K G H A ws vs
  | ws, vs, 0, h => by obtain ⟨rfl, rfl⟩ := h; rfl
  | ws, vs, n + 1, h => by
    obtain ⟨w, wr, v, vr, rfl, rfl, r, rr⟩ := h
    rw [if_neg Bool.false_ne_true] at r
    exact ⟨v, vr, rfl, r, RepM.reps rr⟩
theorem RepM.len : ∀ {ms : List Bool} {ws : List PV} {vs : List V}, RepM K G H A ms ws vs → ws.length = ms.length ∧ vs.length = ms.length
  | [], ws, vs, h => by obtain ⟨rfl, rfl⟩ := h; exact ⟨rfl, rfl⟩
  | m :: ms, ws, vs, h => by
    obtain ⟨w, wr, v, vr, rfl, rfl, r, rr⟩ := h
    have := RepM.len rr
    simp [this]
theorem RepM.weak : ∀ {ms : List Bool} {ws : List PV} {vs : List V}, Reps K G H A ws vs → ws.length = ms.length → RepM K G H A ms ws vs
  | [], [], vs, h, _ => ⟨rfl, h⟩
  | [], _ :: _, vs, h, l => by simp at l
  | m :: ms, [], vs, h, l => by simp at l
  | m :: ms, w :: ws, vs, h, l => by
    obtain ⟨v, r, e, h1, h2⟩ := h
    refine ⟨w, ws, v, r, rfl, e, ?_, RepM.weak h2 (by simpa using l)⟩
    cases m with
    | true => rw [if_pos rfl]; exact .inl h1
    | false => rw [if_neg Bool.false_ne_true]; exact h1
end
section
variable {X : Cx} {G : Pg} {e a b : Expr} {da db : DP} {pos : Pos}
/-! ### coercions -/
theorem b_of (h : JP X G e da) : JB X G e da := imp h fun σ H Q ⟨c, ow, ps, w, R, e, q⟩ => ⟨c, ow, ps, w, R, e, fun v H' s r => q v H' s (.inl r)⟩
def dOfN (d : DA) : DP := fun ps => (d ps).bind fun ws => .ok (.lst ws)
theorem p_of_n {d : DA} (h : JN X G e d) : JP X G e (dOfN d) := imp h fun σ H Q ⟨c, ow, ps, w, R, e, q⟩ => by
  obtain ⟨ws, e1, e2⟩ := bind_ok e
  cases e2
  refine ⟨c, ow, ps, ws, R, e1, fun p vs H' s hp hv r => q (.ref p) H' s ⟨p, vs, rfl, .inl ⟨hv, fun z => R.used p z hp⟩, (Kp.weak fun a z => Or.inl z).reps r⟩⟩
def dLift (d : DP) : DM := fun ps => (d ps).bind fun w => .ok (w, ps)
theorem m_of (h : JP X G e da) : JM X G e (dLift da) := imp h fun σ H Q ⟨c, ow, ps, w, ps', R, e, q⟩ => by
  obtain ⟨w1, e1, e2⟩ := bind_ok e
  cases e2
  exact ⟨c, ow, ps, w, R, e1, fun v H' s r => q v H' ow (R.grow s) (Kp.of_same s) r⟩
/-! ### names and constants -/
def dVar (i : Nat) : DP := fun ps => match ps[i]? with | some (.v w) => .ok w | _ => .bad
def dSee (i : Nat) : DP := fun ps => match ps[i]? with | some (.v w) => .ok w | some (.own x) => .ok x.pv | some (.bor w) => .ok w | _ => .bad
theorem p_var (i : Nat) {x : Str} {pos : Pos} (hN : X.N[i]? = some x := by rfl) (hv : Vis X.env.scope x := by first | exact Or.inl rfl | exact Or.inr (Or.inl rfl) | exact Or.inr (Or.inr rfl)) (hd : (x == ("__debug__" : Str)) = false := by decide)
    (hcd : (x == ("__classdict__" : Str)) = false := by decide) : JP X G (.Name x pos) (dVar i) := imp (pe_var hN hv hd hcd) fun σ H Q ⟨c, ow, ps, w, R, e, q⟩ => by
  unfold dVar at e
  split at e
  · rename_i w' h
    cases e
    obtain ⟨v, ev, r⟩ := R.getV h
    exact ⟨v, ev, q v H (Same.refl H) r⟩
  · cases e
theorem b_var (i : Nat) {x : Str} {pos : Pos} (hN : X.N[i]? = some x := by rfl) (hv : Vis X.env.scope x := by first | exact Or.inl rfl | exact Or.inr (Or.inl rfl) | exact Or.inr (Or.inr rfl)) (hd : (x == ("__debug__" : Str)) = false := by decide)
    (hcd : (x == ("__classdict__" : Str)) = false := by decide) : JB X G (.Name x pos) (dSee i) := imp (pe_var hN hv hd hcd) fun σ H Q ⟨c, ow, ps, w, R, e, q⟩ => by
  unfold dSee at e
  split at e
  · rename_i w' h
    cases e
    obtain ⟨v, ev, r⟩ := R.getV h
    exact ⟨v, ev, q v H (Same.refl H) (.inl r)⟩
  · rename_i x' h
    cases e
    obtain ⟨p, e1, e2, r⟩ := R.getO h
    exact ⟨_, e2, q _ H (Same.refl H) (.inr ⟨x', p, rfl, rfl, r⟩)⟩
  · rename_i w' h
    cases e
    obtain ⟨o, eo, _, v, rfl, r⟩ := R.get h
    refine ⟨v, eo, q v H (Same.refl H) ?_⟩
    rcases r with r | ⟨x, p, e1, e2, r, _⟩
    · exact .inl r
    · exact .inr ⟨x, p, e1, e2, r⟩
  · cases e
def dC (w : PV) : DP := fun _ => .ok w
theorem p_con {t : V} {w : PV} (h : PE X e (tC t)) (hr : ∀ H A, Rep X.K G H A w t) : JP X G e (dC w) := imp h fun σ H Q ⟨c, ow, ps, w, R, e, q⟩ => by
  cases e
  exact q _ H (Same.refl H) (hr _ _)
theorem p_int {i j pos} : JP X G (.Constant (.int i) j pos) (dC (.int i)) := p_con pe_int fun _ _ => rfl
theorem p_bl {i j pos} : JP X G (.Constant (.bool i) j pos) (dC (.bl i)) := p_con pe_bl fun _ _ => rfl
theorem p_non {j pos} : JP X G (.Constant .none j pos) (dC .non) := p_con pe_non fun _ _ => rfl
theorem p_str {i j pos} : JP X G (.Constant (.str i) j pos) (dC (.str i)) := p_con pe_str fun _ _ => rfl
theorem p_topT {x : Str} {t : Addr} {ws : List PV} {vs : List V} {pos : Pos} (T : TopT X.K t vs) (hg : Gl X x) (hm : X.mg x = some (.ref t)) (hr : ∀ H A, Reps X.K G H A ws vs) (hd : (x == ("__debug__" : Str)) = false := by decide) : JP X G (.Name x pos) (dC (.tup ws)) :=
  p_con (pe_globR hg hm hd) fun H A => ⟨t, vs, rfl, T.sq H, hr H A⟩
theorem p_topI {x : Str} {i : Int} {tk : Tok} {pos : Pos} (hg : Gl X x) (hm : X.mg x = some (.int i tk)) (hd : (x == ("__debug__" : Str)) = false := by decide) : JP X G (.Name x pos) (dC (.int i)) := p_con (pe_globI hg hm hd) fun _ _ => rfl
theorem p_topS {x : Str} {i : Str} {tk : Tok} {pos : Pos} (hg : Gl X x) (hm : X.mg x = some (.str i tk)) (hd : (x == ("__debug__" : Str)) = false := by decide) : JP X G (.Name x pos) (dC (.str i)) := p_con (pe_glob (v := .str i) hg hm ⟨_, rfl⟩ hd) fun _ _ => rfl
/-! ### two operands -/
def d2 (f : PV → PV → Rx PV) (a b : DP) : DP := fun ps => (a ps).bind fun x => (b ps).bind fun y => f x y
abbrev Used (H : Hp) (A : Av) : Prop := ∀ a, A a → H a ≠ none
def Op2 (K : PySem.W.Frag) (G : Pg) (f : PV → PV → Rx PV) (r : R2) : Prop := ∀ (H : Hp) (A : Av) (x y w : PV) (v u : V) (Q : VK), Used H A → f x y = .ok w → RepB K G H A x v → RepB K G H A y u → (∀ z H', Same H H' → Rep K G H' A w z → Q z H') → r v u H Q
theorem bin2 {K : PySem.W.Frag} {f : PV → PV → Rx PV} {r : R2} (hf : Op2 K G f r) {σ : L2.St} {H : Hp} {Q : VK} (h : tPv K G (d2 f da db) σ H Q) : tOp r (tPb K G da) (tPb K G db) σ H Q := by
  obtain ⟨c, ow, ps, w, R, e, q⟩ := h
  obtain ⟨x, e1, e⟩ := bind_ok e
  obtain ⟨y, e2, e⟩ := bind_ok e
  exact ⟨c, ow, ps, x, R, e1, fun v H1 s1 r1 => ⟨c, ow, ps, y, R.grow s1, e2, fun u H2 s2 r2 => hf H2 _ x y w v u Q ((R.grow s1).grow s2).used e (r1.same s2) r2 fun z H3 s3 r3 => q z H3 ((s1.trans s2).trans s3) r3⟩⟩
theorem p_op {op : Operator} {r : R2} {f : PV → PV → Rx PV} (ho : OpR X (binaryOp op) r) (hf : Op2 X.K G f r) (ha : JB X G a da) (hb : JB X G b db) : JP X G (.BinOp a op b pos) (d2 f da db) := imp (pe_op ho ha hb) fun _ _ _ => bin2 hf
theorem p_cmp {op : CmpOp} {r : R2} {f : PV → PV → Rx PV} (ho : OpR X (compareOp op) r) (hf : Op2 X.K G f r) (ha : JB X G a da) (hb : JB X G b db) (hm : behindInMarks op b = false) : JP X G (.Compare a [op] [b] pos) (d2 f da db) := imp (pe_cmpR ho ha hb hm) fun _ _ _ => bin2 hf
def dTr (d : DP) : DT := fun ps => (d ps).bind fun x => match x with | .bl b => .ok b | _ => .bad
theorem t_cmp {op : CmpOp} {r : R2} {f : PV → PV → Rx PV} (ho : OpR X (compareOp op) r) (hf : Op2 X.K G f r) (ha : JB X G a da) (hb : JB X G b db) (hm : behindInMarks op b = false) : JT X G (.Compare a [op] [b] pos) (dTr (d2 f da db)) :=
  impT (pt_cmpR ho ha hb hm) fun σ H Q ⟨c, ow, ps, b, R, e, q⟩ => by
    obtain ⟨x, e1, e2⟩ := bind_ok e
    have : x = .bl b := by
      cases x <;> first | (cases e2; rfl) | cases e2
    subst this
    exact bin2 hf ⟨c, ow, ps, _, R, e1, fun v H' s r => ⟨b, r, q H' s⟩⟩
theorem p_ix {f : PV → PV → Rx PV} (hf : Op2 X.K G f (rIx X.K)) (ha : JB X G a da) (hb : JB X G b db) (hs : PlainIx b) : JP X G (.Subscript a b pos) (d2 f da db) := imp (pe_ix ix_seq ha hb hs) fun _ _ _ => bin2 hf
def fI (g : Int → Int → PV) : PV → PV → Rx PV
  | .int i, .int j => .ok (g i j)
  | _, _ => .bad
def fIc (C : Int → Int → Prop) [∀ i j, Decidable (C i j)] (g : Int → Int → PV) : PV → PV → Rx PV
  | .int i, .int j => if C i j then .ok (g i j) else .bad
  | _, _ => .bad
/-- a flat value as it is -/
def flat : PV → V
  | .non => .non | .bl b => .bl b | .int i => .int i | .str x => .str x | _ => .ref 0
theorem o2_I {K : PySem.W.Frag} {g : Int → Int → PV} {g' : Int → Int → V} (h : ∀ i j H A, Rep K G H A (g i j) (g' i j)) : Op2 K G (fI g) (rI0 g') := by
  intro H A x y w v u Q hu e r1 r2 q
  cases x <;> try cases e
  cases y <;> try cases e
  exact ⟨_, _, r1.int, r2.int, q _ H (Same.refl H) (h _ _ _ _)⟩
theorem o2_Ic {K : PySem.W.Frag} {C : Int → Int → Prop} [∀ i j, Decidable (C i j)] {C' : Int → Int → Prop} {g : Int → Int → PV} {g' : Int → Int → V} (hc : ∀ i j, C i j → C' i j) (h : ∀ i j H A, Rep K G H A (g i j) (g' i j)) : Op2 K G (fIc C g) (rI C' g') := by
  intro H A x y w v u Q hu e r1 r2 q
  cases x <;> try cases e
  cases y <;> try cases e
  rename_i i j
  have e : (if C i j then Rx.ok (g i j) else .bad) = .ok w := e
  split at e
  · rename_i hC
    cases e
    exact ⟨_, _, r1.int, r2.int, hc _ _ hC, q _ H (Same.refl H) (h _ _ _ _)⟩
  · cases e
abbrev fAdd := fI fun i j => .int (i + j)
abbrev fSub := fI fun i j => .int (i - j)
abbrev fLt := fI fun i j => .bl (decide (i < j))
abbrev fLe := fI fun i j => .bl (decide (i ≤ j))
abbrev fGt := fI fun i j => .bl (decide (j < i))
abbrev fAnd := fI fun i j => .int (Builtin.bitAnd i j)
abbrev fMul := fIc (fun i j => (-(2 ^ 64) < i ∧ i < 2 ^ 64) ∨ (-(2 ^ 64) < j ∧ j < 2 ^ 64)) fun i j => .int (i * j)
abbrev fMod := fIc (fun _ j => 0 < j) fun i j => .int (i % j)
abbrev fDiv := fIc (fun _ j => 0 < j ∧ j < 1073741824) fun i j => .int (i / j)
abbrev fShr := fIc (fun _ j => 0 ≤ j) fun i j => .int (i / 2 ^ j.toNat)
theorem p_add (ha : JB X G a da) (hb : JB X G b db) : JP X G (.BinOp a .Add b pos) (d2 fAdd da db) := p_op op_add (o2_I fun _ _ _ _ => rfl) ha hb
theorem p_sub (ha : JB X G a da) (hb : JB X G b db) : JP X G (.BinOp a .Sub b pos) (d2 fSub da db) := p_op op_sub (o2_I fun _ _ _ _ => rfl) ha hb
theorem p_and (ha : JB X G a da) (hb : JB X G b db) : JP X G (.BinOp a .BitAnd b pos) (d2 fAnd da db) := p_op op_and (o2_I fun _ _ _ _ => rfl) ha hb
theorem p_mul (ha : JB X G a da) (hb : JB X G b db) : JP X G (.BinOp a .Mult b pos) (d2 fMul da db) := p_op op_mul (o2_Ic (fun _ _ h => h) fun _ _ _ _ => rfl) ha hb
theorem p_mod (ha : JB X G a da) (hb : JB X G b db) : JP X G (.BinOp a .Mod b pos) (d2 fMod da db) := p_op op_mod (o2_Ic (fun _ _ h => h) fun _ _ _ _ => rfl) ha hb
theorem p_div (ha : JB X G a da) (hb : JB X G b db) : JP X G (.BinOp a .FloorDiv b pos) (d2 fDiv da db) := p_op op_fdiv (o2_Ic (fun _ _ h => h) fun _ _ _ _ => rfl) ha hb
theorem p_shr (ha : JB X G a da) (hb : JB X G b db) : JP X G (.BinOp a .RShift b pos) (d2 fShr da db) := p_op op_shr (o2_Ic (fun _ _ h => h) fun _ _ _ _ => rfl) ha hb
theorem t_lt (ha : JB X G a da) (hb : JB X G b db) : JT X G (.Compare a [.Lt] [b] pos) (dTr (d2 fLt da db)) := t_cmp op_lt (o2_I fun _ _ _ _ => rfl) ha hb (nomark _)
theorem t_le (ha : JB X G a da) (hb : JB X G b db) : JT X G (.Compare a [.LtE] [b] pos) (dTr (d2 fLe da db)) := t_cmp op_le (o2_I fun _ _ _ _ => rfl) ha hb (nomark _)
theorem t_gt (ha : JB X G a da) (hb : JB X G b db) : JT X G (.Compare a [.Gt] [b] pos) (dTr (d2 fGt da db)) := t_cmp op_gt (o2_I fun _ _ _ _ => rfl) ha hb (nomark _)
/-! ### texts -/
def fCatS : PV → PV → Rx PV
  | .str x, .str y => if x.length + y.length ≤ sizeLine then .ok (.str (x ++ y)) else .bad
  | _, _ => .bad
theorem p_catS (ha : JB X G a da) (hb : JB X G b db) : JP X G (.BinOp a .Add b pos) (d2 fCatS da db) := p_op op_add_str (by
  intro H A x y w v u Q hu e r1 r2 q
  cases x <;> try cases e
  cases y <;> try cases e
  rename_i x y
  have e : (if x.length + y.length ≤ sizeLine then Rx.ok (PV.str (x ++ y)) else .bad) = .ok w := e
  split at e
  · rename_i h; cases e; exact ⟨_, _, r1.str, r2.str, h, q _ H (Same.refl H) rfl⟩
  · cases e) ha hb
/-! ### is None -/
def isN : PV → Bool
  | .non => true
  | _ => false
def dIsN (d : DP) : DP := fun ps => (d ps).bind fun x => .ok (.bl (isN x))
def dNotN (d : DP) : DP := fun ps => (d ps).bind fun x => .ok (.bl (!isN x))
theorem isN_dec {K : PySem.W.Frag} {H : Hp} {A : Av} {x : PV} {v : V} (r : RepB K G H A x v) : decide (v = .non) = isN x := by
  cases x with
  | non => rw [r.non]; rfl
  | bl b => rw [r.bl]; rfl
  | int i => rw [r.int]; rfl
  | str i => rw [r.str]; rfl
  | tup xs => obtain ⟨a, vs, e, _⟩ := r.tup; rw [e]; rfl
  | lst xs => obtain ⟨a, vs, e, _⟩ := r.lst; rw [e]; rfl
  | obj k xs => obtain ⟨a, dx, vs, e, _⟩ := r.obj; rw [e]; rfl
  | dic ks xs => obtain ⟨a, vs, e, _⟩ := r.dic; rw [e]; rfl
  | clo f xs => obtain ⟨a, cl, vs, e, _⟩ := r.clo; rw [e]; rfl
/-! ### tests: a truth, and, or, not -/
theorem t_val {d : DP} (h : JP X G e d) (he : ∀ whole, isTrue e X.env whole = (do let v ← whole; standAt e.pos; holding [v] (truthy v)) := by intro _; rfl) : JT X G e (dTr d) := impT (pt_val h he) fun σ H Q ⟨c, ow, ps, b, R, e, q⟩ => by
  obtain ⟨x, e1, e2⟩ := bind_ok e
  have : x = .bl b := by
    cases x <;> first | (cases e2; rfl) | cases e2
  subst this
  exact ⟨c, ow, ps, _, R, e1, fun v H' s r => ⟨b, r, q H' s⟩⟩
theorem t_isN {j pos'} (ha : JB X G a da) : JT X G (.Compare a [.Is] [.Constant .none j pos'] pos) (dTr (dIsN da)) := impT (pt_cmp (pc_isN ha)) fun σ H Q ⟨c, ow, ps, b, R, e, q⟩ => by
  obtain ⟨y, e1, e2⟩ := bind_ok e
  obtain ⟨x, e3, e4⟩ := bind_ok e1
  cases e4
  cases e2
  exact ⟨c, ow, ps, x, R, e3, fun v H' s r => ⟨_, by rw [isN_dec r], q H' s⟩⟩
theorem t_notN {j pos'} (ha : JB X G a da) : JT X G (.Compare a [.IsNot] [.Constant .none j pos'] pos) (dTr (dNotN da)) := impT (pt_cmp (pc_notN ha)) fun σ H Q ⟨c, ow, ps, b, R, e, q⟩ => by
  obtain ⟨y, e1, e2⟩ := bind_ok e
  obtain ⟨x, e3, e4⟩ := bind_ok e1
  cases e4
  cases e2
  exact ⟨c, ow, ps, x, R, e3, fun v H' s r => ⟨_, by rw [isN_dec r], q H' s⟩⟩
def dAndT (a b : DT) : DT := fun ps => (a ps).bind fun x => if x = true then b ps else .ok false
def dOrT (a b : DT) : DT := fun ps => (a ps).bind fun x => if x = true then .ok true else b ps
def dNotT (a : DT) : DT := fun ps => (a ps).bind fun x => .ok (!x)
theorem and_t {K : PySem.W.Frag} {ta tb : DT} {σ : L2.St} {H : Hp} {Q : Bool → Hp → Prop} (h : tPt K G (dAndT ta tb) σ H Q) : tAnd (tPt K G ta) (tPt K G tb) σ H Q := by
  obtain ⟨c, ow, ps, b, R, e, q⟩ := h
  obtain ⟨x, e1, e2⟩ := bind_ok e
  refine ⟨c, ow, ps, x, R, e1, fun H' s => ?_⟩
  split at e2
  · rename_i hx; subst hx
    exact iteT ⟨c, ow, ps, b, R.grow s, e2, fun H2 s2 => q H2 (s.trans s2)⟩
  · rename_i hx
    cases e2
    have : x = false := by simpa using hx
    subst this
    exact iteF (q H' s)
theorem or_t {K : PySem.W.Frag} {ta tb : DT} {σ : L2.St} {H : Hp} {Q : Bool → Hp → Prop} (h : tPt K G (dOrT ta tb) σ H Q) : tOr (tPt K G ta) (tPt K G tb) σ H Q := by
  obtain ⟨c, ow, ps, b, R, e, q⟩ := h
  obtain ⟨x, e1, e2⟩ := bind_ok e
  refine ⟨c, ow, ps, x, R, e1, fun H' s => ?_⟩
  split at e2
  · rename_i hx; subst hx
    cases e2
    exact iteT (q H' s)
  · rename_i hx
    have : x = false := by simpa using hx
    subst this
    exact iteF ⟨c, ow, ps, b, R.grow s, e2, fun H2 s2 => q H2 (s.trans s2)⟩
section
variable {ta tb : DT} {rest : List Expr}
theorem w_and1 (ha : JT X G a ta) : JW X G (.BoolOp .And [a] pos) ta := pw_and1 ha
theorem w_or1 (ha : JT X G a ta) : JW X G (.BoolOp .Or [a] pos) ta := pw_or1 ha
theorem w_and (ha : JT X G a ta) (hb : JW X G (.BoolOp .And (b :: rest) pos) tb) : JW X G (.BoolOp .And (a :: b :: rest) pos) (dAndT ta tb) := impW (pw_and ha hb) fun _ _ _ => and_t
theorem w_or (ha : JT X G a ta) (hb : JW X G (.BoolOp .Or (b :: rest) pos) tb) : JW X G (.BoolOp .Or (a :: b :: rest) pos) (dOrT ta tb) := impW (pw_or ha hb) fun _ _ _ => or_t
theorem t_w (h : JW X G e ta) : JT X G e ta := PW.pt h
theorem t_not (ha : JT X G a ta) : JT X G (.UnaryOp .Not a pos) (dNotT ta) := impT (pt_not ha) fun σ H Q ⟨c, ow, ps, b, R, e, q⟩ => by
  obtain ⟨x, e1, e2⟩ := bind_ok e
  cases e2
  exact ⟨c, ow, ps, x, R, e1, fun H' s => q H' s⟩
end
/-! ### and, or, not as values (truths) -/
def dAndV (a b : DP) : DP := fun ps => (a ps).bind fun x => match x with | .bl true => b ps | .bl false => .ok (.bl false) | _ => .bad
def dOrV (a b : DP) : DP := fun ps => (a ps).bind fun x => match x with | .bl true => .ok (.bl true) | .bl false => b ps | _ => .bad
def dNotV (a : DP) : DP := fun ps => (a ps).bind fun x => match x with | .bl k => .ok (.bl (!k)) | _ => .bad
section
variable {rest : List Expr}
theorem p_one {op} (h : JP X G a da) : JP X G (.BoolOp op [a] pos) da := pe_one h
theorem p_andV (ha : JP X G a da) (hb : JP X G (.BoolOp .And (b :: rest) pos) db) : JP X G (.BoolOp .And (a :: b :: rest) pos) (dAndV da db) := imp (pe_and ha hb) fun σ H Q ⟨c, ow, ps, w, R, e, q⟩ => by
  obtain ⟨x, e1, e2⟩ := bind_ok e
  refine ⟨c, ow, ps, x, R, e1, fun v H' s r => ?_⟩
  split at e2
  · exact ⟨true, r, iteT ⟨c, ow, ps, w, R.grow s, e2, fun v2 H2 s2 r2 => q v2 H2 (s.trans s2) r2⟩⟩
  · cases e2; exact ⟨false, r, iteF (q _ H' s rfl)⟩
  · cases e2
theorem p_orV (ha : JP X G a da) (hb : JP X G (.BoolOp .Or (b :: rest) pos) db) : JP X G (.BoolOp .Or (a :: b :: rest) pos) (dOrV da db) := imp (pe_or ha hb) fun σ H Q ⟨c, ow, ps, w, R, e, q⟩ => by
  obtain ⟨x, e1, e2⟩ := bind_ok e
  refine ⟨c, ow, ps, x, R, e1, fun v H' s r => ?_⟩
  split at e2
  · cases e2; exact ⟨true, r, iteT (q _ H' s rfl)⟩
  · exact ⟨false, r, iteF ⟨c, ow, ps, w, R.grow s, e2, fun v2 H2 s2 r2 => q v2 H2 (s.trans s2) r2⟩⟩
  · cases e2
theorem p_notV (ha : JP X G a da) : JP X G (.UnaryOp .Not a pos) (dNotV da) := imp (pe_not ha) fun σ H Q ⟨c, ow, ps, w, R, e, q⟩ => by
  obtain ⟨x, e1, e2⟩ := bind_ok e
  refine ⟨c, ow, ps, x, R, e1, fun v H' s r => ?_⟩
  split at e2
  · cases e2; exact ⟨_, r, q _ H' s rfl⟩
  · cases e2
def dNeg (d : DP) : DP := fun ps => (d ps).bind fun x => match x with | .int i => .ok (.int (-i)) | _ => .bad
def dIfV (t : DT) (a b : DP) : DP := fun ps => (t ps).bind fun x => if x = true then a ps else b ps
theorem p_ifV {t : Expr} {dt : DT} (ht : JT X G t dt) (ha : JP X G a da) (hb : JP X G b db) : JP X G (.IfExp t a b pos) (dIfV dt da db) := imp (pe_ifExp ht ha hb) fun σ H Q ⟨c, ow, ps, w, R, e, q⟩ => by
  obtain ⟨x, e1, e2⟩ := bind_ok e
  refine ⟨c, ow, ps, x, R, e1, fun H' s => ?_⟩
  split at e2
  · rename_i hx; subst hx; exact iteT ⟨c, ow, ps, w, R.grow s, e2, fun v2 H2 s2 r2 => q v2 H2 (s.trans s2) r2⟩
  · rename_i hx
    have : x = false := by simpa using hx
    subst this
    exact iteF ⟨c, ow, ps, w, R.grow s, e2, fun v2 H2 s2 r2 => q v2 H2 (s.trans s2) r2⟩
end
end
end DN
end
section
set_option Elab.async false
set_option linter.all false
set_option maxRecDepth 100000
set_option maxHeartbeats 4000000
namespace DN
open PySem PySem.Spec PyProof.Rows L2
section
variable {X : Cx} {G : Pg} {e a b : Expr} {es : List Expr} {da db : DP} {pos : Pos}
/-! ### items -/
def fIx : PV → PV → Rx PV
  | .lst xs, .int i => match atI xs i with | some w => .ok w | none => .bad
  | .tup xs, .int i => match atI xs i with | some w => .ok w | none => .bad
  | .str z, .int i => if z.length ≤ sizeLine then (match atI z.cps.toList i with | some c => .ok (.str ⟨#[c]⟩) | none => .bad) else .bad
  | _, _ => .bad
theorem atI_rep {K : PySem.W.Frag} {H : Hp} {A : Av} {xs : List PV} {vs : List V} {i : Int} {w : PV} (r : Reps K G H A xs vs) (e : atI xs i = some w) : ∃ v, atI vs i = some v ∧ Rep K G H A w v := by
  unfold atI at e ⊢
  rw [← r.len]
  cases q : ixN xs.length i with
  | none => rw [q] at e; cases e
  | some j =>
    rw [q] at e
    exact r.get e
theorem o2_ix {K : PySem.W.Frag} : Op2 K G fIx (rIx K) := by
  intro H A x y w v u Q hu e r1 r2 q
  cases x <;> try cases e
  · cases y <;> try cases e
    rename_i z i
    have e : (if z.length ≤ sizeLine then (match atI z.cps.toList i with | some c => Rx.ok (PV.str ⟨#[c]⟩) | none => .bad) else .bad) = .ok w := e
    split at e
    · rename_i hz
      split at e
      · rename_i c hc
        cases e
        exact .inr (.inr ⟨z, i, c, r1.str, r2.int, hz, hc, q _ H (Same.refl H) rfl⟩)
      · cases e
    · cases e
  · cases y <;> try cases e
    rename_i xs i
    have e : (match atI xs i with | some w => Rx.ok w | none => .bad) = .ok w := e
    split at e
    · rename_i w' hw
      cases e
      obtain ⟨p, vs, ev, sq, rs⟩ := r1.tup
      obtain ⟨v', e1, r'⟩ := atI_rep rs hw
      exact .inr (.inl ⟨p, vs, i, v', ev, r2.int, sq, e1, q _ H (Same.refl H) r'⟩)
    · cases e
  · cases y <;> try cases e
    rename_i xs i
    have e : (match atI xs i with | some w => Rx.ok w | none => .bad) = .ok w := e
    split at e
    · rename_i w' hw
      cases e
      obtain ⟨p, vs, ev, sq, rs⟩ := r1.lst
      obtain ⟨v', e1, r'⟩ := atI_rep rs hw
      exact .inl ⟨p, vs, i, v', ev, r2.int, sq, e1, q _ H (Same.refl H) r'⟩
    · cases e
theorem p_at (ha : JB X G a da) (hb : JB X G b db) (hs : PlainIx b) : JP X G (.Subscript a b pos) (d2 fIx da db) := p_ix o2_ix ha hb hs
/-! ### arguments, displays -/
def dNil : DA := fun _ => .ok []
def dCons (a : DP) (r : DA) : DA := fun ps => (a ps).bind fun x => (r ps).bind fun xs => .ok (x :: xs)
theorem a_nil : JA X G [] [] dNil := impA pa_nil fun σ H Q ⟨c, ow, ps, ws, R, e, q⟩ => by
  cases e
  exact q [] H (Same.refl H) ⟨rfl, rfl⟩
theorem a_cons {ms : List Bool} {d : DA} (ha : JP X G e da) (hr : JA X G ms es d) (hs : starEach (e :: es) X.env = (false, eval e X.env) :: starEach es X.env := by rfl) : JA X G (false :: ms) (e :: es) (dCons da d) :=
  impA (pa_cons ha hr hs) fun σ H Q ⟨c, ow, ps, ws, R, e, q⟩ => by
    obtain ⟨x, e1, e⟩ := bind_ok e
    obtain ⟨xs, e2, e⟩ := bind_ok e
    cases e
    exact ⟨c, ow, ps, x, R, e1, fun v H1 s1 r1 => ⟨c, ow, ps, xs, R.grow s1, e2, fun vs H2 s2 r2 => q (v :: vs) H2 (s1.trans s2) ⟨x, xs, v, vs, rfl, rfl, by rw [if_neg Bool.false_ne_true]; exact r1.same s2, r2⟩⟩⟩
theorem a_consB {ms : List Bool} {d : DA} (ha : JB X G e da) (hr : JA X G ms es d) (hs : starEach (e :: es) X.env = (false, eval e X.env) :: starEach es X.env := by rfl) : JA X G (true :: ms) (e :: es) (dCons da d) :=
  impA (pa_cons ha hr hs) fun σ H Q ⟨c, ow, ps, ws, R, e, q⟩ => by
    obtain ⟨x, e1, e⟩ := bind_ok e
    obtain ⟨xs, e2, e⟩ := bind_ok e
    cases e
    exact ⟨c, ow, ps, x, R, e1, fun v H1 s1 r1 => ⟨c, ow, ps, xs, R.grow s1, e2, fun vs H2 s2 r2 => q (v :: vs) H2 (s1.trans s2) ⟨x, xs, v, vs, rfl, rfl, by rw [if_pos rfl]; exact r1.same s2, r2⟩⟩⟩
theorem RepM.reps' {K : PySem.W.Frag} {H : Hp} {A : Av} : ∀ {ms : List Bool} {ws : List PV} {vs : List V}, RepM K G H A ms ws vs → ms.all (! ·) = true → Reps K G H A ws vs
  | [], ws, vs, h, _ => by obtain ⟨rfl, rfl⟩ := h; rfl
  | m :: ms, ws, vs, h, hm => by
    obtain ⟨w, wr, v, vr, rfl, rfl, r, rr⟩ := h
    rw [List.all_cons, Bool.and_eq_true] at hm
    have : m = false := by simpa using hm.1
    subst this
    rw [if_neg Bool.false_ne_true] at r
    exact ⟨v, vr, rfl, r, RepM.reps' rr hm.2⟩
def dTup (d : DA) : DP := fun ps => (d ps).bind fun ws => .ok (.tup ws)
theorem p_tup {ms : List Bool} {d : DA} {x1} (h : JA X G ms es d) (hm : ms.all (! ·) = true := by rfl) (hl : ms.length ≤ 1000 := by decide) : JP X G (.Tuple es x1 pos) (dTup d) := imp (pe_tup h) fun σ H Q ⟨c, ow, ps, w, R, e, q⟩ => by
  obtain ⟨ws, e1, e⟩ := bind_ok e
  cases e
  refine ⟨c, ow, ps, ws, R, e1, fun vs H1 s1 r1 => ⟨?_, fun p hp => ?_⟩⟩
  · rw [r1.len.2]; exact Nat.le_of_lt (small1000 hl)
  · exact q _ _ (s1.trans (same_upd hp _)) ⟨p, vs, rfl, SqT.of upd_same, (r1.reps' hm).same (same_upd hp _)⟩
theorem n_lst {ms : List Bool} {d : DA} (h : JA X G ms es d) (hm : ms.all (! ·) = true := by rfl) (hl : ms.length ≤ 1000 := by decide) : JN X G (.List es pos) d := imp (pe_lst h) fun σ H Q ⟨c, ow, ps, ws, R, e, q⟩ => by
  refine ⟨c, ow, ps, ws, R, e, fun vs H1 s1 r1 => ⟨?_, fun p hp => ?_⟩⟩
  · rw [r1.len.2]; exact Nat.le_of_lt (small1000 hl)
  · exact q p vs _ (s1.trans (same_upd hp _)) (s1.free hp) upd_same ((Kp.take hp (same_upd hp _) fun a z => z.symm).reps (r1.reps' hm))
/-! ### new lists: +, a slice, list(..) -/
def dCatL (a b : DP) : DA := fun ps => (a ps).bind fun x => (b ps).bind fun y => match x, y with | .lst xs, .lst ys => if xs.length + ys.length ≤ sizeLine then .ok (xs ++ ys) else .bad | _, _ => .bad
theorem n_cat (ha : JB X G a da) (hb : JB X G b db) (ho : OpR X (binaryOp .Add) (fun x y H Q => ∃ l m xs zs, x = .ref l ∧ y = .ref m ∧ SqL X.K H l xs ∧ SqL X.K H m zs ∧ xs.length + zs.length ≤ sizeLine ∧ ∀ p, H p = none → Q (.ref p) (upd H p (.lst (xs ++ zs))))) :
    JN X G (.BinOp a .Add b pos) (dCatL da db) := imp (pe_op ho ha hb) fun σ H Q ⟨c, ow, ps, ws, R, e, q⟩ => by
  obtain ⟨x, e1, e⟩ := bind_ok e
  obtain ⟨y, e2, e⟩ := bind_ok e
  refine ⟨c, ow, ps, x, R, e1, fun v H1 s1 r1 => ⟨c, ow, ps, y, R.grow s1, e2, fun u H2 s2 r2 => ?_⟩⟩
  split at e
  · rename_i xs ys
    split at e
    · rename_i hl
      cases e
      obtain ⟨l, vs, e3, sq, rs⟩ := (r1.same s2).lst
      obtain ⟨m, us, e4, sq', rs'⟩ := r2.lst
      refine ⟨l, m, vs, us, e3, e4, sq, sq', by rw [← rs.len, ← rs'.len]; exact hl, fun p hp => ?_⟩
      have sp := same_upd hp (.lst (vs ++ us))
      exact q p _ _ ((s1.trans s2).trans sp) ((s1.trans s2).free hp) upd_same ((Kp.take hp sp fun a z => z.symm).reps (rs.app rs'))
    · cases e
  · cases e
theorem op_catL : OpR X (binaryOp .Add) (fun x y H Q => ∃ l m xs zs, x = .ref l ∧ y = .ref m ∧ SqL X.K H l xs ∧ SqL X.K H m zs ∧ xs.length + zs.length ≤ sizeLine ∧ ∀ p, H p = none → Q (.ref p) (upd H p (.lst (xs ++ zs)))) := by
  intro pins s σ H x y v u Q I rx ry h
  obtain ⟨l, b, xs, zs, rfl, rfl, e1, e2, z, q⟩ := h
  obtain ⟨its, r1, ⟨⟨cls, dd, data, sl⟩, n, ho, hc, hd0, hd⟩, z1⟩ := I.list e1
  obtain ⟨itb, r2, ⟨⟨cls2, dd2, data2, sl2⟩, n2, ho2, hc2, hd02, hd2⟩, z2⟩ := I.list e2
  simp only at hc hd hc2 hd2
  subst hc hd hc2 hd2
  obtain rfl : v = Value.ref l := rx
  obtain rfl : u = Value.ref b := ry
  have hl1 := r1.length
  have hl2 := r2.length
  have ea : its.toArray ++ itb.toArray = (its ++ itb).toArray := by simp
  refine concat_meets ⟨_, ho, rfl⟩ ⟨_, ho2, rfl⟩ noFill_list_add seq_list_add PySem.F.slot_list_add PySem.F.entry_list_add (PySem.F.args_list_add_2 _ _) (list_addW l b its.toArray itb.toArray n n2 dd dd2 sl sl2 (by rw [List.size_toArray, List.size_toArray]; omega)) ⟨ho, ho2, ?_⟩
  rw [ea]
  exact ⟨.ref _, _, I.lnew (t' := s.toks) (r1.append r2) (by rw [List.length_append]; omega), rfl, q _ I.fresh⟩
/-! ### slices of lists -/
def tPo (K : PySem.W.Frag) (G : Pg) (d : PSt → Rx (Option Int)) : TO := fun σ H Q => ∃ (c : Fr) (ow : Ows) (ps : PSt) (o : Option Int), RepS K G c H ow ps σ ∧ d ps = .ok o ∧ ∀ H', Same H H' → Q o H'
abbrev JO (X : Cx) (G : Pg) (e : Option Expr) (d : PSt → Rx (Option Int)) : Prop := PO X e (tPo X.K G d)
def dO0 : PSt → Rx (Option Int) := fun _ => .ok none
def dO1 (d : DP) : PSt → Rx (Option Int) := fun ps => (d ps).bind fun x => match x with | .int i => .ok (some i) | _ => .bad
theorem o_none : JO X G none dO0 := fun pins s σ H Q I hq => po_none pins s σ H Q I (by
  obtain ⟨c, ow, ps, o, R, e, q⟩ := hq
  cases e
  exact q H (Same.refl H))
theorem o_some (h : JP X G e da) : JO X G (some e) (dO1 da) := fun pins s σ H Q I hq => po_some h pins s σ H Q I (by
  obtain ⟨c, ow, ps, o, R, e, q⟩ := hq
  obtain ⟨x, e1, e2⟩ := bind_ok e
  refine ⟨c, ow, ps, x, R, e1, fun v H' s r => ?_⟩
  split at e2
  · cases e2; exact ⟨_, r, q H' s⟩
  · cases e2)
def cutP (xs : List PV) (lo hi : Option Int) : List PV := (xs.drop (HT.sIx xs.length 0 lo)).take (HT.sIx xs.length xs.length hi - HT.sIx xs.length 0 lo)
def dCut (d : DP) (dl dh : PSt → Rx (Option Int)) : DA := fun ps => (d ps).bind fun x => (dl ps).bind fun lo => (dh ps).bind fun hi => match x with | .lst xs => .ok (cutP xs lo hi) | _ => .bad
theorem n_cut {lo hi : Option Expr} {dl dh : PSt → Rx (Option Int)} {p2 : Pos} (he : JB X G e da) (hl : JO X G lo dl) (hh : JO X G hi dh) : JN X G (.Subscript e (.Slice lo hi none p2) pos) (dCut da dl dh) := imp (pe_slice sl_list he hl hh) fun σ H Q ⟨c, ow, ps, ws, R, e, q⟩ => by
  obtain ⟨x, e1, e⟩ := bind_ok e
  obtain ⟨l, e2, e⟩ := bind_ok e
  obtain ⟨h, e3, e⟩ := bind_ok e
  refine ⟨c, ow, ps, x, R, e1, fun v H1 s1 r1 => ⟨c, ow, ps, l, R.grow s1, e2, fun H2 s2 => ⟨c, ow, ps, h, (R.grow s1).grow s2, e3, fun H3 s3 => ?_⟩⟩⟩
  split at e
  · cases e
    obtain ⟨a, vs, e4, sq, rs⟩ := ((r1.same s2).same s3).lst
    refine ⟨a, vs, e4, sq, fun p hp => ?_⟩
    have sp := same_upd hp (.lst (cutV vs l h))
    have sA := (s1.trans s2).trans s3
    refine q p _ _ (sA.trans sp) (sA.free hp) upd_same ((Kp.take hp sp fun a z => z.symm).reps ?_)
    unfold cutP cutV
    rw [rs.len]
    exact (rs.drop _).take _
  · cases e
/-! ### built-in functions -/
def dCall (f : List PV → Rx PV) (d : DA) : DP := fun ps => (d ps).bind f
def CbR (K : PySem.W.Frag) (G : Pg) (ms : List Bool) (f : List PV → Rx PV) (r : List V → Hp → VK → Prop) : Prop := ∀ (H : Hp) (A : Av) (ws : List PV) (vs : List V) (w : PV) (Q : VK), Used H A → f ws = .ok w → RepM K G H A ms ws vs → (∀ z H', Same H H' → Rep K G H' A w z → Q z H') → r vs H Q
theorem cb_of {K : PySem.W.Frag} {ms : List Bool} {f : List PV → Rx PV} {r : List V → Hp → VK → Prop} {d : DA} (hf : CbR K G ms f r) {σ : L2.St} {H : Hp} {Q : VK} (h : tPv K G (dCall f d) σ H Q) : tCB r (tPa K G ms d) σ H Q := by
  obtain ⟨c, ow, ps, w, R, e, q⟩ := h
  obtain ⟨ws, e1, e2⟩ := bind_ok e
  exact ⟨c, ow, ps, ws, R, e1, fun vs H' s r => hf H' _ ws vs w Q (R.grow s).used e2 r fun z H2 s2 r2 => q z H2 (s.trans s2) r2⟩
theorem p_callB {x : Str} {p : Pos} {id : String} {ms : List Bool} {f : List PV → Rx PV} {r : List V → Hp → VK → Prop} {d : DA} (hc : CallR X (.builtin id) r) (hf : CbR X.K G ms f r) (hg : Gl X x) (hm : X.mg x = none) (hv : bootBuiltins x = some (.builtin id)) (ha : JA X G ms (e :: es) d) (hn : x ≠ "__name__" := by decide) (hdb : (x == ("__debug__" : Str)) = false := by decide)
    (he : starEach (e :: es) X.env = (false, eval e X.env) :: starEach es X.env := by rfl) (hpl : (backTo pos (starEach es X.env)).any (·.1) = false := by rfl) : JP X G (.Call (.Name x p) (e :: es) [] pos) (dCall f d) := imp (pe_callB hc hg hm hv ha hn hdb he hpl) fun _ _ _ => cb_of hf
theorem p_callTy {x : Str} {p : Pos} {T : String} {ms : List Bool} {f : List PV → Rx PV} {r : List V → Hp → VK → Prop} {d : DA} (hc : CallR X (.type T) r) (hf : CbR X.K G ms f r) (hg : Gl X x) (hm : X.mg x = none) (hv : bootBuiltins x = some (.type T)) (ha : JA X G ms (e :: es) d) (hn : x ≠ "__name__" := by decide) (hdb : (x == ("__debug__" : Str)) = false := by decide)
    (he : starEach (e :: es) X.env = (false, eval e X.env) :: starEach es X.env := by rfl) (hpl : (backTo pos (starEach es X.env)).any (·.1) = false := by rfl) : JP X G (.Call (.Name x p) (e :: es) [] pos) (dCall f d) := imp (pe_callTy hc hg hm hv ha hn hdb he hpl) fun _ _ _ => cb_of hf
theorem RepM.one {K : PySem.W.Frag} {H : Hp} {A : Av} {ws : List PV} {vs : List V} (h : RepM K G H A [true] ws vs) : ∃ w v, ws = [w] ∧ vs = [v] ∧ RepB K G H A w v := by
  obtain ⟨w, wr, v, vr, rfl, rfl, r, rfl, rfl⟩ := h
  exact ⟨w, v, rfl, rfl, r⟩
theorem RepM.two {K : PySem.W.Frag} {H : Hp} {A : Av} {ws : List PV} {vs : List V} (h : RepM K G H A [true, true] ws vs) : ∃ w w' v v', ws = [w, w'] ∧ vs = [v, v'] ∧ RepB K G H A w v ∧ RepB K G H A w' v' := by
  obtain ⟨w, wr, v, vr, rfl, rfl, r, w', wr', v', vr', rfl, rfl, r', rfl, rfl⟩ := h
  exact ⟨w, w', v, v', rfl, rfl, r, r'⟩
def bLen : List PV → Rx PV
  | [.str y] => if y.length ≤ sizeLine then .ok (.int y.length) else .bad
  | [.lst xs] => .ok (.int xs.length)
  | [.tup xs] => .ok (.int xs.length)
  | _ => .bad
theorem cb_len {K : PySem.W.Frag} : CbR K G [true] bLen (fun xs H Q => ∃ x n, xs = [x] ∧ LenV K x H n ∧ Q (.int n) H) := by
  intro H A ws vs w Q hu e r q
  obtain ⟨x, v, rfl, rfl, rb⟩ := r.one
  clear r
  cases x <;> try cases e
  · rename_i y
    have e : (if y.length ≤ sizeLine then Rx.ok (PV.int y.length) else .bad) = .ok w := e
    split at e
    · rename_i hy
      cases e
      rw [rb.str]
      exact ⟨_, _, rfl, ⟨hy, rfl⟩, q _ H (Same.refl H) rfl⟩
    · cases e
  · obtain ⟨a, vs, rfl, sq, rs⟩ := rb.tup
    exact ⟨_, _, rfl, .inr ⟨vs, sq, rfl⟩, q _ H (Same.refl H) (by show _ = _; rw [rs.len])⟩
  · obtain ⟨a, vs, rfl, sq, rs⟩ := rb.lst
    exact ⟨_, _, rfl, .inl ⟨vs, sq, rfl⟩, q _ H (Same.refl H) (by show _ = _; rw [rs.len])⟩
def bInt : List PV → Rx PV
  | [.int i] => .ok (.int i)
  | [.bl k] => .ok (.int (if k then 1 else 0))
  | _ => .bad
theorem cb_int {K : PySem.W.Frag} : CbR K G [true] bInt (fun xs H Q => (∃ i, xs = [V.int i] ∧ Q (.int i) H) ∨ ∃ k, xs = [V.bl k] ∧ Q (.int (if k then 1 else 0)) H) := by
  intro H A ws vs w Q hu e r q
  obtain ⟨x, v, rfl, rfl, rb⟩ := r.one
  clear r
  cases x <;> try cases e
  · rw [rb.bl]; exact .inr ⟨_, rfl, q _ H (Same.refl H) rfl⟩
  · rw [rb.int]; exact .inl ⟨_, rfl, q _ H (Same.refl H) rfl⟩
def dCallN (f : List PV → Rx (List PV)) (d : DA) : DA := fun ps => (d ps).bind f
/-! ### isinstance -/
def kd : PV → Nat
  | .non => 0 | .bl _ => 1 | .int _ => 2 | .str _ => 3 | .tup _ => 4 | .lst _ => 5 | .dic _ _ => 6 | .clo _ _ => 9 | .obj k _ => k + 10
def tyOfKd (G : Pg) : Nat → Value
  | 0 => .type "NoneType" | 1 => .type "bool" | 2 => .type "int" | 3 => .type "str" | 4 => .type "tuple" | 5 => .type "list" | 6 => .type "dict" | 7 => .none | 8 => .none | 9 => .none
  | k + 10 => .ref (G.cA k)
/-- what is asked of a class for its own instances' type -/
def ClsTy (K : PySem.W.Frag) (C : Addr) : Prop := ∀ H a dx fs, H a = some (.ins C dx fs) → TyOf K H (.ref a) (.ref C)
def dIsi (l : List (Nat × Bool)) (d : DP) : DP := fun ps => (d ps).bind fun x => match l.lookup (kd x) with | some b => .ok (.bl b) | none => .bad
structure IsiOk (K : PySem.W.Frag) (G : Pg) (cv : Value) (l : List (Nat × Bool)) : Prop where
  kit : ∀ k b, l.lookup k = some b → PySem.W.kitOne K (tyOfKd G k) cv = some b
  cls : ∀ k b, l.lookup (k + 10) = some b → ClsTy K (G.cA k)
  n9 : ∀ b, l.lookup 9 ≠ some b
theorem call_isi (cv : Value) (l : List (Nat × Bool)) (ok : IsiOk X.K G cv l) : CallR X (.builtin "isinstance") (fun xs H Q => ∃ A w v c b, xs = [v, c] ∧ (∀ u, RelV c u → u = cv) ∧ RepB X.K G H A w v ∧ l.lookup (kd w) = some b ∧ Q (.bl b) H) := by
  intro pins s σ H xs us Q I r h
  obtain ⟨A, w, v, c, b, rfl, hc, rw', hl, q⟩ := h
  obtain ⟨u, u', rfl, ru, rc⟩ := vals2 r
  obtain rfl := hc _ rc
  have kit := ok.kit _ _ hl
  have fin : ∀ tk, EP X pins σ Q (.bool b) { s with toks := tk } := fun tk => ⟨.bl b, H, I.tok tk, rfl, q⟩
  cases w with
  | non => rw [rw'.non] at ru; exact isinst_ok I ru .non kit fin
  | bl k => rw [rw'.bl] at ru; exact isinst_ok I ru (.bl _) kit fin
  | int i => rw [rw'.int] at ru; exact isinst_ok I ru (.int _) kit fin
  | str i => rw [rw'.str] at ru; exact isinst_ok I ru (.str _) kit fin
  | tup ws =>
    obtain ⟨a, vs, rfl, sq, rs⟩ := rw'.tup
    cases (show u = Value.ref a from ru)
    obtain ⟨its, _, p, _⟩ := I.tuple sq
    obtain ⟨o, h1, h2, _⟩ := p
    exact PySem.W.kia_one PySem.W.kitx_tuple I.kIn ⟨o, h1, h2⟩ kit (fun z => nomatch z) fin
  | lst ws =>
    obtain ⟨a, vs, rfl, sq, rs⟩ := rw'.lst
    cases (show u = Value.ref a from ru)
    obtain ⟨its, _, ⟨o, n, h1, h2, _⟩, _⟩ := I.list sq
    exact PySem.W.kia_one PySem.W.kitx_list I.kIn ⟨o, h1, h2⟩ kit (fun z => nomatch z) fin
  | clo f ws => exact absurd hl (ok.n9 b)
  | dic ks ws =>
    obtain ⟨a, vs, rfl, hH, _, rs⟩ := rw'.dic
    exact isinst_ok I ru (.dK hH) kit fin
  | obj k ws =>
    obtain ⟨a, dx, vs, rfl, hH, _, rs⟩ := rw'.obj
    exact isinst_ok I ru (ok.cls k b hl H a dx _ hH) kit fin
theorem p_isi {ce : Expr} {cvv : V} {cv : Value} {l : List (Nat × Bool)} {p : Pos} (hg : Gl X "isinstance") (hm : X.mg "isinstance" = none) (ok : IsiOk X.K G cv l) (hcv : ∀ u, RelV cvv u → u = cv) (ha : JB X G e da) (hc : PE X ce (tC cvv))
    (he : starEach [e, ce] X.env = (false, eval e X.env) :: starEach [ce] X.env := by rfl) (he2 : starEach [ce] X.env = (false, eval ce X.env) :: starEach [] X.env := by rfl) (hpl : (backTo pos (starEach [ce] X.env)).any (·.1) = false := by rfl) :
    JP X G (.Call (.Name "isinstance" p) [e, ce] [] pos) (dIsi l da) :=
  imp (pe_callB (call_isi cv l ok) hg hm boot_isinstance (pa_cons ha (pa_cons hc pa_nil he2) he) (by decide) (by decide) he hpl) fun σ H Q ⟨c, ow, ps, w, R, e, q⟩ => by
    obtain ⟨x, e1, e2⟩ := bind_ok e
    refine ⟨c, ow, ps, x, R, e1, fun v H' s r => ?_⟩
    split at e2
    · rename_i b hb
      cases e2
      exact ⟨_, x, v, cvv, b, rfl, hcv, r, hb, q _ H' s rfl⟩
    · cases e2
/-! ### attributes -/
theorem zip_lookup {f : Str} {v : V} : ∀ {ns : List Str} {vs : List V} {j : Nat}, ns.Nodup → ns[j]? = some f → vs[j]? = some v → (ns.zip vs).lookup f = some v
  | [], vs, j, _, h, _ => by simp at h
  | n :: ns, [], j, _, _, h => by simp at h
  | n :: ns, u :: vs, 0, _, h1, h2 => by
    simp at h1 h2; subst h1; subst h2
    simp
  | n :: ns, u :: vs, j + 1, nd, h1, h2 => by
    have h1' : ns[j]? = some f := by simpa using h1
    have hne : (f == n) = false := by
      have : f ≠ n := fun z => by subst z; exact (List.nodup_cons.mp nd).1 (List.mem_of_getElem? h1')
      simpa using this
    rw [List.zip_cons_cons, List.lookup_cons, hne]
    exact zip_lookup (j := j) (List.nodup_cons.mp nd).2 h1' (by simpa using h2)
structure FldOk (K : PySem.W.Frag) (G : Pg) (f : Str) (l : List (Nat × Nat)) : Prop where
  all : ∀ k j, l.lookup k = some j → Cls K (G.cA k) ∧ NoAttr K (G.cA k) f ∧ (G.fN k).Nodup ∧ (G.fN k)[j]? = some f
def dFld (l : List (Nat × Nat)) (d : DP) : DP := fun ps => (d ps).bind fun x => match x with
  | .obj k xs => (match l.lookup k with | some j => (match xs[j]? with | some w => .ok w | none => .bad) | none => .bad)
  | _ => .bad
theorem p_fld {f : Str} {l : List (Nat × Nat)} (ok : FldOk X.K G f l) (ha : JP X G e da) (hb : attributeBase e f X.env (eval e X.env) = eval e X.env) : JP X G (.Attribute e f pos) (dFld l da) := imp (pe_fld ha hb) fun σ H Q ⟨c, ow, ps, w, R, e, q⟩ => by
  obtain ⟨x, e1, e2⟩ := bind_ok e
  refine ⟨c, ow, ps, x, R, e1, fun v H' s r => ?_⟩
  cases x with
  | obj k xs =>
    have e2 : (match l.lookup k with | some j => (match xs[j]? with | some w => Rx.ok w | none => .bad) | none => .bad) = .ok w := e2
    split at e2
    · rename_i j hj
      split at e2
      · rename_i w' hw
        cases e2
        obtain ⟨a, dx, vs, rfl, hH, hl, na, rs⟩ := r
        obtain ⟨c1, c2, c3, c4⟩ := ok.all k j hj
        obtain ⟨u, hu, ru⟩ := rs.get hw
        exact ⟨a, _, dx, _, u, rfl, hH, c1, c2, zip_lookup c3 c4 hu, q u H' s ru⟩
      · cases e2
    · cases e2
  | _ => cases e2
end
end DN
end
section
set_option Elab.async false
set_option linter.all false
set_option maxRecDepth 100000
set_option maxHeartbeats 4000000
namespace DN
open PySem PySem.Spec PyProof.Rows L2
/-! ### states without things of one's own -/
def SlF (K : PySem.W.Frag) (G : Pg) (B : Av) (H : Hp) (A : Av) : Sl → Option V → Prop
  | .no, _ => True
  | .v w, o => ∃ v, o = some v ∧ Rep K G H A w v
  | .own _, _ => False
  | .bor w, o => ∃ v, o = some v ∧ (Rep K G H A w v ∨ ∃ x p, w = x.pv ∧ v = .ref p ∧ RepO K G H A x p ∧ B p)
  | .ino _, _ => False
  | .ini _ _, _ => False
structure RepF (K : PySem.W.Frag) (G : Pg) (B : Av) (H : Hp) (A : Av) (ps : PSt) (σ : L2.St) : Prop where
  len : ps.length = σ.length
  slot : ∀ (i : Nat) (s : Sl) (o : Option V), ps[i]? = some s → σ[i]? = some o → SlF K G B H A s o
section
variable {K : PySem.W.Frag} {G : Pg} {H H' : Hp} {A A' B : Av} {ps : PSt} {σ : L2.St}
def ow0 : Ows := fun _ => none
theorem av0 {c : Fr} (a : Addr) : av c ow0 a → c.A0 a := by
  rintro (h | ⟨i, h⟩)
  · exact h
  · cases h
theorem RepB.keep {w : PV} {v : V} (h : RepB K G H A w v) (k : Kp K G H A H' A') (e : ∀ x p, RepO K G H A x p → H' p = H p) : RepB K G H' A' w v := by
  rcases h with h | ⟨x, p, e1, e2, r⟩
  · exact .inl (k.rep h)
  · exact .inr ⟨x, p, e1, e2, r.keep k (e x p r)⟩
theorem RepB.weak {w : PV} {v : V} (h : RepB K G H A w v) (f : ∀ a, A' a → A a) : RepB K G H A' w v := h.keep (Kp.weak f) fun _ _ _ => rfl
theorem RepF.toS (R : RepF K G B H A ps σ) (u : Used H A) (ub : Used H B) : RepS K G ⟨H, A, B, none⟩ H ow0 ps σ := by
  refine ⟨R.len, SmL.of (Same.refl H), (fun p e => (nomatch e)), u, (fun a z => ⟨ub a z, fun e => nomatch e⟩), (fun i p e => (nomatch e)), (fun i j p e => (nomatch e)), fun _ _ => rfl, fun i s o e1 e2 => ?_⟩
  have q := R.slot i s o e1 e2
  have k : Kp K G H A H (av ⟨H, A, B, none⟩ ow0) := Kp.weak fun a z => av0 a z
  cases s with
  | no => rfl
  | v w => obtain ⟨v, e, r⟩ := q; exact ⟨rfl, v, e, k.rep r⟩
  | own x => exact q.elim
  | ino x => exact q.elim
  | ini k xs => exact q.elim
  | bor w =>
    obtain ⟨v, e, r⟩ := q
    refine ⟨rfl, v, e, ?_⟩
    rcases r with r | ⟨x, p, e1, e2, r, n⟩
    · exact .inl (k.rep r)
    · exact .inr ⟨x, p, e1, e2, r.keep k rfl, n⟩
theorem RepF.ofS {c : Fr} (R : RepS K G c H ow0 ps σ) (hl : c.lx = none) : RepF K G c.B0 H c.A0 ps σ := by
  refine ⟨R.len, fun i s o e1 e2 => ?_⟩
  have q := R.slot i s o e1 e2
  have k : Kp K G H (av c ow0) H c.A0 := Kp.weak fun a z => .inl z
  cases s with
  | no => exact True.intro
  | v w => obtain ⟨_, v, e, r⟩ := q; exact ⟨v, e, k.rep r⟩
  | own x => obtain ⟨p, e, _⟩ := q; cases e
  | ino x => obtain ⟨_, _, p, _, e, _⟩ := q; rw [hl] at e; cases e
  | ini k xs => obtain ⟨_, _, p, _, e, _⟩ := q; rw [hl] at e; cases e
  | bor w =>
    obtain ⟨_, v, e, r⟩ := q
    refine ⟨v, e, ?_⟩
    rcases r with r | ⟨x, p, e1, e2, r, n⟩
    · exact .inl (k.rep r)
    · exact .inr ⟨x, p, e1, e2, r.keep k rfl, n⟩
/-- what a block sees of a slot -/
def Sl.out : Sl → Sl
  | .own x => .bor x.pv
  | .ino x => .bor x.pv
  | .ini _ _ => .no
  | s => s
def capP (own : List Str) (caps : List (Str × Nat)) (ps : PSt) : PSt := List.replicate own.length .no ++ caps.map fun p => ((ps[p.2]?).getD .no).out
theorem RepS.caps {c : Fr} {ow : Ows} (R : RepS K G c H ow ps σ) (own : List Str) (caps : List (Str × Nat)) : RepF K G (fun p => H p ≠ none) H (av c ow) (capP own caps ps) (capS own caps σ) := by
  refine ⟨by simp [capP, capS], fun i s o e1 e2 => ?_⟩
  unfold capP at e1
  unfold capS at e2
  rcases Nat.lt_or_ge i own.length with h | h
  · rw [List.getElem?_append_left (by simpa using h), List.getElem?_replicate, if_pos h] at e1
    cases e1
    exact True.intro
  · rw [List.getElem?_append_right (by simpa using h), List.length_replicate, List.getElem?_map] at e1 e2
    cases ep : caps[i - own.length]? with
    | none => rw [ep] at e1; cases e1
    | some p =>
      rw [ep] at e1 e2
      have e1 : ((ps[p.2]?).getD .no).out = s := Option.some.inj e1
      have e2 : (σ[p.2]?).getD none = o := Option.some.inj e2
      cases eq : ps[p.2]? with
      | none => rw [eq] at e1; subst e1; exact True.intro
      | some t =>
        obtain ⟨o', eo, q⟩ := R.get eq
        rw [eq] at e1; rw [eo] at e2
        have e2 : o' = o := e2
        subst e2
        subst e1
        cases t with
        | no => exact True.intro
        | v w => obtain ⟨_, v, e, r⟩ := q; exact ⟨v, e, r⟩
        | own x => obtain ⟨p, _, e, r⟩ := q; obtain ⟨o', eo, _⟩ := r.at; exact ⟨_, e, .inr ⟨x, p, rfl, rfl, r, by show H p ≠ none; rw [eo]; simp⟩⟩
        | ino x => obtain ⟨_, _, p, e, _, r⟩ := q; obtain ⟨o', eo, _⟩ := r.at; exact ⟨_, e, .inr ⟨x, p, rfl, rfl, r, by show H p ≠ none; rw [eo]; simp⟩⟩
        | ini k xs => exact True.intro
        | bor w =>
          obtain ⟨_, v, e, r⟩ := q
          refine ⟨v, e, ?_⟩
          rcases r with r | ⟨x, p, e1, e2, r, _⟩
          · exact .inl r
          · obtain ⟨o', eo, _⟩ := r.at
            exact .inr ⟨x, p, e1, e2, r, by show H p ≠ none; rw [eo]; simp⟩
end
/-! ### own defs -/
def spG (K : PySem.W.Frag) (G : Pg) (ms : List Bool) (g : List PV → Rx PV) : Sp := fun vs H Q _ => ∃ A ws w, Used H A ∧ RepM K G H A ms ws vs ∧ g ws = .ok w ∧ ∀ v H', Same H H' → Rep K G H' A w v → Q v H'
section
variable {X : Cx} {G : Pg} {e a b o : Expr} {es : List Expr} {da db : DP} {d : DA} {pos p apos : Pos} {x m : Str} {k : Nat} {ms : List Bool} {g : List PV → Rx PV}
theorem p_fn (h : FnAt X.prog X.w X.K X.mg X.base CX0 k x (spG X.K G ms g)) (hr : Room k X.A) (hg : Gl X x) (ha : JA X G ms (e :: es) d) (hdb : (x == ("__debug__" : Str)) = false := by decide)
    (he : starEach (e :: es) X.env = (false, eval e X.env) :: starEach es X.env := by rfl) (hpl : (backTo pos (starEach es X.env)).any (·.1) = false := by rfl) : JP X G (.Call (.Name x p) (e :: es) [] pos) (dCall g d) :=
  imp (pe_fn (E := E0) h hr hg pass0 ha hdb he hpl) fun σ H Q ⟨c, ow, ps, w, R, e, q⟩ => by
    obtain ⟨ws, e1, e2⟩ := bind_ok e
    exact ⟨c, ow, ps, ws, R, e1, fun vs H' s r => ⟨_, ws, w, (R.grow s).used, r, e2, fun v H2 s2 r2 => q v H2 (s.trans s2) r2⟩⟩
/-! ### methods -/
theorem zip_none {f : Str} : ∀ {ns : List Str} {vs : List V}, f ∉ ns → (ns.zip vs).lookup f = none
  | [], vs, _ => rfl
  | n :: ns, [], _ => rfl
  | n :: ns, u :: vs, h => by
    have h1 : (f == n) = false := by
      have : f ≠ n := fun z => h (by rw [z]; exact List.mem_cons_self)
      simpa using this
    rw [List.zip_cons_cons, List.lookup_cons, h1]
    exact zip_none fun z => h (List.mem_cons_of_mem _ z)
structure MtOk (P : Program) (w : World) (K : PySem.W.Frag) (mg : Str → Option Value) (base : Bs) (G : Pg) (k : Nat) (m : Str) (ms : List Bool) (tab : List (Nat × Nat)) (g : Nat → List PV → Rx PV) : Prop where
  all : ∀ c f, tab.lookup c = some f → MethAt P w K mg base CX0 k (G.cA c) m (spG K G (false :: ms) (g f)) ∧ m ∉ G.fN c
def dMeth (tab : List (Nat × Nat)) (g : Nat → List PV → Rx PV) (d : DP) (r : DA) : DP := fun ps => (d ps).bind fun x => match x with
  | .obj c xs => (match tab.lookup c with | some f => (r ps).bind fun ws => g f (.obj c xs :: ws) | none => .bad)
  | _ => .bad
theorem meth_of {tab : List (Nat × Nat)} {g : Nat → List PV → Rx PV} (h : MtOk X.prog X.w X.K X.mg X.base G k m ms tab g) {σ : L2.St} {H : Hp} {Q : VK} (hq : tPv X.K G (dMeth tab g da d) σ H Q) :
    tMethD (ι := { q : Nat × Nat // tab.lookup q.1 = some q.2 }) (fun i => G.cA i.1.1) m (fun i => spG X.K G (false :: ms) (g i.1.2)) E0 (tPv X.K G da) (tPa X.K G ms d) σ H Q := by
  obtain ⟨c, ow, ps, w, R, e, q⟩ := hq
  obtain ⟨x, e1, e2⟩ := bind_ok e
  refine ⟨c, ow, ps, x, R, e1, fun v H' s r => ?_⟩
  cases x with
  | obj kc xs =>
    have e2 : (match tab.lookup kc with | some f => (d ps).bind fun ws => g f (.obj kc xs :: ws) | none => .bad) = .ok w := e2
    split at e2
    · rename_i f hf
      obtain ⟨ws, e3, e4⟩ := bind_ok e2
      obtain ⟨a, dx, vs, ev, hH, hl, na, rs⟩ := id r
      refine ⟨⟨(kc, f), hf⟩, a, dx, _, ev, hH, zip_none (h.all kc f hf).2, c, ow, ps, ws, R.grow s, e3, fun vs2 H2 s2 r2 => ?_⟩
      exact ⟨_, .obj kc xs :: ws, w, ((R.grow s).grow s2).used, ⟨_, _, _, _, rfl, rfl, by rw [if_neg Bool.false_ne_true]; exact r.same s2, r2⟩, e4, fun v3 H3 s3 r3 => q v3 H3 ((s.trans s2).trans s3) r3⟩
    · cases e2
  | _ => cases e2
theorem p_meth {tab : List (Nat × Nat)} {g : Nat → List PV → Rx PV} {pl : Sem Bool} (h : MtOk X.prog X.w X.K X.mg X.base G k m ms tab g) (hr : Room k X.A) (ho : JP X G o da) (ha : JA X G ms (e :: es) d)
    (hst : starEach (e :: es) X.env = (false, eval e X.env) :: starEach es X.env := by rfl) (hpl : (backTo pos (starEach es X.env)).any (·.1) = false := by rfl)
    (ht : eval (.Call (.Attribute o m apos) (e :: es) [] pos) X.env = (do
      let ov ← eval o X.env
      standAt apos.atName
      let (f, first) ← holding [ov] (getMethod ov m pl)
      callWith pos f first (backTo pos (starEach (e :: es) X.env)) (backToKw pos (keywordEach [] X.env))) := by rfl) : JP X G (.Call (.Attribute o m apos) (e :: es) [] pos) (dMeth tab g da d) :=
  imp (pe_methD (ι := { q : Nat × Nat // tab.lookup q.1 = some q.2 }) (pl := pl) ho (fun i => (h.all i.1.1 i.1.2 i.2).1) hr pass0 ha hst hpl ht) fun _ _ _ => meth_of h
/-! ### new instances -/
def dNew (c : Nat) (d : DA) : DP := fun ps => (d ps).bind fun ws => .ok (.obj c ws)
theorem p_new {c : Nat} (h : NewAt X.prog X.w X.K X.mg X.base x (G.cA c) (G.fN c)) (hr : Room (k + 2) X.A) (hg : Gl X x) (ha : JA X G ms (e :: es) d) (hl : (G.fN c).length = ms.length) (hm : ms.all (! ·) = true := by rfl) (hdb : (x == ("__debug__" : Str)) = false := by decide)
    (he : starEach (e :: es) X.env = (false, eval e X.env) :: starEach es X.env := by rfl) (hpl : (backTo pos (starEach es X.env)).any (·.1) = false := by rfl) : JP X G (.Call (.Name x p) (e :: es) [] pos) (dNew c d) :=
  imp (pe_new h hr hg ha hdb he hpl) fun σ H Q ⟨f, ow, ps, w, R, e, q⟩ => by
    obtain ⟨ws, e1, e2⟩ := bind_ok e
    cases e2
    refine ⟨f, ow, ps, ws, R, e1, fun vs H' s r => ⟨by rw [r.len.2, hl], fun y dy n1 n2 ne => ?_⟩⟩
    have sn := newI_same (C := G.cA c) (fs := (G.fN c).zip vs) n1 n2
    exact q _ _ (s.trans sn) ⟨y, dy, vs, rfl, newI_at, by rw [r.len.2, hl], fun z => (R.grow s).used y z n1, (r.reps' hm).same sn⟩
theorem p_new0 {c : Nat} (M : Mk0 X.K (G.cA c)) (hf : G.fN c = []) (hg : Gl X x) (hm : X.mg x = some (.ref (G.cA c))) (hdb : (x == ("__debug__" : Str)) = false := by decide) : JP X G (.Call (.Name x p) [] [] pos) (dC (.obj c [])) :=
  imp (pe_make00 M hg hm hdb) fun σ H Q ⟨f, ow, ps, w, R, e, q⟩ => by
    cases e
    intro y dy n1 n2 ne
    have sn := newI_same (C := G.cA c) (fs := []) n1 n2
    exact q _ _ sn ⟨y, dy, [], rfl, by rw [List.zip_nil_right]; exact newI_at, by rw [hf]; rfl, fun z => R.used y z n1, rfl⟩
/-! ### targets -/
abbrev DG := PV → PSt → Rx PSt
/-- a frozen value is stored: the heap stays -/
def tG (K : PySem.W.Frag) (G : Pg) (g : DG) : TG := fun v σ H Q => ∃ (c : Fr) (ow : Ows) (ps : PSt) (w : PV) (ps' : PSt), RepS K G c H ow ps σ ∧ Rep K G H (av c ow) w v ∧ g w ps = .ok ps' ∧
  ∀ σ' ow', RepS K G c H ow' ps' σ' → (∀ a, av c ow' a → av c ow a) → Q σ' H
def tGs (K : PySem.W.Frag) (G : Pg) (g : List PV → PSt → Rx PSt) : TGs := fun vs σ H Q => ∃ (c : Fr) (ow : Ows) (ps : PSt) (ws : List PV) (ps' : PSt), RepS K G c H ow ps σ ∧ Reps K G H (av c ow) ws vs ∧ g ws ps = .ok ps' ∧
  ∀ σ' ow', RepS K G c H ow' ps' σ' → (∀ a, av c ow' a → av c ow a) → Q σ' H
abbrev JG (X : Cx) (G : Pg) (t : Expr) (g : DG) : Prop := PG X t (tG X.K G g)
abbrev JGs (X : Cx) (G : Pg) (t : List Expr) (g : List PV → PSt → Rx PSt) : Prop := PGs X t (tGs X.K G g)
theorem impG {e : Expr} {t t' : TG} (h : PG X e t) (f : ∀ v σ H Q, t' v σ H Q → t v σ H Q) : PG X e t' := fun pins s σ H v u Q I r q => h pins s σ H v u Q I r (f v σ H Q q)
theorem impGs {e : List Expr} {t t' : TGs} (h : PGs X e t) (f : ∀ v σ H Q, t' v σ H Q → t v σ H Q) : PGs X e t' := fun pins s σ H v u Q I r q => h pins s σ H v u Q I r (f v σ H Q q)
def gSet (i : Nat) : DG := fun w ps => .ok (ps.set i (.v w))
theorem g_name {i : Nat} (hN : X.N.Nodup) (hi : X.N[i]? = some x) (hx : Loc X.env.scope x) (hf : X.fn x = true ∨ X.env.scope.names.lookup x = some .local := by first | exact .inl rfl | exact .inr rfl | assumption) : JG X G (.Name x pos) (gSet i) :=
  impG (pg_name hN hi hx hf) fun v σ H Q ⟨c, ow, ps, w, ps', R, r, e, q⟩ => by
    cases e
    exact q _ _ (R.setV r) av_off
def gNilD : List PV → PSt → Rx PSt
  | [], ps => .ok ps
  | _ :: _, _ => .bad
def gConsD (g : DG) (gs : List PV → PSt → Rx PSt) : List PV → PSt → Rx PSt
  | w :: ws, ps => (g w ps).bind fun ps' => gs ws ps'
  | [], _ => .bad
theorem gs_nil : JGs X G [] gNilD := impGs pgs_nil fun vs σ H Q ⟨c, ow, ps, ws, ps', R, r, e, q⟩ => by
  cases ws with
  | nil => cases e; exact ⟨r, q σ ow R fun _ z => z⟩
  | cons w ws => cases e
theorem gs_cons {t : Expr} {ts : List Expr} {g : DG} {gs : List PV → PSt → Rx PSt} (h1 : JG X G t g) (h2 : JGs X G ts gs) (hs : (assignEach (t :: ts) X.env).map (·.2) = assign t X.env :: (assignEach ts X.env).map (·.2) := by rfl) : JGs X G (t :: ts) (gConsD g gs) :=
  impGs (pgs_cons h1 h2 hs) fun vs σ H Q ⟨c, ow, ps, ws, ps', R, r, e, q⟩ => by
    cases ws with
    | nil => cases e
    | cons w ws =>
      obtain ⟨v, vr, rfl, r1, r2⟩ := r
      obtain ⟨ps1, e1, e2⟩ := bind_ok e
      refine ⟨v, vr, rfl, c, ow, ps, w, ps1, R, r1, e1, fun σ' ow' R' wk => ?_⟩
      exact ⟨c, ow', ps1, ws, ps', R', (Kp.weak wk).reps r2, e2, fun σ2 ow2 R2 wk2 => q σ2 ow2 R2 fun a z => wk a (wk2 a z)⟩
def gTupD (n : Nat) (gs : List PV → PSt → Rx PSt) : DG := fun w ps => match w with | .tup ws => if ws.length = n then gs ws ps else .bad | _ => .bad
theorem g_tup {ts : List Expr} {j n : Nat} {gs : List PV → PSt → Rx PSt} (hc : X.calm = true) (h : JGs X G ts gs) (hn : (assignEach ts X.env).length = n := by rfl) (hst : (assignEach ts X.env).findIdx? (·.1) = none := by rfl) : JG X G (.Tuple ts j pos) (gTupD n gs) :=
  impG (pg_tup hc h hn hst) fun v σ H Q ⟨c, ow, ps, w, ps', R, r, e, q⟩ => by
    cases w with
    | tup ws =>
      have e : (if ws.length = n then gs ws ps else .bad) = .ok ps' := e
      split at e
      · rename_i hl
        obtain ⟨a, vs, rfl, sq, rs⟩ := r
        exact ⟨a, vs, rfl, sq, by rw [← rs.len]; exact hl, c, ow, ps, ws, ps', R, rs, e, q⟩
      · cases e
    | _ => cases e
end
end DN
end
section
set_option Elab.async false
set_option linter.all false
set_option maxRecDepth 100000
set_option maxHeartbeats 4000000
namespace DN
open PySem PySem.Spec PyProof.Rows L2
/-! ### what is walked -/
/-- J yields vs, as long as frozen things stay -/
def Wk (K : PySem.W.Frag) (G : Pg) (J : It) (H : Hp) (A : Av) (vs : List V) : Prop := ∀ H' A', Kp K G H A H' A' →
  (∀ (i : Nat) (x : V), vs[i]? = some x → J.go i H' ∧ ∀ y H2, J.yld i H' y H2 → H2 = H' ∧ y = x) ∧ J.stop vs.length H'
def WkS (J : It) (H : Hp) (vs : List V) : Prop := ∀ H', Same H H' → (∀ (i : Nat) (x : V), vs[i]? = some x → J.go i H' ∧ ∀ y H2, J.yld i H' y H2 → H2 = H' ∧ y = x) ∧ J.stop vs.length H'
def tPi (K : PySem.W.Frag) (G : Pg) (d : DA) : TI := fun σ H R => ∃ (c : Fr) (ow : Ows) (ps : PSt) (ws : List PV), RepS K G c H ow ps σ ∧ d ps = .ok ws ∧ ∀ J H' vs, Same H H' → Reps K G H' (av c ow) ws vs → Wk K G J H' (av c ow) vs → R J H'
def tPs (K : PySem.W.Frag) (G : Pg) (d : DA) : TI := fun σ H R => ∃ (c : Fr) (ow : Ows) (ps : PSt) (ws : List PV), RepS K G c H ow ps σ ∧ d ps = .ok ws ∧ ∀ J H' vs, Same H H' → Reps K G H' (av c ow) ws vs → WkS J H' vs → R J H'
abbrev JI (X : Cx) (G : Pg) (tg it : Expr) (d : DA) : Prop := PI X tg it (tPi X.K G d)
abbrev JIs (X : Cx) (G : Pg) (tg it : Expr) (d : DA) : Prop := PI X tg it (tPs X.K G d)
section
variable {X : Cx} {G : Pg} {e a b o tg : Expr} {es : List Expr} {da db : DP} {d : DA} {pos p apos : Pos} {x m : Str} {k : Nat} {ms : List Bool}
theorem impI {it : Expr} {t t' : TI} (h : PI X tg it t) (f : ∀ σ H R, t' σ H R → t σ H R) : PI X tg it t' := fun pins s σ H R I q => h pins s σ H R I (f σ H R q)
def dItems (d : DP) : DA := fun ps => (d ps).bind fun x => match x with | .lst xs => .ok xs | _ => .bad
def dItemsT (d : DP) : DA := fun ps => (d ps).bind fun x => match x with | .tup xs => .ok xs | _ => .bad
theorem it_list {K : PySem.W.Frag} {a : Addr} {vs : List V} {H : Hp} (h : SqL K H a vs) : (∀ (i : Nat) (x : V), vs[i]? = some x → (Itl K a).go i H ∧ ∀ y H2, (Itl K a).yld i H y H2 → H2 = H ∧ y = x) ∧ (Itl K a).stop vs.length H :=
  ⟨fun i x e => ⟨⟨vs, x, h, e⟩, fun y H2 ⟨e2, hy⟩ => ⟨e2, Option.some.inj ((hy vs h).symm.trans e)⟩⟩, ⟨vs, h, Nat.le_refl _⟩⟩
theorem i_list (h : JP X G e da) : JI X G tg e (dItems da) := impI (pi_list h) fun σ H R ⟨c, ow, ps, ws, S, e, q⟩ => by
  obtain ⟨x, e1, e2⟩ := bind_ok e
  refine ⟨c, ow, ps, x, S, e1, fun v H' s r => ?_⟩
  split at e2
  · cases e2
    obtain ⟨a, vs, rfl, rd, rs⟩ := r
    exact ⟨a, rfl, ⟨vs, rd.sq⟩, q _ H' vs s rs fun H2 A2 k => it_list (k.rdL rd).sq⟩
  · cases e2
theorem s_list (h : JB X G e da) : JIs X G tg e (dItems da) := impI (pi_list h) fun σ H R ⟨c, ow, ps, ws, S, e, q⟩ => by
  obtain ⟨x, e1, e2⟩ := bind_ok e
  refine ⟨c, ow, ps, x, S, e1, fun v H' s r => ?_⟩
  split at e2
  · cases e2
    obtain ⟨a, vs, rfl, rd, rs⟩ := r.lst
    exact ⟨a, rfl, ⟨vs, rd⟩, q _ H' vs s rs fun H2 k => it_list (k.seq rd)⟩
  · cases e2
theorem s_of_i (h : JI X G tg e d) : JIs X G tg e d := impI h fun σ H R ⟨c, ow, ps, ws, S, e, q⟩ => ⟨c, ow, ps, ws, S, e, fun J H' vs s rs w => q J H' vs s rs fun H2 k => w H2 _ (Kp.of_same k)⟩
def rngP (lo : Int) (n : Nat) : List PV := (List.range n).map fun (i : Nat) => PV.int (lo + (i : Int))
theorem rng_reps {K : PySem.W.Frag} {H : Hp} {A : Av} {lo : Int} {n : Nat} : Reps K G H A (rngP lo n) (rngV lo n) := by
  unfold rngP rngV
  generalize List.range n = l
  induction l with
  | nil => rfl
  | cons x xs ih => exact ⟨_, _, rfl, rfl, ih⟩
theorem it_rng {lo : Int} {n : Nat} {H : Hp} : (∀ (i : Nat) (x : V), (rngV lo n)[i]? = some x → (Itr lo n).go i H ∧ ∀ y H2, (Itr lo n).yld i H y H2 → H2 = H ∧ y = x) ∧ (Itr lo n).stop (rngV lo n).length H := by
  refine ⟨fun i x e => ?_, by show n ≤ (rngV lo n).length; rw [rngV_len]; exact Nat.le_refl _⟩
  have h := (List.getElem?_eq_some_iff.mp e).1
  rw [rngV_len] at h
  rw [rngV_at h] at e
  exact ⟨h, fun y H2 ⟨e2, hy⟩ => ⟨e2, hy.trans (Option.some.inj e)⟩⟩
def dRng1 (d : DA) : DA := fun ps => (d ps).bind fun ws => match ws with | [.int j] => if -(2 ^ 62) ≤ j ∧ j < 2 ^ 62 then .ok (rngP 0 j.toNat) else .bad | _ => .bad
theorem i_rng1 {ea : Expr} (hg : Gl X "range") (hm : X.mg "range" = none) (ha : JA X G [false] [ea] d) (hs : starEach [ea] X.env = [(false, eval ea X.env)] := by rfl) : JI X G tg (.Call (.Name "range" p) [ea] [] pos) (dRng1 d) :=
  impI (pi_range1 hg hm ha hs) fun σ H R ⟨c, ow, ps, ws, S, e, q⟩ => by
    obtain ⟨xs, e1, e2⟩ := bind_ok e
    refine ⟨c, ow, ps, xs, S, e1, fun vs H' s r => ?_⟩
    split at e2
    · split at e2
      · rename_i j hj
        cases e2
        obtain ⟨v, vr, rfl, r1, rfl⟩ := RepM.reps' r rfl
        exact ⟨j, by rw [show v = V.int j from r1], hj.1, hj.2, q _ H' _ s rng_reps fun _ _ _ => it_rng⟩
      · cases e2
    · cases e2
abbrev JTs (X : Cx) (G : Pg) (ifs : List Expr) (d : DT) : Prop := PTs X ifs (tPt X.K G d)
def dYes : DT := fun _ => .ok true
theorem ts_nil : JTs X G [] dYes := fun pins s σ H Q I h => pts_nil pins s σ H Q I (by
  obtain ⟨c, ow, ps, b, R, e, q⟩ := h
  cases e
  exact q H (Same.refl H))
def compD (g : DG) (dt : DT) (de : DP) : List PV → PSt → Rx (List PV)
  | [], _ => .ok []
  | x :: xs, ps => (g x ps).bind fun ps1 => (dt ps1).bind fun b => if b = true then (de ps1).bind fun y => (compD g dt de xs ps1).bind fun r => .ok (y :: r) else compD g dt de xs ps1
def dComp (own : List Str) (caps : List (Str × Nat)) (di : DA) (g : DG) (dt : DT) (de : DP) : DA := fun ps => (di ps).bind fun ws => if ws.length ≤ sizeLine then compD g dt de ws (capP own caps ps) else .bad
theorem comp_go {own : List Str} {caps : List (Str × Nat)} {di : DA} {g : DG} {dt : DT} {de : DP} (gk : ∀ (w : PV) (ps ps' : PSt), g w ps = .ok ps' → ∀ (i : Nat) (x : Ow), ps'[i]? = some (Sl.own x) → ps[i]? = some (Sl.own x)) {σ : L2.St} {H : Hp} {Q : VK}
    (h : tPn X.K G (dComp own caps di g dt de) σ H Q) : tComp own caps (tPs X.K G di) (tG X.K G g) (tPt X.K G dt) (tPv X.K G de) σ H Q := by
  obtain ⟨c, ow, ps, rs, R, e, q⟩ := h
  obtain ⟨ws, e1, e2⟩ := bind_ok e
  split at e2
  · rename_i hsz
    refine ⟨c, ow, ps, ws, R, e1, fun J H1 vs s1 rep wk => ?_⟩
    intro D hD
    have R1 := R.grow s1
    have hD0 : H D = none := s1.free hD
    let AD : Av := fun a => av c ow a ∨ a = D
    let B1 : Av := fun p => H1 p ≠ none
    have usedB : ∀ {H' : Hp}, Same H1 H' → Used H' B1 := fun {H'} s a z => by
      cases e3 : H1 a with
      | none => exact absurd e3 z
      | some o => rw [s _ _ e3]; simp
    have usedD : ∀ {H' : Hp}, Same H1 H' → H' D ≠ none → Used H' AD := by
      intro H' s hd a z
      rcases z with z | z
      · cases e3 : H1 a with
        | none => exact absurd e3 (R1.used a z)
        | some o => rw [s _ _ e3]; simp
      · rw [z]; exact hd
    refine ⟨fun i m σ' H' => ∃ (ps' : PSt) (ys : List PV) (us : List V) (rest : List PV), m = ws.length - i ∧ i ≤ ws.length ∧ RepF X.K G B1 H' AD ps' σ' ∧ (∀ (j : Nat) (x : Ow), ps'[j]? ≠ some (Sl.own x)) ∧ Same H1 H' ∧ Reps X.K G H' AD ws vs ∧ H' D = some (.lst us) ∧ Reps X.K G H' AD ys us ∧ ys.length ≤ i ∧
        compD g dt de (ws.drop i) ps' = .ok rest ∧ ys ++ rest = rs, ?_, ?_⟩
    · have sD : Same H1 (upd H1 D (.lst [])) := same_upd hD _
      have k : Kp X.K G H1 (av c ow) (upd H1 D (.lst [])) AD := Kp.take hD sD fun a z => z.symm
      have F0 := R1.caps own caps
      refine ⟨_, capP own caps ps, [], [], rs, rfl, Nat.zero_le _, ⟨F0.len, fun i s o h1 h2 => ?_⟩, fun j x z => ?_, sD, k.reps rep, upd_same, rfl, Nat.le_refl _, e2, rfl⟩
      · have q := F0.slot i s o h1 h2
        cases s with
        | no => exact True.intro
        | v w => obtain ⟨v, e, r⟩ := q; exact ⟨v, e, k.rep r⟩
        | own x => exact q.elim
        | ino x => exact q.elim
        | ini k xs => exact q.elim
        | bor w =>
          obtain ⟨v, e, r⟩ := q
          refine ⟨v, e, ?_⟩
          rcases r with r | ⟨x, p, e1, e2, r, n⟩
          · exact .inl (k.rep r)
          · obtain ⟨o', eo, _⟩ := r.at
            exact .inr ⟨x, p, e1, e2, r.keep k (by rw [sD _ _ eo, eo]), n⟩
      · have hl : j < (capP own caps ps).length := (List.getElem?_eq_some_iff.mp z).1
        have hl2 : j < (capS own caps σ).length := by rw [← F0.len]; exact hl
        exact (F0.slot j _ _ z (List.getElem?_eq_getElem hl2)).elim
    · rintro i m σ' H' ⟨ps', ys, us, rest, rfl, hi', F, no, sm, rep', hH, ry, hy, ec, er⟩
      have lv := rep'.len
      have wk' := wk H' sm
      rcases Nat.lt_or_ge i ws.length with hlt | hge
      · right
        have hdr : ws.drop i = ws[i] :: ws.drop (i + 1) := List.drop_eq_getElem_cons hlt
        rw [hdr] at ec
        have hgi : ws[i]? = some ws[i] := List.getElem?_eq_getElem hlt
        obtain ⟨v, hv, rv⟩ := rep'.get hgi
        obtain ⟨go, yl⟩ := wk'.1 i v hv
        refine ⟨go, _, fun _ _ h => h, fun y H2 hyl => ?_⟩
        obtain ⟨rfl, rfl⟩ := yl y H2 hyl
        obtain ⟨ps1, c1, ec⟩ := bind_ok ec
        obtain ⟨bb, c2, ec⟩ := bind_ok ec
        have u' : Used H2 AD := usedD sm (by rw [hH]; simp)
        have S' := F.toS u' (usedB sm)
        have kav : Kp X.K G H2 AD H2 (av ⟨H2, AD, B1, none⟩ ow0) := Kp.weak fun a z => av0 a z
        refine ⟨⟨H2, AD, B1, none⟩, ow0, ps', ws[i], ps1, S', kav.rep rv, c1, fun σ3 ow3 S3 wk3 => ?_⟩
        have no1 : ∀ (j : Nat) (x : Ow), ps1[j]? ≠ some (Sl.own x) := fun j x z => no j x (gk _ _ _ c1 j x z)
        have eow : ow3 = ow0 := by
          funext j
          cases q : ow3 j with
          | none => rfl
          | some p' =>
            have hj : j < ps1.length := by
              rcases Nat.lt_or_ge j ps1.length with z | z
              · exact z
              · rw [S3.out j z] at q; cases q
            obtain ⟨o', eo, qq⟩ := S3.get (List.getElem?_eq_getElem hj)
            cases es : ps1[j] with
            | no => rw [es] at qq; rw [show ow3 j = none from qq] at q; cases q
            | v w => rw [es] at qq; rw [qq.1] at q; cases q
            | bor w => rw [es] at qq; rw [qq.1] at q; cases q
            | own x => exact absurd (by rw [List.getElem?_eq_getElem hj, es]) (no1 j x)
            | ino x => rw [es] at qq; rw [qq.1] at q; cases q
            | ini k xs => rw [es] at qq; rw [qq.1] at q; cases q
        subst eow
        refine ⟨⟨H2, AD, B1, none⟩, ow0, ps1, bb, S3, c2, fun H4 s4 => ?_⟩
        have S4 := S3.grow s4
        have aft : ∀ {H5 : Hp}, Same H2 H5 → RepF X.K G B1 H5 AD ps1 σ3 := fun s5 => RepF.ofS (S3.grow s5) rfl
        split at ec
        · rename_i hb
          subst hb
          refine iteT ?_
          obtain ⟨yw, c3, ec⟩ := bind_ok ec
          obtain ⟨r', c4, ec⟩ := bind_ok ec
          cases ec
          refine ⟨⟨H2, AD, B1, none⟩, ow0, ps1, yw, S4, c3, fun yv H5 s5 r5 => ?_⟩
          have s25 := s4.trans s5
          have hH5 : H5 D = some (.lst us) := s25 _ _ hH
          have r5' : Rep X.K G H5 AD yw yv := (Kp.weak fun a z => Or.inl z).rep r5
          have mD : Mt (HO.lst us) := And.intro (fun _ z => by cases z) (fun _ _ z => by cases z)
          have kD : ∀ u, Kp X.K G H5 AD (upd H5 D u) AD := fun u => Kp.own (.inr rfl) hH5 mD
          have F5 := aft s25
          refine ⟨us, hH5, ?_, ws.length - (i + 1), by omega, ps1, ys ++ [yw], us ++ [yv], r', rfl, hlt, ⟨F5.len, fun j s o h1 h2 => ?_⟩, no1, fun b u hb => ?_, (kD _).reps (rep'.same s25), upd_same, (kD _).reps ((ry.same s25).snoc r5'), by rw [List.length_append]; simp; omega, c4, by rw [← er, List.append_assoc]; rfl⟩
          · rw [← ry.len]; omega
          · have q := F5.slot j s o h1 h2
            cases s with
            | no => exact True.intro
            | v w => obtain ⟨v, e, r⟩ := q; exact ⟨v, e, (kD _).rep r⟩
            | own x => exact q.elim
            | ino x => exact q.elim
            | ini k xs => exact q.elim
            | bor w =>
              obtain ⟨v, e, r⟩ := q
              refine ⟨v, e, ?_⟩
              rcases r with r | ⟨x, p', e1', e2', r, n⟩
              · exact .inl ((kD _).rep r)
              · exact .inr ⟨x, p', e1', e2', r.keep (kD _) (upd_ne (by intro z; subst z; exact n hD)), n⟩
          · rw [upd_ne (ne_of_none hb hD)]; exact s25 _ _ (sm _ _ hb)
        · rename_i hb
          have : bb = false := by simpa using hb
          subst this
          exact iteF ⟨ws.length - (i + 1), by omega, ps1, ys, us, rest, rfl, hlt, aft s4, no1, sm.trans s4, rep'.same s4, s4 _ _ hH, ry.same s4, by omega, ec, er⟩
      · left
        have : i = ws.length := Nat.le_antisymm hi' hge
        subst this
        rw [List.drop_length] at ec
        cases ec
        rw [List.append_nil] at er
        subst er
        refine ⟨by rw [lv]; exact wk'.2, q D us H' (s1.trans sm) hD0 hH ry⟩
  · cases e2
theorem n_comp {elt iter : Expr} {ifs : List Expr} {scope : Scope} {own : List Str} {caps : List (Str × Nat)} {di : DA} {g : DG} {dt : DT} {de : DP} (S : CompScope X scope own caps) (hc : X.calm = true) (hi : JIs X G tg iter di)
    (hg : ∀ C s₀ H₀ fp, JG (cxB X scope C (capN own caps) s₀ H₀ fp) G tg g) (ht : ∀ C s₀ H₀ fp, JTs (cxB X scope C (capN own caps) s₀ H₀ fp) G ifs dt) (he : ∀ C s₀ H₀ fp, JP (cxB X scope C (capN own caps) s₀ H₀ fp) G elt de)
    (gk : ∀ (w : PV) (ps ps' : PSt), g w ps = .ok ps' → ∀ (i : Nat) (x : Ow), ps'[i]? = some (Sl.own x) → ps[i]? = some (Sl.own x))
    (hs : ∀ x, foldedSetIterable iter X.env x = pure x := by intro _; rfl) : JN X G (.ListComp elt [⟨tg, iter, ifs, 0⟩] scope pos) (dComp own caps di g dt de) :=
  imp (pe_comp (wi := tPs X.K G di) (g := tG X.K G g) (tc := tPt X.K G dt) (te := tPv X.K G de) S hc hi hg ht he hs) fun σ H Q h => comp_go gk h
end
end DN
end
section
set_option Elab.async false
set_option linter.all false
set_option maxRecDepth 100000
set_option maxHeartbeats 4000000
namespace DN
open PySem PySem.Spec PyProof.Rows L2
section
variable {X : Cx} {G : Pg} {e a b o tg : Expr} {es : List Expr} {da db : DP} {d : DA} {dm : DM} {dma : DMA} {pos p apos cpos : Pos} {x m : Str} {k i : Nat} {ms : List Bool}
/-! ### expressions that change things of one's own -/
def mNil : DMA := fun ps => .ok ([], ps)
def mCons (a : DM) (r : DMA) : DMA := fun ps => (a ps).bind fun x => (r x.2).bind fun y => .ok (x.1 :: y.1, y.2)
def mTup (d : DMA) : DM := fun ps => (d ps).bind fun x => if x.1.length ≤ 1000 then .ok (.tup x.1, x.2) else .bad
def mPop (i : Nat) : DM := fun ps => match ps[i]? with
  | some (.own (.lst xs)) => (match xs.getLast? with | some w => .ok (w, ps.set i (.own (.lst xs.dropLast))) | none => .bad)
  | _ => .bad
theorem Reps.last {K : PySem.W.Frag} {H : Hp} {A : Av} {ws : List PV} {vs : List V} {w : PV} (r : Reps K G H A ws vs) (e : ws.getLast? = some w) : ∃ v, vs[vs.length - 1]? = some v ∧ Rep K G H A w v := by
  rw [List.getLast?_eq_getElem?] at e
  obtain ⟨v, h1, h2⟩ := r.get e
  exact ⟨v, by rw [← r.len]; exact h1, h2⟩
theorem Reps.dropLast {K : PySem.W.Frag} {H : Hp} {A : Av} {ws : List PV} {vs : List V} (r : Reps K G H A ws vs) : Reps K G H A ws.dropLast vs.dropLast := by
  rw [List.dropLast_eq_take, List.dropLast_eq_take, r.len]
  exact r.take _
def mApp (i : Nat) (d : DM) : DM := fun ps => match ps[i]? with
  | some (.own (.lst _)) => (d ps).bind fun x => (match x.2[i]? with | some (.own (.lst xs)) => if xs.length < sizeLine then .ok (.non, x.2.set i (.own (.lst (xs ++ [x.1])))) else .bad | _ => .bad)
  | _ => .bad
theorem m_app (i : Nat) (he : JM X G e dm) (hline : (apos.endLine == cpos.line) = true := by rfl) (hN : X.N[i]? = some x := by rfl) (hv : Vis X.env.scope x := by first | exact Or.inl rfl | exact Or.inr (Or.inl rfl) | exact Or.inr (Or.inr rfl)) (hd : (x == ("__debug__" : Str)) = false := by decide)
    (hcd : (x == ("__classdict__" : Str)) = false := by decide) (hst : starEach [e] X.env = (false, eval e X.env) :: starEach [] X.env := by rfl) (hbase : attributeBase (.Name x pos) "append" X.env (eval (.Name x pos) X.env) = eval (.Name x pos) X.env := by rfl)
    (hpl : (backTo cpos (starEach ([] : List Expr) X.env)).any (·.1) = false := by rfl)
    (hfew : ((backTo cpos (starEach [e] X.env)).all (fun x => !x.1) && (backToKw cpos (keywordEach [] X.env)).all (fun x => x.1.isSome) && decide (([e] : List Expr).length + ([] : List Keyword).length + (if ([] : List Keyword).isEmpty then 0 else 1) < 30)) = true := by rfl) :
    JM X G (.Call (.Attribute (.Name x pos) "append" apos) [e] [] cpos) (mApp i dm) :=
  imp (pe_bm PySem.F.plainAttrs_list PySem.F.slot_list_append PySem.F.type_list_append mt_append (pe_var hN hv hd hcd) (pa_cons he pa_nil hst) hbase hfew hline hst hpl) fun σ H Q ⟨c, ow, ps, w, ps', R, e, q⟩ => by
    unfold mApp at e
    split at e
    · rename_i xs0 hx0
      obtain ⟨⟨w1, p1⟩, e1, e⟩ := bind_ok e
      split at e
      · rename_i xs hx
        split at e
        · rename_i hl
          cases e
          obtain ⟨p0, e2, e3, vs0, hH0, _⟩ := R.getO hx0
          refine ⟨.ref p0, e3, .inl ⟨rfl, _, SqL.of hH0⟩, c, ow, ps, w1, p1, R, e1, fun v H1 ow1 R1 k1 r1 => ?_⟩
          obtain ⟨p, e4, e5, vs, hH, rs⟩ := R1.getO hx
          rw [e3] at e5; cases e5
          have mD : Mt (HO.lst vs) := And.intro (fun _ z => by cases z) (fun _ _ z => by cases z)
          have k0 : Kp X.K G H1 (av c ow1) (upd H1 p0 (.lst (vs ++ [v]))) (av c ow1) := Kp.own (.inr ⟨i, e4⟩) hH mD
          have := R1.chg (y := .lst (xs ++ [w1])) (u := .lst (vs ++ [v])) hx e4 ⟨_, upd_same, k0.reps (rs.snoc r1)⟩
          exact ⟨p0, vs, v, rfl, rfl, hH, by rw [← rs.len]; exact hl, q .non _ ow1 this.1 (k1.trans this.2) rfl⟩
        · cases e
      · cases e
    · cases e
/-- the slot's own thing is handed on, frozen from now on -/
def mFrz (i : Nat) : DM := fun ps => match ps[i]? with
  | some (.own y) => .ok (y.pv, ps.set i (.v y.pv))
  | some (.v w) => .ok (w, ps)
  | _ => .bad
/-- f(..), an argument of which changes things of one's own, or is handed on -/
def mCall (f : List PV → Rx PV) (d : DMA) : DM := fun ps => (d ps).bind fun x => (f x.1).bind fun w => .ok (w, x.2)
end
theorem av_on {c : Fr} {ow : Ows} {i : Nat} {p : Addr} : ∀ a, av c (onW ow i p) a → a = p ∨ av c ow a := by
  intro a h
  rcases h with h | ⟨j, h⟩
  · exact .inr (.inl h)
  · unfold onW at h
    split at h
    · cases h; exact .inl rfl
    · exact .inr (.inr ⟨j, h⟩)
/-! ### statements -/
inductive Rs where
  | nx (ps : PSt) | ret (w : PV) | retn (xs : List PV) | reti (w : PV) (x : Ow) | brk (ps : PSt) | cnt (ps : PSt) | bad | exc (c : Nat)
abbrev DS := PSt → Rs
def EndsAt (K : PySem.W.Frag) (G : Pg) (c : Fr) (H : Hp) (A : Av) (D : Ends) : Rs → Prop
  | .nx ps => ∀ σ H' ow, RepS K G c H' ow ps σ → Kp K G H A H' (av c ow) → D.nx σ H'
  | .ret w => ∀ v H', SmL c H' → Rep K G H' c.A0 w v → D.rt v H'
  | .reti w x => ∀ v H' p, SmL c H' → c.lx = some p → RepO K G H' c.A0 x p → Rep K G H' c.A0 w v → D.rt v H'
  | .retn xs => ∀ p vs H', SmL c H' → c.H0 p = none → H' p = some (.lst vs) → Reps K G H' (fun a => c.A0 a ∨ a = p) xs vs → D.rt (.ref p) H'
  | .brk ps => ∀ σ H' ow, RepS K G c H' ow ps σ → Kp K G H A H' (av c ow) → D.bk σ H'
  | .cnt ps => ∀ σ H' ow, RepS K G c H' ow ps σ → Kp K G H A H' (av c ow) → D.ct σ H'
  | .bad => False
  | .exc _ => False
theorem EndsAt.mono {K : PySem.W.Frag} {G : Pg} {c : Fr} {H H1 : Hp} {A A1 : Av} {D : Ends} {r : Rs} (h : EndsAt K G c H A D r) (k : Kp K G H A H1 A1) : EndsAt K G c H1 A1 D r := by
  cases r with
  | nx ps => exact fun σ H' ow R k' => h σ H' ow R (k.trans k')
  | ret w => exact h
  | retn xs => exact h
  | reti w x => exact h
  | brk ps => exact fun σ H' ow R k' => h σ H' ow R (k.trans k')
  | cnt ps => exact fun σ H' ow R k' => h σ H' ow R (k.trans k')
  | bad => exact h
  | exc c => exact h
def tD (K : PySem.W.Frag) (G : Pg) (d : DS) : TS := fun D σ H => ∃ (c : Fr) (ow : Ows) (ps : PSt), RepS K G c H ow ps σ ∧ EndsAt K G c H (av c ow) D (d ps)
abbrev JS (X : Cx) (G : Pg) (st : Stmt) (d : DS) : Prop := PS X st (tD X.K G d)
abbrev JSs (X : Cx) (G : Pg) (st : List Stmt) (d : DS) : Prop := PSs X st (tD X.K G d)
theorem impS {X : Cx} {st : Stmt} {t t' : TS} (h : PS X st t) (f : ∀ D σ H, t' D σ H → t D σ H) : PS X st t' := fun pins s σ H D I q => h pins s σ H D I (f D σ H q)
theorem impSs {X : Cx} {st : List Stmt} {t t' : TS} (h : PSs X st t) (f : ∀ D σ H, t' D σ H → t D σ H) : PSs X st t' := fun pins s σ H D I q => h pins s σ H D I (f D σ H q)
def Rx.st {α : Type} : Rx α → (α → Rs) → Rs
  | .ok a, f => f a
  | .bad, _ => .bad
  | .exc c, _ => .exc c
@[simp] theorem ok_st {α : Type} (a : α) (f : α → Rs) : (Rx.ok a).st f = f a := rfl
@[simp] theorem bad_st {α : Type} (f : α → Rs) : (Rx.bad : Rx α).st f = .bad := rfl
@[simp] theorem exc_st {α : Type} (c : Nat) (f : α → Rs) : (Rx.exc c : Rx α).st f = .exc c := rfl
theorem ends_st {α : Type} {K : PySem.W.Frag} {G : Pg} {c : Fr} {H : Hp} {A : Av} {D : Ends} {m : Rx α} {f : α → Rs} (h : EndsAt K G c H A D (m.st f)) : ∃ a, m = .ok a ∧ EndsAt K G c H A D (f a) := by
  cases m with
  | ok a => exact ⟨a, rfl, h⟩
  | bad => exact h.elim
  | exc c => exact h.elim
section
variable {X : Cx} {G : Pg} {e a b o tg : Expr} {es : List Expr} {da db : DP} {d : DA} {dm : DM} {ds du : DS} {st : Stmt} {rest : List Stmt} {pos p : Pos} {x m : Str} {k i : Nat}
def sNext : DS := fun ps => .nx ps
def sSeq (a b : DS) : DS := fun ps => match a ps with | .nx ps' => b ps' | r => r
theorem ss_nil : JSs X G [] sNext := impSs pss_nil fun D σ H ⟨c, ow, ps, R, q⟩ => q σ H ow R (Kp.of_same (Same.refl H))
theorem ss_one (h : JS X G st ds) : JSs X G [st] ds := pss_one h
theorem ss_cons (h1 : JS X G st ds) (h2 : JSs X G rest du) : JSs X G (st :: rest) (sSeq ds du) := impSs (pss_cons h1 h2) fun D σ H ⟨c, ow, ps, R, q⟩ => by
  refine ⟨c, ow, ps, R, ?_⟩
  unfold sSeq at q
  cases e : ds ps with
  | nx ps' => rw [e] at q; exact fun σ' H' ow' R' k => ⟨c, ow', ps', R', q.mono k⟩
  | ret w => rw [e] at q; exact q
  | retn xs => rw [e] at q; exact q
  | reti w x => rw [e] at q; exact q
  | brk ps' => rw [e] at q; exact q
  | cnt ps' => rw [e] at q; exact q
  | bad => rw [e] at q; exact q
  | exc c => rw [e] at q; exact q
def sBrk : DS := fun ps => .brk ps
def sCnt : DS := fun ps => .cnt ps
def sSet (i : Nat) (d : DP) : DS := fun ps => (d ps).st fun w => .nx (ps.set i (.v w))
theorem s_set (hN : X.N.Nodup) (hi : X.N[i]? = some x) (hx : Loc X.env.scope x) (he : JP X G e da) (hs : swapsWith e (some (.Name x p)) pos.line X.env = pure false := by rfl) (hf : X.fn x = true ∨ X.env.scope.names.lookup x = some .local := by first | exact .inl rfl | exact .inr rfl | assumption) :
    JS X G (.Assign [.Name x p] e pos) (sSet i da) := impS (ps_set hN hi hx he hs hf) fun D σ H ⟨c, ow, ps, R, q⟩ => by
  obtain ⟨w, e1, q⟩ := ends_st q
  exact ⟨c, ow, ps, w, R, e1, fun v H' s r => q _ _ _ ((R.grow s).setV r) ((Kp.of_same s).trans (Kp.weak av_off))⟩
def sSetM (i : Nat) (d : DM) : DS := fun ps => (d ps).st fun w => .nx (w.2.set i (.v w.1))
/-- a new list into a slot, one's own -/
def sOwn (i : Nat) (d : DA) : DS := fun ps => (d ps).st fun ws => if i < ps.length then .nx (ps.set i (.own (.lst ws))) else .bad
theorem s_own (hN : X.N.Nodup) (hi : X.N[i]? = some x) (hx : Loc X.env.scope x) (he : JN X G e d) (hs : swapsWith e (some (.Name x p)) pos.line X.env = pure false := by rfl) (hf : X.fn x = true ∨ X.env.scope.names.lookup x = some .local := by first | exact .inl rfl | exact .inr rfl | assumption) :
    JS X G (.Assign [.Name x p] e pos) (sOwn i d) := impS (ps_set hN hi hx he hs hf) fun D σ H ⟨c, ow, ps, R, q⟩ => by
  obtain ⟨ws, e1, q⟩ := ends_st q
  split at q
  · rename_i hl
    exact ⟨c, ow, ps, ws, R, e1, fun p vs H' s hp hv r => q _ _ _ (R.setO hl s hp ⟨vs, hv, r⟩) (Kp.take hp s av_on)⟩
  · exact q.elim
/-- any target -/
def sAsg (g : DG) (d : DP) : DS := fun ps => (d ps).st fun w => (g w ps).st fun ps' => .nx ps'
theorem s_asg {g : DG} (he : JP X G e da) (hg : JG X G tg g) (hs : swapsWithSole [tg] e pos.line X.env = pure false := by rfl) (hw : swappedStores [tg] e X.env = pure none := by rfl) (h1 : (assignEach [tg] X.env).map (·.2) = [assign tg X.env] := by rfl) : JS X G (.Assign [tg] e pos) (sAsg g da) :=
  impS (ps_asg he hg hs hw h1) fun D σ H ⟨c, ow, ps, R, q⟩ => by
    obtain ⟨w, e1, q⟩ := ends_st q
    obtain ⟨ps', e2, q⟩ := ends_st q
    exact ⟨c, ow, ps, w, R, e1, fun v H' s r => ⟨c, ow, ps, w, ps', R.grow s, r, e2, fun σ' ow' R' wk => q _ _ _ R' ((Kp.of_same s).trans (Kp.weak wk))⟩⟩
def sExpr (d : DM) : DS := fun ps => (d ps).st fun w => .nx w.2
theorem s_expr (he : JM X G e dm) (hs : swapsWith e none pos.line X.env = pure false := by rfl) : JS X G (.Expr e pos) (sExpr dm) := impS (ps_expr he hs) fun D σ H ⟨c, ow, ps, R, q⟩ => by
  obtain ⟨⟨w, ps'⟩, e1, q⟩ := ends_st q
  exact ⟨c, ow, ps, w, ps', R, e1, fun v H' ow' R' k r => q _ _ _ R' k⟩
def sRet (d : DP) : DS := fun ps => (d ps).st fun w => .ret w
theorem s_ret (he : JP X G e da) : JS X G (.Return (some e) pos) (sRet da) := impS (ps_ret he) fun D σ H ⟨c, ow, ps, R, q⟩ => by
  obtain ⟨w, e1, q⟩ := ends_st q
  exact ⟨c, ow, ps, w, R, e1, fun v H' s r => q v H' (R.same.trans s) ((Kp.weak fun a z => Or.inl z).rep r)⟩
def sRetM (d : DM) : DS := fun ps => (d ps).st fun w => .ret w.1
/-- a new list is handed out; a list of one's own is handed out -/
def sRetW (d : DA) : DS := fun ps => (d ps).st fun xs => .retn xs
def sRetO (i : Nat) : DS := fun ps => match ps[i]? with | some (.own (.lst xs)) => .retn xs | _ => .bad
def sRetN : DS := fun _ => .ret .non
def sIf (t : DT) (a b : DS) : DS := fun ps => (t ps).st fun x => if x = true then a ps else b ps
theorem s_if {c : Expr} {a b : List Stmt} {dt : DT} (hc : JT X G c dt) (ha : JSs X G a ds) (hb : JSs X G b du) : JS X G (.If c a b pos) (sIf dt ds du) := impS (ps_if hc ha hb) fun D σ H ⟨c, ow, ps, R, q⟩ => by
  obtain ⟨x, e1, q⟩ := ends_st q
  refine ⟨c, ow, ps, x, R, e1, fun H' s => ?_⟩
  split at q
  · rename_i hx; subst hx; exact iteT ⟨c, ow, ps, R.grow s, q.mono (Kp.of_same s)⟩
  · rename_i hx
    have : x = false := by simpa using hx
    subst this
    exact iteF ⟨c, ow, ps, R.grow s, q.mono (Kp.of_same s)⟩
/-! ### for -/
def forD (g : DG) (body : DS) : List PV → PSt → Rs
  | [], ps => .nx ps
  | w :: ws, ps => (g w ps).st fun ps1 => match body ps1 with
    | .nx ps2 => forD g body ws ps2
    | .cnt ps2 => forD g body ws ps2
    | .brk ps2 => .nx ps2
    | r => r
def sFor (di : DA) (g : DG) (body : DS) : DS := fun ps => (di ps).st fun ws => forD g body ws ps
theorem s_for {iter : Expr} {body : List Stmt} {di : DA} {g : DG} (hp : PassesOwn (model X.prog X.w) X.A X.env X.xe) (hc : X.calm = true) (hi : JI X G tg iter di) (hg : JG X G tg g) (hb : JSs X G body ds)
    (hs : ∀ x, foldedSetIterable iter X.env x = pure x := by intro _; rfl) : JS X G (.For tg iter body [] pos) (sFor di g ds) := impS (ps_for hp hc hi hg hb hs) fun D σ H ⟨c, ow, ps, R, q⟩ => by
  obtain ⟨ws, e1, q⟩ := ends_st q
  refine ⟨c, ow, ps, ws, R, e1, fun J H1 vs s1 rep wk => ?_⟩
  refine ⟨fun i m σ' H' => ∃ ow' ps', m = ws.length - i ∧ i ≤ ws.length ∧ RepS X.K G c H' ow' ps' σ' ∧ Kp X.K G H1 (av c ow) H' (av c ow') ∧ EndsAt X.K G c H' (av c ow') D (forD g ds (ws.drop i) ps'),
    ⟨_, ow, ps, rfl, Nat.zero_le _, R.grow s1, Kp.of_same (Same.refl _), q.mono (Kp.of_same s1)⟩, ?_⟩
  rintro i m σ' H' ⟨ow', ps', rfl, hi', R', k', q'⟩
  obtain ⟨wg, wst⟩ := wk H' _ k'
  rcases Nat.lt_or_ge i ws.length with hlt | hge
  · right
    rw [List.drop_eq_getElem_cons hlt] at q'
    obtain ⟨v, hv, rv⟩ := (k'.reps rep).get (List.getElem?_eq_getElem hlt)
    obtain ⟨go, yl⟩ := wg i v hv
    refine ⟨go, _, fun _ _ h => h, fun y H2 hyl => ?_⟩
    obtain ⟨rfl, rfl⟩ := yl y H2 hyl
    obtain ⟨ps1, c1, q'⟩ := ends_st q'
    refine ⟨c, ow', ps', ws[i], ps1, R', rv, c1, fun σ3 ow3 R3 wk3 => ?_⟩
    have k3 : Kp X.K G H1 (av c ow) H2 (av c ow3) := k'.trans (Kp.weak wk3)
    have q3 := q'.mono (Kp.weak (K := X.K) (G := G) (H := H2) wk3)
    refine ⟨c, ow3, ps1, R3, ?_⟩
    cases er : ds ps1 with
    | nx ps2 =>
      rw [er] at q3
      exact fun σ4 H4 ow4 R4 k4 => ⟨ws.length - (i + 1), by omega, ow4, ps2, rfl, hlt, R4, k3.trans k4, EndsAt.mono q3 k4⟩
    | cnt ps2 =>
      rw [er] at q3
      exact fun σ4 H4 ow4 R4 k4 => ⟨ws.length - (i + 1), by omega, ow4, ps2, rfl, hlt, R4, k3.trans k4, EndsAt.mono q3 k4⟩
    | brk ps2 => rw [er] at q3; exact q3
    | ret w => rw [er] at q3; exact q3
    | retn xs => rw [er] at q3; exact q3
    | reti w x => rw [er] at q3; exact q3
    | bad => rw [er] at q3; exact q3
    | exc c => rw [er] at q3; exact q3
  · left
    have : i = ws.length := Nat.le_antisymm hi' hge
    subst this
    rw [List.drop_length] at q'
    exact ⟨by rw [rep.len]; exact wst, q' σ' H' ow' R' (Kp.of_same (Same.refl _))⟩
end
/-! ### a def -/
def inP (ms : List Bool) (n : Nat) (ws : List PV) : PSt := (List.zipWith (fun m w => if m = true then Sl.bor w else Sl.v w) ms ws) ++ List.replicate (n - ws.length) .no
def runD (ms : List Bool) (n : Nat) (d : DS) (ws : List PV) : Rx PV := if ws.length = ms.length then (match d (inP ms n ws) with | .ret w => .ok w | .retn xs => .ok (.lst xs) | .nx _ => .ok .non | .exc c => .exc c | _ => .bad) else .bad
theorem inF {K : PySem.W.Frag} {G : Pg} {H : Hp} {A : Av} : ∀ {ms : List Bool} {ws : List PV} {vs : List V} {i : Nat} {s : Sl} {o : Option V}, RepM K G H A ms ws vs → (List.zipWith (fun m w => if m = true then Sl.bor w else Sl.v w) ms ws)[i]? = some s → (vs.map some)[i]? = some o → SlF K G (fun p => H p ≠ none) H A s o
  | [], ws, vs, i, s, o, h, e1, e2 => by obtain ⟨rfl, rfl⟩ := h; simp at e1
  | m :: ms, ws, vs, 0, s, o, h, e1, e2 => by
    obtain ⟨w, wr, v, vr, rfl, rfl, r, rr⟩ := h
    simp at e1 e2
    subst e1; subst e2
    cases m with
    | true =>
      simp only [if_pos]
      rw [if_pos rfl] at r
      refine ⟨v, rfl, ?_⟩
      rcases r with r | ⟨x, p, e1, e2, r⟩
      · exact .inl r
      · obtain ⟨o', eo, _⟩ := r.at
        exact .inr ⟨x, p, e1, e2, r, by show H p ≠ none; rw [eo]; simp⟩
    | false =>
      rw [if_neg Bool.false_ne_true] at r
      exact ⟨v, rfl, r⟩
  | m :: ms, ws, vs, i + 1, s, o, h, e1, e2 => by
    obtain ⟨w, wr, v, vr, rfl, rfl, r, rr⟩ := h
    exact inF (i := i) rr (by simpa using e1) (by simpa using e2)
theorem in_rep {K : PySem.W.Frag} {G : Pg} {H : Hp} {A : Av} {ms : List Bool} {ws : List PV} {vs : List V} {N : List Str} (r : RepM K G H A ms ws vs) : RepF K G (fun p => H p ≠ none) H A (inP ms N.length ws) (L2.start N vs) := by
  have l1 := r.len.1
  have l2 := r.len.2
  refine ⟨by simp [inP, L2.start, l1, l2], fun i s o e1 e2 => ?_⟩
  unfold inP at e1
  unfold L2.start at e2
  rcases Nat.lt_or_ge i ms.length with h | h
  · rw [List.getElem?_append_left (by simp [l1]; omega)] at e1
    rw [List.getElem?_append_left (by simp [l2]; omega)] at e2
    exact inF r e1 e2
  · rw [List.getElem?_append_right (by simp [l1]; omega), List.getElem?_replicate] at e1
    split at e1
    · cases e1; exact True.intro
    · cases e1
/-- THE RULE for a def: its body's mirror -/
theorem fn_ok {P : Program} {w : World} {K : PySem.W.Frag} {mg : Str → Option Value} {base : Bs} {G : Pg} {x qual : Str} {st : Stmt} {f : Addr} {fd : FuncData} {N ps : List Str} {k : Nat} {ms : List Bool} {d : DS} (F : Fun K x qual st f fd) (S : FnScope N ps (defScope st)) (hm : ms.length = ps.length)
    (hb : ∀ (cdv : Value) (A : Around) (outer : List Env) (s : Shared) (H : Hp) (E : XK), Room k (A.deeper (envOfC qual (defScope st) s.heap.objs.size f cdv)) → JSs (cxOf CX0 P w K mg base N qual (defScope st) f cdv A outer s H E).nox G (defBody st) d) :
    FnOk P w K mg base CX0 (k + 1) f fd ps (spG K G ms (runD ms N.length d)) := by
  refine F.ok S (fun vs H Q E h => ?_) (fun cdv A outer s H vs Q E hr h => ?_)
  · obtain ⟨A, ws, w, u, r, _⟩ := h
    rw [r.len.2, hm]
  · obtain ⟨A', ws, w', u, r, e, q⟩ := h
    refine ⟨_, hb cdv A outer s H E hr, ?_⟩
    have F0 := in_rep (N := N) r
    have S0 := F0.toS u fun a z => z
    refine ⟨_, ow0, inP ms N.length ws, S0, ?_⟩
    unfold runD at e
    rw [if_pos r.len.1] at e
    cases ed : d (inP ms N.length ws) with
    | nx ps' => rw [ed] at e; cases e; exact fun σ' H' ow' R' _ => q .non H' (R'.same.same rfl) rfl
    | ret w2 => rw [ed] at e; cases e; exact fun v H' s r => q v H' (s.same rfl) r
    | reti w x => rw [ed] at e; cases e
    | retn xs => rw [ed] at e; cases e; exact fun p vs H' s hp hv r => q (.ref p) H' (s.same rfl) ⟨p, vs, rfl, .inl ⟨hv, fun z => u p z hp⟩, (Kp.weak fun a z => Or.inl z).reps r⟩
    | brk _ => rw [ed] at e; cases e
    | cnt _ => rw [ed] at e; cases e
    | bad => rw [ed] at e; cases e
    | exc _ => rw [ed] at e; cases e
end DN
end
section
set_option Elab.async false
set_option linter.all false
set_option maxRecDepth 100000
set_option maxHeartbeats 4000000
namespace DN
open PySem PySem.Spec PyProof.Rows L2
def isF : PV → Bool
  | .non => true | .bl _ => true | .int _ => true | .str _ => true | _ => false
mutual
def peq : PV → PV → Option Bool
  | .tup xs, .tup ys => peqs xs ys
  | .lst xs, .lst ys => if xs.length = ys.length then peqs xs ys else some false
  | .tup _, .lst _ => some false
  | .lst _, .tup _ => some false
  | .tup _, .non => some false | .tup _, .bl _ => some false | .tup _, .int _ => some false | .tup _, .str _ => some false
  | .lst _, .non => some false | .lst _, .bl _ => some false | .lst _, .int _ => some false | .lst _, .str _ => some false
  | .non, .tup _ => some false | .bl _, .tup _ => some false | .int _, .tup _ => some false | .str _, .tup _ => some false
  | .non, .lst _ => some false | .bl _, .lst _ => some false | .int _, .lst _ => some false | .str _, .lst _ => some false
  | .non, .non => some true | .bl a, .bl b => some (a == b) | .int a, .int b => some (a == b) | .str a, .str b => some (a == b)
  | .bl a, .int b => some ((if a then 1 else 0) == b) | .int a, .bl b => some (a == (if b then 1 else 0))
  | .non, .bl _ => some false | .non, .int _ => some false | .non, .str _ => some false
  | .bl _, .non => some false | .int _, .non => some false | .str _, .non => some false
  | .bl _, .str _ => some false | .str _, .bl _ => some false | .int _, .str _ => some false | .str _, .int _ => some false
  | _, _ => none
def peqs : List PV → List PV → Option Bool
  | [], [] => some true
  | x :: xs, y :: ys => match peq x y, peqs xs ys with | some a, some b => some (a && b) | _, _ => none
  | [], _ :: _ => some false
  | _ :: _, [] => some false
end
mutual
def PV.depth : PV → Nat
  | .tup xs => pdepths xs + 1
  | .lst xs => pdepths xs + 1
  | _ => 0
def pdepths : List PV → Nat
  | [] => 0
  | x :: xs => max x.depth (pdepths xs)
end
def eAt : List PV → List PV → Nat → Bool
  | x :: _, y :: _, 0 => (peq x y).getD false
  | _ :: xs, _ :: ys, j + 1 => eAt xs ys j
  | _, _, _ => false
theorem peqs_cons {x y : PV} {xs ys : List PV} {b : Bool} (h : peqs (x :: xs) (y :: ys) = some b) : ∃ a c, peq x y = some a ∧ peqs xs ys = some c ∧ b = (a && c) := by
  rw [peqs] at h
  cases e1 : peq x y with
  | none => rw [e1] at h; simp at h
  | some a =>
    cases e2 : peqs xs ys with
    | none => rw [e1, e2] at h; simp at h
    | some c => rw [e1, e2] at h; simp at h; exact ⟨a, c, rfl, rfl, h.symm⟩
theorem peqs_all : ∀ {xs ys : List PV} {b : Bool}, peqs xs ys = some b → ((List.range (min xs.length ys.length)).all (eAt xs ys) && xs.length == ys.length) = b
  | [], [], b, h => by rw [peqs] at h; cases h; rfl
  | [], y :: ys, b, h => by rw [peqs] at h; cases h; simp
  | x :: xs, [], b, h => by rw [peqs] at h; cases h; simp
  | x :: xs, y :: ys, b, h => by
    obtain ⟨a, c, e1, e2, rfl⟩ := peqs_cons h
    have ih := peqs_all e2
    rw [← ih, List.length_cons, List.length_cons, Nat.add_min_add_right, List.range_succ_eq_map, List.all_cons, List.all_map]
    have q1 : ((eAt (x :: xs) (y :: ys)) ∘ Nat.succ) = eAt xs ys := rfl
    have q2 : eAt (x :: xs) (y :: ys) 0 = a := by show (peq x y).getD false = a; rw [e1]; rfl
    have q3 : (xs.length + 1 == ys.length + 1) = (xs.length == ys.length) := by simp
    rw [q1, q2, q3, Bool.and_assoc]
section
variable {X : Cx} {G : Pg} {pins : List (Addr × Obj)} {σ : L2.St} {H : Hp} {s : Shared} {A0 : Av}
theorem list_inj' (I : Inv X pins σ H s) {a : Addr} {xs ys : List V} (h : SqL X.K H a xs) (h' : SqL X.K H a ys) : xs = ys := by
  obtain ⟨i1, r1, p1, _⟩ := I.list h
  obtain ⟨i2, r2, p2, _⟩ := I.list h'
  obtain ⟨o, n, e, c, d, q⟩ := p1
  obtain ⟨o', n', e', c', d', q'⟩ := p2
  rw [e] at e'; cases e'
  rw [q] at q'
  have : i1 = i2 := by
    have := (Data.seq.inj q').1
    simpa using this
  subst this
  exact r1.inj r2
mutual
theorem rep_inj (I : Inv X pins σ H s) : ∀ {x y : PV} {v : V} {b : Bool}, Rep X.K G H A0 x v → Rep X.K G H A0 y v → peq x y = some b → b = true
  | .tup xs, y, v, b, h, h', e => by
    obtain ⟨a, vs, rfl, sq, rs⟩ := h
    cases y with
    | tup ys =>
      obtain ⟨a', vs', e2, sq', rs'⟩ := h'
      cases e2
      have := I.tuple_inj sq sq'
      subst this
      rw [peq] at e
      exact reps_inj I rs rs' e
    | lst ys =>
      obtain ⟨a', vs', e2, sq', rs'⟩ := h'
      cases e2
      obtain ⟨_, _, ⟨o, h1, h2, _⟩, _⟩ := I.tuple sq
      obtain ⟨_, _, ⟨o', _, h1', h2', _⟩, _⟩ := I.list sq'.sq
      rw [h1] at h1'; cases h1'
      rw [h2] at h2'; exact absurd (Value.type.inj h2') (by decide)
    | non => cases h'
    | bl _ => cases h'
    | int _ => cases h'
    | str _ => cases h'
    | obj _ _ => simp [peq] at e
    | dic _ _ => simp [peq] at e
    | clo _ _ => simp [peq] at e
  | .lst xs, y, v, b, h, h', e => by
    obtain ⟨a, vs, rfl, sq, rs⟩ := h
    cases y with
    | lst ys =>
      obtain ⟨a', vs', e2, sq', rs'⟩ := h'
      cases e2
      have := list_inj' I sq.sq sq'.sq
      subst this
      rw [peq, if_pos (by rw [rs.len, rs'.len])] at e
      exact reps_inj I rs rs' e
    | tup ys =>
      obtain ⟨a', vs', e2, sq', rs'⟩ := h'
      cases e2
      obtain ⟨_, _, ⟨o, h1, h2, _⟩, _⟩ := I.tuple sq'
      obtain ⟨_, _, ⟨o', _, h1', h2', _⟩, _⟩ := I.list sq.sq
      rw [h1] at h1'; cases h1'
      rw [h2] at h2'; exact absurd (Value.type.inj h2') (by decide)
    | non => cases h'
    | bl _ => cases h'
    | int _ => cases h'
    | str _ => cases h'
    | obj _ _ => simp [peq] at e
    | dic _ _ => simp [peq] at e
    | clo _ _ => simp [peq] at e
  | .non, y, v, b, h, h', e => by
    cases h
    cases y with
    | non => cases h' <;> (rw [peq] at e; cases e; simp)
    | bl _ => cases h' <;> (rw [peq] at e; cases e; simp)
    | int _ => cases h' <;> (rw [peq] at e; cases e; simp)
    | str _ => cases h' <;> (rw [peq] at e; cases e; simp)
    | tup _ => obtain ⟨_, _, z, _⟩ := h'; cases z
    | lst _ => obtain ⟨_, _, z, _⟩ := h'; cases z
    | dic _ _ => obtain ⟨_, _, z, _⟩ := h'; cases z
    | clo _ _ => obtain ⟨_, _, _, z, _⟩ := h'; cases z
    | obj _ _ => obtain ⟨_, _, _, z, _⟩ := h'; cases z
  | .bl k, y, v, b, h, h', e => by
    cases h
    cases y with
    | non => cases h' <;> (rw [peq] at e; cases e; simp)
    | bl _ => cases h' <;> (rw [peq] at e; cases e; simp)
    | int _ => cases h' <;> (rw [peq] at e; cases e; simp)
    | str _ => cases h' <;> (rw [peq] at e; cases e; simp)
    | tup _ => obtain ⟨_, _, z, _⟩ := h'; cases z
    | lst _ => obtain ⟨_, _, z, _⟩ := h'; cases z
    | dic _ _ => obtain ⟨_, _, z, _⟩ := h'; cases z
    | clo _ _ => obtain ⟨_, _, _, z, _⟩ := h'; cases z
    | obj _ _ => obtain ⟨_, _, _, z, _⟩ := h'; cases z
  | .int k, y, v, b, h, h', e => by
    cases h
    cases y with
    | non => cases h' <;> (rw [peq] at e; cases e; simp)
    | bl _ => cases h' <;> (rw [peq] at e; cases e; simp)
    | int _ => cases h' <;> (rw [peq] at e; cases e; simp)
    | str _ => cases h' <;> (rw [peq] at e; cases e; simp)
    | tup _ => obtain ⟨_, _, z, _⟩ := h'; cases z
    | lst _ => obtain ⟨_, _, z, _⟩ := h'; cases z
    | dic _ _ => obtain ⟨_, _, z, _⟩ := h'; cases z
    | clo _ _ => obtain ⟨_, _, _, z, _⟩ := h'; cases z
    | obj _ _ => obtain ⟨_, _, _, z, _⟩ := h'; cases z
  | .str k, y, v, b, h, h', e => by
    cases h
    cases y with
    | non => cases h' <;> (rw [peq] at e; cases e; simp)
    | bl _ => cases h' <;> (rw [peq] at e; cases e; simp)
    | int _ => cases h' <;> (rw [peq] at e; cases e; simp)
    | str _ => cases h' <;> (rw [peq] at e; cases e; simp)
    | tup _ => obtain ⟨_, _, z, _⟩ := h'; cases z
    | lst _ => obtain ⟨_, _, z, _⟩ := h'; cases z
    | dic _ _ => obtain ⟨_, _, z, _⟩ := h'; cases z
    | clo _ _ => obtain ⟨_, _, _, z, _⟩ := h'; cases z
    | obj _ _ => obtain ⟨_, _, _, z, _⟩ := h'; cases z
  | .obj k xs, y, v, b, h, h', e => by
    cases y <;> simp [peq] at e
  | .dic k xs, y, v, b, h, h', e => by
    cases y <;> simp [peq] at e
  | .clo k xs, y, v, b, h, h', e => by
    cases y <;> simp [peq] at e
theorem reps_inj (I : Inv X pins σ H s) : ∀ {xs ys : List PV} {vs : List V} {b : Bool}, Reps X.K G H A0 xs vs → Reps X.K G H A0 ys vs → peqs xs ys = some b → b = true
  | [], [], vs, b, h, h', e => by rw [peqs] at e; cases e; rfl
  | [], y :: ys, vs, b, h, h', e => by
    obtain ⟨v, r, e2, _⟩ := h'
    have h : vs = [] := h
    rw [h] at e2; cases e2
  | x :: xs, [], vs, b, h, h', e => by
    obtain ⟨v, r, e2, _⟩ := h
    have h' : vs = [] := h'
    rw [h'] at e2; cases e2
  | x :: xs, y :: ys, vs, b, h, h', e => by
    obtain ⟨v, r, rfl, h1, h2⟩ := h
    obtain ⟨v', r', e2, h1', h2'⟩ := h'
    cases e2
    obtain ⟨a, c, e1, e2, rfl⟩ := peqs_cons e
    rw [rep_inj I h1 h1' e1, reps_inj I h2 h2' e2]; rfl
end
mutual
theorem eqp (I : Inv X pins σ H s) : ∀ {x y : PV} {v v' : V} {u u' : Value} {A : Around} {b : Bool}, A.units + x.depth < cLine → Rep X.K G H A0 x v → Rep X.K G H A0 y v' → RelV v u → RelV v' u' → peq x y = some b → SeqAt.EqAt A s u u' b
  | .tup xs, y, v, v', u, u', A, b, hu, h, h', r, r', e => by
    have hu0 : A.units < cLine := Nat.lt_of_le_of_lt (Nat.le_add_right _ _) hu
    have h0 := h
    obtain ⟨a, vs, rfl, sq, rs⟩ := h
    obtain rfl : u = Value.ref a := r
    obtain ⟨its, r1, p1, _⟩ := I.tuple sq
    cases y with
    | tup ys =>
      have h0' := h'
      obtain ⟨a', vs', rfl, sq', rs'⟩ := h'
      obtain rfl : u' = Value.ref a' := r'
      by_cases ea : a = a'
      · subst ea
        rw [rep_inj I h0 h0' e]
        exact SeqAt.EqAt.same _
      · obtain ⟨its', r2, p2, _⟩ := I.tuple sq'
        have hd : (PV.tup xs).depth = pdepths xs + 1 := by rw [PV.depth]
        rw [peq] at e
        refine SeqAt.EqAt.of_refs ea ?_
        have q := SeqAt.RcAt.tuples (A := A) (e := eAt xs ys) p1 p2 (by omega) fun j h1 h2 => by
          have h1' : j < its.length := by simpa using h1
          have h2' : j < its'.length := by simpa using h2
          have := eqps I (A := A.in1) (j := j) (by show A.units + 1 + pdepths xs < cLine; omega) rs rs' r1 r2 e (List.getElem?_eq_getElem h1') (List.getElem?_eq_getElem h2')
          simpa using this
        have e4 : its.toArray.size = xs.length := by rw [List.size_toArray, ← r1.length, rs.len]
        have e5 : its'.toArray.size = ys.length := by rw [List.size_toArray, ← r2.length, rs'.len]
        rw [e4, e5, peqs_all e] at q
        exact q
    | lst ys =>
      obtain ⟨a', vs', rfl, sq', rs'⟩ := h'
      obtain rfl : u' = Value.ref a' := r'
      obtain ⟨its', r2, p2, _⟩ := I.list sq'.sq
      rw [peq] at e; cases e
      exact SeqAt.EqAt.tuple_list p1 p2.isList hu0
    | non => cases h'; cases r'; rw [peq] at e; cases e; exact SeqAt.EqAt.tuple_none p1 hu0
    | bl k => cases h'; cases r'; rw [peq] at e; cases e; exact SeqAt.EqAt.tuple_bool k p1 hu0
    | int k => cases h'; obtain ⟨t, rfl⟩ := r'; rw [peq] at e; cases e; exact SeqAt.EqAt.tuple_int k t p1 hu0
    | str k => cases h'; obtain ⟨t, rfl⟩ := r'; rw [peq] at e; cases e; exact SeqAt.EqAt.tuple_str k t p1 hu0
    | obj _ _ => simp [peq] at e
    | dic _ _ => simp [peq] at e
    | clo _ _ => simp [peq] at e
  | .lst xs, y, v, v', u, u', A, b, hu, h, h', r, r', e => by
    have hu0 : A.units < cLine := Nat.lt_of_le_of_lt (Nat.le_add_right _ _) hu
    have h0 := h
    obtain ⟨a, vs, rfl, sq, rs⟩ := h
    obtain rfl : u = Value.ref a := r
    obtain ⟨its, r1, p1, _⟩ := I.list sq.sq
    cases y with
    | lst ys =>
      have h0' := h'
      obtain ⟨a', vs', rfl, sq', rs'⟩ := h'
      obtain rfl : u' = Value.ref a' := r'
      by_cases ea : a = a'
      · subst ea
        rw [rep_inj I h0 h0' e]
        exact SeqAt.EqAt.same _
      · obtain ⟨its', r2, p2, _⟩ := I.list sq'.sq
        have hd : (PV.lst xs).depth = pdepths xs + 1 := by rw [PV.depth]
        have e4 : its.toArray.size = xs.length := by rw [List.size_toArray, ← r1.length, rs.len]
        have e5 : its'.toArray.size = ys.length := by rw [List.size_toArray, ← r2.length, rs'.len]
        refine SeqAt.EqAt.of_refs ea ?_
        rw [peq] at e
        by_cases hl : xs.length = ys.length
        · rw [if_pos hl] at e
          have q := SeqAt.RcAt.lists (A := A) (e := eAt xs ys) p1.isList p2.isList (by rw [e4, e5, hl]) (by omega) fun j h1 h2 => by
            have h1' : j < its.length := by simpa using h1
            have h2' : j < its'.length := by simpa using h2
            have := eqps I (A := A.in1) (j := j) (by show A.units + 1 + pdepths xs < cLine; omega) rs rs' r1 r2 e (List.getElem?_eq_getElem h1') (List.getElem?_eq_getElem h2')
            simpa using this
          have q2 := peqs_all e
          rw [hl, Nat.min_self, beq_self_eq_true, Bool.and_true] at q2
          rw [e4, hl, q2] at q
          exact q
        · rw [if_neg hl] at e
          cases e
          exact SeqAt.RcAt.lists_lengths p1.isList p2.isList (by rw [e4, e5]; simpa using hl) hu0
    | tup ys =>
      obtain ⟨a', vs', rfl, sq', rs'⟩ := h'
      obtain rfl : u' = Value.ref a' := r'
      obtain ⟨its', r2, p2, _⟩ := I.tuple sq'
      rw [peq] at e; cases e
      exact SeqAt.EqAt.list_tuple p1.isList p2 hu0
    | non => cases h'; cases r'; rw [peq] at e; cases e; exact SeqAt.EqAt.list_none p1.isList hu0
    | bl k => cases h'; cases r'; rw [peq] at e; cases e; exact SeqAt.EqAt.list_bool k p1.isList hu0
    | int k => cases h'; obtain ⟨t, rfl⟩ := r'; rw [peq] at e; cases e; exact SeqAt.EqAt.list_int k t p1.isList hu0
    | str k => cases h'; obtain ⟨t, rfl⟩ := r'; rw [peq] at e; cases e; exact SeqAt.EqAt.list_str k t p1.isList hu0
    | obj _ _ => simp [peq] at e
    | dic _ _ => simp [peq] at e
    | clo _ _ => simp [peq] at e
  | .non, y, v, v', u, u', A, b, hu, h, h', r, r', e => by
    have hu0 : A.units < cLine := Nat.lt_of_le_of_lt (Nat.le_add_right _ _) hu
    cases h
    cases r
    cases y with
    | non => cases h'; cases r'; rw [peq] at e; cases e; exact SeqAt.EqAt.same _
    | bl k => cases h'; cases r'; rw [peq] at e; cases e; exact SeqAt.EqAt.none_bool k
    | int k => cases h'; obtain ⟨t, rfl⟩ := r'; rw [peq] at e; cases e; exact SeqAt.EqAt.none_int k t
    | str k => cases h'; obtain ⟨t, rfl⟩ := r'; rw [peq] at e; cases e; exact SeqAt.EqAt.none_str k t
    | tup ys =>
      obtain ⟨a', vs', rfl, sq', rs'⟩ := h'
      obtain rfl : u' = Value.ref a' := r'
      obtain ⟨its', r2, p2, _⟩ := I.tuple sq'
      rw [peq] at e; cases e
      exact SeqAt.EqAt.none_tuple p2 hu0
    | lst ys =>
      obtain ⟨a', vs', rfl, sq', rs'⟩ := h'
      obtain rfl : u' = Value.ref a' := r'
      obtain ⟨its', r2, p2, _⟩ := I.list sq'.sq
      rw [peq] at e; cases e
      exact SeqAt.EqAt.none_list p2.isList hu0
    | obj _ _ => simp [peq] at e
    | dic _ _ => simp [peq] at e
    | clo _ _ => simp [peq] at e
  | .bl k0, y, v, v', u, u', A, b, hu, h, h', r, r', e => by
    have hu0 : A.units < cLine := Nat.lt_of_le_of_lt (Nat.le_add_right _ _) hu
    cases h
    cases r
    cases y with
    | non => cases h'; cases r'; rw [peq] at e; cases e; exact SeqAt.EqAt.bool_none k0
    | bl k => cases h'; cases r'; rw [peq] at e; cases e; exact SeqAt.EqAt.bool_bool k0 k
    | int k => cases h'; obtain ⟨t, rfl⟩ := r'; rw [peq] at e; cases e; exact SeqAt.EqAt.bool_int k0 k t
    | str k => cases h'; obtain ⟨t, rfl⟩ := r'; rw [peq] at e; cases e; exact SeqAt.EqAt.bool_str k0 k t
    | tup ys =>
      obtain ⟨a', vs', rfl, sq', rs'⟩ := h'
      obtain rfl : u' = Value.ref a' := r'
      obtain ⟨its', r2, p2, _⟩ := I.tuple sq'
      rw [peq] at e; cases e
      exact SeqAt.EqAt.bool_tuple k0 p2 hu0
    | lst ys =>
      obtain ⟨a', vs', rfl, sq', rs'⟩ := h'
      obtain rfl : u' = Value.ref a' := r'
      obtain ⟨its', r2, p2, _⟩ := I.list sq'.sq
      rw [peq] at e; cases e
      exact SeqAt.EqAt.bool_list k0 p2.isList hu0
    | obj _ _ => simp [peq] at e
    | dic _ _ => simp [peq] at e
    | clo _ _ => simp [peq] at e
  | .int k0, y, v, v', u, u', A, b, hu, h, h', r, r', e => by
    have hu0 : A.units < cLine := Nat.lt_of_le_of_lt (Nat.le_add_right _ _) hu
    cases h
    obtain ⟨t0, rfl⟩ := r
    cases y with
    | non => cases h'; cases r'; rw [peq] at e; cases e; exact SeqAt.EqAt.int_none k0 t0
    | bl k => cases h'; cases r'; rw [peq] at e; cases e; exact SeqAt.EqAt.int_bool k0 t0 k
    | int k => cases h'; obtain ⟨t, rfl⟩ := r'; rw [peq] at e; cases e; exact SeqAt.EqAt.int_int k0 t0 k t
    | str k => cases h'; obtain ⟨t, rfl⟩ := r'; rw [peq] at e; cases e; exact SeqAt.EqAt.int_str k0 t0 k t
    | tup ys =>
      obtain ⟨a', vs', rfl, sq', rs'⟩ := h'
      obtain rfl : u' = Value.ref a' := r'
      obtain ⟨its', r2, p2, _⟩ := I.tuple sq'
      rw [peq] at e; cases e
      exact SeqAt.EqAt.int_tuple k0 t0 p2 hu0
    | lst ys =>
      obtain ⟨a', vs', rfl, sq', rs'⟩ := h'
      obtain rfl : u' = Value.ref a' := r'
      obtain ⟨its', r2, p2, _⟩ := I.list sq'.sq
      rw [peq] at e; cases e
      exact SeqAt.EqAt.int_list k0 t0 p2.isList hu0
    | obj _ _ => simp [peq] at e
    | dic _ _ => simp [peq] at e
    | clo _ _ => simp [peq] at e
  | .str k0, y, v, v', u, u', A, b, hu, h, h', r, r', e => by
    have hu0 : A.units < cLine := Nat.lt_of_le_of_lt (Nat.le_add_right _ _) hu
    cases h
    obtain ⟨t0, rfl⟩ := r
    cases y with
    | non => cases h'; cases r'; rw [peq] at e; cases e; exact SeqAt.EqAt.str_none k0 t0
    | bl k => cases h'; cases r'; rw [peq] at e; cases e; exact SeqAt.EqAt.str_bool k0 t0 k
    | int k => cases h'; obtain ⟨t, rfl⟩ := r'; rw [peq] at e; cases e; exact SeqAt.EqAt.str_int k0 t0 k t
    | str k => cases h'; obtain ⟨t, rfl⟩ := r'; rw [peq] at e; cases e; exact SeqAt.EqAt.str_str k0 t0 k t
    | tup ys =>
      obtain ⟨a', vs', rfl, sq', rs'⟩ := h'
      obtain rfl : u' = Value.ref a' := r'
      obtain ⟨its', r2, p2, _⟩ := I.tuple sq'
      rw [peq] at e; cases e
      exact SeqAt.EqAt.str_tuple k0 t0 p2 hu0
    | lst ys =>
      obtain ⟨a', vs', rfl, sq', rs'⟩ := h'
      obtain rfl : u' = Value.ref a' := r'
      obtain ⟨its', r2, p2, _⟩ := I.list sq'.sq
      rw [peq] at e; cases e
      exact SeqAt.EqAt.str_list k0 t0 p2.isList hu0
    | obj _ _ => simp [peq] at e
    | dic _ _ => simp [peq] at e
    | clo _ _ => simp [peq] at e
  | .obj k xs, y, v, v', u, u', A, b, hu, h, h', r, r', e => by
    cases y <;> simp [peq] at e
  | .dic k xs, y, v, v', u, u', A, b, hu, h, h', r, r', e => by
    cases y <;> simp [peq] at e
  | .clo k xs, y, v, v', u, u', A, b, hu, h, h', r, r', e => by
    cases y <;> simp [peq] at e
theorem eqps (I : Inv X pins σ H s) : ∀ {xs ys : List PV} {vs vs' : List V} {us us' : List Value} {A : Around} {j : Nat} {u u' : Value} {b : Bool}, A.units + pdepths xs < cLine → Reps X.K G H A0 xs vs → Reps X.K G H A0 ys vs' → Vals vs us → Vals vs' us' → peqs xs ys = some b →
    us[j]? = some u → us'[j]? = some u' → SeqAt.EqAt A s u u' (eAt xs ys j)
  | [], ys, vs, vs', us, us', A, j, u, u', b, hu, h, h', r, r', e, q, q' => by
    have h : vs = [] := h
    subst h; cases r
    simp at q
  | x :: xs, [], vs, vs', us, us', A, j, u, u', b, hu, h, h', r, r', e, q, q' => by
    have h' : vs' = [] := h'
    subst h'; cases r'
    simp at q'
  | x :: xs, y :: ys, vs, vs', us, us', A, j, u, u', b, hu, h, h', r, r', e, q, q' => by
    obtain ⟨v, t, rfl, h1, h2⟩ := h
    obtain ⟨v', t', rfl, h1', h2'⟩ := h'
    obtain ⟨a, c, e1, e2, rfl⟩ := peqs_cons e
    have hd : pdepths (x :: xs) = max x.depth (pdepths xs) := by rw [pdepths]
    cases r with
    | cons rx rt =>
      cases r' with
      | cons rx' rt' =>
        cases j with
        | zero =>
          simp at q q'
          subst q; subst q'
          have : eAt (x :: xs) (y :: ys) 0 = a := by show (peq x y).getD false = a; rw [e1]; rfl
          rw [this]
          exact eqp I (by omega) h1 h1' rx rx' e1
        | succ j => exact eqps I (j := j) (by omega) h2 h2' rt rt' e2 (by simpa using q) (by simpa using q')
end
theorem rcp (I : Inv X pins σ H s) : ∀ {x y : PV} {v v' : V} {u u' : Value} {A : Around} {b : Bool}, A.units + x.depth < cLine → RepB X.K G H A0 x v → RepB X.K G H A0 y v' → RelV v u → RelV v' u' → peq x y = some b → SeqAt.RcAt A s u u' b := by
  intro x y v v' u u' A b hu h h' r r' e
  have hu0 : A.units < cLine := Nat.lt_of_le_of_lt (Nat.le_add_right _ _) hu
  cases x with
  | tup xs =>
    obtain ⟨a, vs, rfl, sq, rs⟩ := h.tup
    obtain rfl : u = Value.ref a := r
    obtain ⟨its, r1, p1, _⟩ := I.tuple sq
    cases y with
    | tup ys =>
      obtain ⟨a', vs', rfl, sq', rs'⟩ := h'.tup
      obtain rfl : u' = Value.ref a' := r'
      obtain ⟨its', r2, p2, _⟩ := I.tuple sq'
      rw [peq] at e
      have hd : (PV.tup xs).depth = pdepths xs + 1 := by rw [PV.depth]
      have e4 : its.toArray.size = xs.length := by rw [List.size_toArray, ← r1.length, rs.len]
      have e5 : its'.toArray.size = ys.length := by rw [List.size_toArray, ← r2.length, rs'.len]
      have q := SeqAt.RcAt.tuples (A := A) (s := s) (e := eAt xs ys) p1 p2 (by omega) fun j h1 h2 => by
          have h1' : j < its.length := by simpa using h1
          have h2' : j < its'.length := by simpa using h2
          have := eqps I (A := A.in1) (j := j) (by show A.units + 1 + pdepths xs < cLine; omega) rs rs' r1 r2 e (List.getElem?_eq_getElem h1') (List.getElem?_eq_getElem h2')
          simpa using this
      rw [e4, e5, peqs_all e] at q
      exact q
    | lst ys =>
      obtain ⟨a', vs', rfl, sq', rs'⟩ := h'.lst
      obtain rfl : u' = Value.ref a' := r'
      obtain ⟨its', r2, p2, _⟩ := I.list sq'
      rw [peq] at e
      cases e
      exact SeqAt.RcAt.tuple_list p1 p2.isList hu0
    | non => rw [h'.non] at r'; cases r'; rw [peq] at e; cases e; exact SeqAt.RcAt.tuple_none p1 hu0
    | bl k => rw [h'.bl] at r'; cases r'; rw [peq] at e; cases e; exact SeqAt.RcAt.tuple_bool k p1 hu0
    | int k => rw [h'.int] at r'; obtain ⟨t, rfl⟩ := r'; rw [peq] at e; cases e; exact SeqAt.RcAt.tuple_int k t p1 hu0
    | str k => rw [h'.str] at r'; obtain ⟨t, rfl⟩ := r'; rw [peq] at e; cases e; exact SeqAt.RcAt.tuple_str k t p1 hu0
    | obj _ _ => simp [peq] at e
    | dic _ _ => simp [peq] at e
    | clo _ _ => simp [peq] at e
  | lst xs =>
    obtain ⟨a, vs, rfl, sq, rs⟩ := h.lst
    obtain rfl : u = Value.ref a := r
    obtain ⟨its, r1, p1, _⟩ := I.list sq
    cases y with
    | tup ys =>
      obtain ⟨a', vs', rfl, sq', rs'⟩ := h'.tup
      obtain rfl : u' = Value.ref a' := r'
      obtain ⟨its', r2, p2, _⟩ := I.tuple sq'
      rw [peq] at e
      cases e
      exact SeqAt.RcAt.list_tuple p1.isList p2 hu0
    | lst ys =>
      obtain ⟨a', vs', rfl, sq', rs'⟩ := h'.lst
      obtain rfl : u' = Value.ref a' := r'
      obtain ⟨its', r2, p2, _⟩ := I.list sq'
      rw [peq] at e
      have hd : (PV.lst xs).depth = pdepths xs + 1 := by rw [PV.depth]
      have e4 : its.toArray.size = xs.length := by rw [List.size_toArray, ← r1.length, rs.len]
      have e5 : its'.toArray.size = ys.length := by rw [List.size_toArray, ← r2.length, rs'.len]
      by_cases hl : xs.length = ys.length
      · rw [if_pos hl] at e
        have q := SeqAt.RcAt.lists (A := A) (s := s) (e := eAt xs ys) p1.isList p2.isList (by rw [e4, e5, hl]) (by omega) fun j h1 h2 => by
            have h1' : j < its.length := by simpa using h1
            have h2' : j < its'.length := by simpa using h2
            have := eqps I (A := A.in1) (j := j) (by show A.units + 1 + pdepths xs < cLine; omega) rs rs' r1 r2 e (List.getElem?_eq_getElem h1') (List.getElem?_eq_getElem h2')
            simpa using this
        have q2 := peqs_all e
        rw [hl, Nat.min_self, beq_self_eq_true, Bool.and_true] at q2
        rw [e4, hl, q2] at q
        exact q
      · rw [if_neg hl] at e
        cases e
        exact SeqAt.RcAt.lists_lengths p1.isList p2.isList (by rw [e4, e5]; simpa using hl) hu0
    | non => rw [h'.non] at r'; cases r'; rw [peq] at e; cases e; exact SeqAt.RcAt.list_none p1.isList hu0
    | bl k => rw [h'.bl] at r'; cases r'; rw [peq] at e; cases e; exact SeqAt.RcAt.list_bool k p1.isList hu0
    | int k => rw [h'.int] at r'; obtain ⟨t, rfl⟩ := r'; rw [peq] at e; cases e; exact SeqAt.RcAt.list_int k t p1.isList hu0
    | str k => rw [h'.str] at r'; obtain ⟨t, rfl⟩ := r'; rw [peq] at e; cases e; exact SeqAt.RcAt.list_str k t p1.isList hu0
    | obj _ _ => simp [peq] at e
    | dic _ _ => simp [peq] at e
    | clo _ _ => simp [peq] at e
  | non =>
    rw [h.non] at r
    cases r
    cases y with
    | non => rw [h'.non] at r'; cases r'; rw [peq] at e; cases e; exact SeqAt.RcAt.none_none
    | bl k => rw [h'.bl] at r'; cases r'; rw [peq] at e; cases e; exact SeqAt.RcAt.none_bool k
    | int k => rw [h'.int] at r'; obtain ⟨t, rfl⟩ := r'; rw [peq] at e; cases e; exact SeqAt.RcAt.none_int k t
    | str k => rw [h'.str] at r'; obtain ⟨t, rfl⟩ := r'; rw [peq] at e; cases e; exact SeqAt.RcAt.none_str k t
    | tup ys =>
      obtain ⟨a', vs', rfl, sq', rs'⟩ := h'.tup
      obtain rfl : u' = Value.ref a' := r'
      obtain ⟨its', r2, p2, _⟩ := I.tuple sq'
      rw [peq] at e; cases e
      exact SeqAt.RcAt.none_tuple p2 hu0
    | lst ys =>
      obtain ⟨a', vs', rfl, sq', rs'⟩ := h'.lst
      obtain rfl : u' = Value.ref a' := r'
      obtain ⟨its', r2, p2, _⟩ := I.list sq'
      rw [peq] at e; cases e
      exact SeqAt.RcAt.none_list p2.isList hu0
    | obj _ _ => simp [peq] at e
    | dic _ _ => simp [peq] at e
    | clo _ _ => simp [peq] at e
  | bl k0 =>
    rw [h.bl] at r
    cases r
    cases y with
    | non => rw [h'.non] at r'; cases r'; rw [peq] at e; cases e; exact SeqAt.RcAt.bool_none k0
    | bl k => rw [h'.bl] at r'; cases r'; rw [peq] at e; cases e; exact SeqAt.RcAt.bool_bool k0 k
    | int k => rw [h'.int] at r'; obtain ⟨t, rfl⟩ := r'; rw [peq] at e; cases e; exact SeqAt.RcAt.bool_int k0 k t
    | str k => rw [h'.str] at r'; obtain ⟨t, rfl⟩ := r'; rw [peq] at e; cases e; exact SeqAt.RcAt.bool_str k0 k t
    | tup ys =>
      obtain ⟨a', vs', rfl, sq', rs'⟩ := h'.tup
      obtain rfl : u' = Value.ref a' := r'
      obtain ⟨its', r2, p2, _⟩ := I.tuple sq'
      rw [peq] at e; cases e
      exact SeqAt.RcAt.bool_tuple k0 p2 hu0
    | lst ys =>
      obtain ⟨a', vs', rfl, sq', rs'⟩ := h'.lst
      obtain rfl : u' = Value.ref a' := r'
      obtain ⟨its', r2, p2, _⟩ := I.list sq'
      rw [peq] at e; cases e
      exact SeqAt.RcAt.bool_list k0 p2.isList hu0
    | obj _ _ => simp [peq] at e
    | dic _ _ => simp [peq] at e
    | clo _ _ => simp [peq] at e
  | int k0 =>
    rw [h.int] at r
    obtain ⟨t0, rfl⟩ := r
    cases y with
    | non => rw [h'.non] at r'; cases r'; rw [peq] at e; cases e; exact SeqAt.RcAt.int_none k0 t0
    | bl k => rw [h'.bl] at r'; cases r'; rw [peq] at e; cases e; exact SeqAt.RcAt.int_bool k0 t0 k
    | int k => rw [h'.int] at r'; obtain ⟨t, rfl⟩ := r'; rw [peq] at e; cases e; exact SeqAt.RcAt.int_int k0 t0 k t
    | str k => rw [h'.str] at r'; obtain ⟨t, rfl⟩ := r'; rw [peq] at e; cases e; exact SeqAt.RcAt.int_str k0 t0 k t
    | tup ys =>
      obtain ⟨a', vs', rfl, sq', rs'⟩ := h'.tup
      obtain rfl : u' = Value.ref a' := r'
      obtain ⟨its', r2, p2, _⟩ := I.tuple sq'
      rw [peq] at e; cases e
      exact SeqAt.RcAt.int_tuple k0 t0 p2 hu0
    | lst ys =>
      obtain ⟨a', vs', rfl, sq', rs'⟩ := h'.lst
      obtain rfl : u' = Value.ref a' := r'
      obtain ⟨its', r2, p2, _⟩ := I.list sq'
      rw [peq] at e; cases e
      exact SeqAt.RcAt.int_list k0 t0 p2.isList hu0
    | obj _ _ => simp [peq] at e
    | dic _ _ => simp [peq] at e
    | clo _ _ => simp [peq] at e
  | str k0 =>
    rw [h.str] at r
    obtain ⟨t0, rfl⟩ := r
    cases y with
    | non => rw [h'.non] at r'; cases r'; rw [peq] at e; cases e; exact SeqAt.RcAt.str_none k0 t0
    | bl k => rw [h'.bl] at r'; cases r'; rw [peq] at e; cases e; exact SeqAt.RcAt.str_bool k0 t0 k
    | int k => rw [h'.int] at r'; obtain ⟨t, rfl⟩ := r'; rw [peq] at e; cases e; exact SeqAt.RcAt.str_int k0 t0 k t
    | str k => rw [h'.str] at r'; obtain ⟨t, rfl⟩ := r'; rw [peq] at e; cases e; exact SeqAt.RcAt.str_str k0 t0 k t
    | tup ys =>
      obtain ⟨a', vs', rfl, sq', rs'⟩ := h'.tup
      obtain rfl : u' = Value.ref a' := r'
      obtain ⟨its', r2, p2, _⟩ := I.tuple sq'
      rw [peq] at e; cases e
      exact SeqAt.RcAt.str_tuple k0 t0 p2 hu0
    | lst ys =>
      obtain ⟨a', vs', rfl, sq', rs'⟩ := h'.lst
      obtain rfl : u' = Value.ref a' := r'
      obtain ⟨its', r2, p2, _⟩ := I.list sq'
      rw [peq] at e; cases e
      exact SeqAt.RcAt.str_list k0 t0 p2.isList hu0
    | obj _ _ => simp [peq] at e
    | dic _ _ => simp [peq] at e
    | clo _ _ => simp [peq] at e
  | obj _ _ => cases y <;> simp [peq] at e
  | dic _ _ => cases y <;> simp [peq] at e
  | clo _ _ => cases y <;> simp [peq] at e
theorem rnp (I : Inv X pins σ H s) : ∀ {x y : PV} {v v' : V} {u u' : Value} {A : Around} {b : Bool}, A.units + x.depth < cLine → RepB X.K G H A0 x v → RepB X.K G H A0 y v' → RelV v u → RelV v' u' → peq x y = some b → SeqAt.RcNeAt A s u u' (!b) := by
  intro x y v v' u u' A b hu h h' r r' e
  have hu0 : A.units < cLine := Nat.lt_of_le_of_lt (Nat.le_add_right _ _) hu
  cases x with
  | tup xs =>
    obtain ⟨a, vs, rfl, sq, rs⟩ := h.tup
    obtain rfl : u = Value.ref a := r
    obtain ⟨its, r1, p1, _⟩ := I.tuple sq
    cases y with
    | tup ys =>
      obtain ⟨a', vs', rfl, sq', rs'⟩ := h'.tup
      obtain rfl : u' = Value.ref a' := r'
      obtain ⟨its', r2, p2, _⟩ := I.tuple sq'
      rw [peq] at e
      have hd : (PV.tup xs).depth = pdepths xs + 1 := by rw [PV.depth]
      have e4 : its.toArray.size = xs.length := by rw [List.size_toArray, ← r1.length, rs.len]
      have e5 : its'.toArray.size = ys.length := by rw [List.size_toArray, ← r2.length, rs'.len]
      have q := SeqAt.RcNeAt.tuples (A := A) (s := s) (e := eAt xs ys) p1 p2 (by omega) fun j h1 h2 => by
          have h1' : j < its.length := by simpa using h1
          have h2' : j < its'.length := by simpa using h2
          have := eqps I (A := A.in1) (j := j) (by show A.units + 1 + pdepths xs < cLine; omega) rs rs' r1 r2 e (List.getElem?_eq_getElem h1') (List.getElem?_eq_getElem h2')
          simpa using this
      rw [e4, e5, peqs_all e] at q
      exact q
    | lst ys =>
      obtain ⟨a', vs', rfl, sq', rs'⟩ := h'.lst
      obtain rfl : u' = Value.ref a' := r'
      obtain ⟨its', r2, p2, _⟩ := I.list sq'
      rw [peq] at e
      cases e
      exact SeqAt.RcNeAt.tuple_list p1 p2.isList hu0
    | non => rw [h'.non] at r'; cases r'; rw [peq] at e; cases e; exact SeqAt.RcNeAt.tuple_none p1 hu0
    | bl k => rw [h'.bl] at r'; cases r'; rw [peq] at e; cases e; exact SeqAt.RcNeAt.tuple_bool k p1 hu0
    | int k => rw [h'.int] at r'; obtain ⟨t, rfl⟩ := r'; rw [peq] at e; cases e; exact SeqAt.RcNeAt.tuple_int k t p1 hu0
    | str k => rw [h'.str] at r'; obtain ⟨t, rfl⟩ := r'; rw [peq] at e; cases e; exact SeqAt.RcNeAt.tuple_str k t p1 hu0
    | obj _ _ => simp [peq] at e
    | dic _ _ => simp [peq] at e
    | clo _ _ => simp [peq] at e
  | lst xs =>
    obtain ⟨a, vs, rfl, sq, rs⟩ := h.lst
    obtain rfl : u = Value.ref a := r
    obtain ⟨its, r1, p1, _⟩ := I.list sq
    cases y with
    | tup ys =>
      obtain ⟨a', vs', rfl, sq', rs'⟩ := h'.tup
      obtain rfl : u' = Value.ref a' := r'
      obtain ⟨its', r2, p2, _⟩ := I.tuple sq'
      rw [peq] at e
      cases e
      exact SeqAt.RcNeAt.list_tuple p1.isList p2 hu0
    | lst ys =>
      obtain ⟨a', vs', rfl, sq', rs'⟩ := h'.lst
      obtain rfl : u' = Value.ref a' := r'
      obtain ⟨its', r2, p2, _⟩ := I.list sq'
      rw [peq] at e
      have hd : (PV.lst xs).depth = pdepths xs + 1 := by rw [PV.depth]
      have e4 : its.toArray.size = xs.length := by rw [List.size_toArray, ← r1.length, rs.len]
      have e5 : its'.toArray.size = ys.length := by rw [List.size_toArray, ← r2.length, rs'.len]
      by_cases hl : xs.length = ys.length
      · rw [if_pos hl] at e
        have q := SeqAt.RcNeAt.lists (A := A) (s := s) (e := eAt xs ys) p1.isList p2.isList (by rw [e4, e5, hl]) (by omega) fun j h1 h2 => by
            have h1' : j < its.length := by simpa using h1
            have h2' : j < its'.length := by simpa using h2
            have := eqps I (A := A.in1) (j := j) (by show A.units + 1 + pdepths xs < cLine; omega) rs rs' r1 r2 e (List.getElem?_eq_getElem h1') (List.getElem?_eq_getElem h2')
            simpa using this
        have q2 := peqs_all e
        rw [hl, Nat.min_self, beq_self_eq_true, Bool.and_true] at q2
        rw [e4, hl, q2] at q
        exact q
      · rw [if_neg hl] at e
        cases e
        exact SeqAt.RcNeAt.lists_lengths p1.isList p2.isList (by rw [e4, e5]; simpa using hl) hu0
    | non => rw [h'.non] at r'; cases r'; rw [peq] at e; cases e; exact SeqAt.RcNeAt.list_none p1.isList hu0
    | bl k => rw [h'.bl] at r'; cases r'; rw [peq] at e; cases e; exact SeqAt.RcNeAt.list_bool k p1.isList hu0
    | int k => rw [h'.int] at r'; obtain ⟨t, rfl⟩ := r'; rw [peq] at e; cases e; exact SeqAt.RcNeAt.list_int k t p1.isList hu0
    | str k => rw [h'.str] at r'; obtain ⟨t, rfl⟩ := r'; rw [peq] at e; cases e; exact SeqAt.RcNeAt.list_str k t p1.isList hu0
    | obj _ _ => simp [peq] at e
    | dic _ _ => simp [peq] at e
    | clo _ _ => simp [peq] at e
  | non =>
    rw [h.non] at r
    cases r
    cases y with
    | non => rw [h'.non] at r'; cases r'; rw [peq] at e; cases e; exact SeqAt.RcNeAt.none_none
    | bl k => rw [h'.bl] at r'; cases r'; rw [peq] at e; cases e; exact SeqAt.RcNeAt.none_bool k
    | int k => rw [h'.int] at r'; obtain ⟨t, rfl⟩ := r'; rw [peq] at e; cases e; exact SeqAt.RcNeAt.none_int k t
    | str k => rw [h'.str] at r'; obtain ⟨t, rfl⟩ := r'; rw [peq] at e; cases e; exact SeqAt.RcNeAt.none_str k t
    | tup ys =>
      obtain ⟨a', vs', rfl, sq', rs'⟩ := h'.tup
      obtain rfl : u' = Value.ref a' := r'
      obtain ⟨its', r2, p2, _⟩ := I.tuple sq'
      rw [peq] at e; cases e
      exact SeqAt.RcNeAt.none_tuple p2 hu0
    | lst ys =>
      obtain ⟨a', vs', rfl, sq', rs'⟩ := h'.lst
      obtain rfl : u' = Value.ref a' := r'
      obtain ⟨its', r2, p2, _⟩ := I.list sq'
      rw [peq] at e; cases e
      exact SeqAt.RcNeAt.none_list p2.isList hu0
    | obj _ _ => simp [peq] at e
    | dic _ _ => simp [peq] at e
    | clo _ _ => simp [peq] at e
  | bl k0 =>
    rw [h.bl] at r
    cases r
    cases y with
    | non => rw [h'.non] at r'; cases r'; rw [peq] at e; cases e; exact SeqAt.RcNeAt.bool_none k0
    | bl k => rw [h'.bl] at r'; cases r'; rw [peq] at e; cases e; exact SeqAt.RcNeAt.bool_bool k0 k
    | int k => rw [h'.int] at r'; obtain ⟨t, rfl⟩ := r'; rw [peq] at e; cases e; exact SeqAt.RcNeAt.bool_int k0 k t
    | str k => rw [h'.str] at r'; obtain ⟨t, rfl⟩ := r'; rw [peq] at e; cases e; exact SeqAt.RcNeAt.bool_str k0 k t
    | tup ys =>
      obtain ⟨a', vs', rfl, sq', rs'⟩ := h'.tup
      obtain rfl : u' = Value.ref a' := r'
      obtain ⟨its', r2, p2, _⟩ := I.tuple sq'
      rw [peq] at e; cases e
      exact SeqAt.RcNeAt.bool_tuple k0 p2 hu0
    | lst ys =>
      obtain ⟨a', vs', rfl, sq', rs'⟩ := h'.lst
      obtain rfl : u' = Value.ref a' := r'
      obtain ⟨its', r2, p2, _⟩ := I.list sq'
      rw [peq] at e; cases e
      exact SeqAt.RcNeAt.bool_list k0 p2.isList hu0
    | obj _ _ => simp [peq] at e
    | dic _ _ => simp [peq] at e
    | clo _ _ => simp [peq] at e
  | int k0 =>
    rw [h.int] at r
    obtain ⟨t0, rfl⟩ := r
    cases y with
    | non => rw [h'.non] at r'; cases r'; rw [peq] at e; cases e; exact SeqAt.RcNeAt.int_none k0 t0
    | bl k => rw [h'.bl] at r'; cases r'; rw [peq] at e; cases e; exact SeqAt.RcNeAt.int_bool k0 t0 k
    | int k => rw [h'.int] at r'; obtain ⟨t, rfl⟩ := r'; rw [peq] at e; cases e; exact SeqAt.RcNeAt.int_int k0 t0 k t
    | str k => rw [h'.str] at r'; obtain ⟨t, rfl⟩ := r'; rw [peq] at e; cases e; exact SeqAt.RcNeAt.int_str k0 t0 k t
    | tup ys =>
      obtain ⟨a', vs', rfl, sq', rs'⟩ := h'.tup
      obtain rfl : u' = Value.ref a' := r'
      obtain ⟨its', r2, p2, _⟩ := I.tuple sq'
      rw [peq] at e; cases e
      exact SeqAt.RcNeAt.int_tuple k0 t0 p2 hu0
    | lst ys =>
      obtain ⟨a', vs', rfl, sq', rs'⟩ := h'.lst
      obtain rfl : u' = Value.ref a' := r'
      obtain ⟨its', r2, p2, _⟩ := I.list sq'
      rw [peq] at e; cases e
      exact SeqAt.RcNeAt.int_list k0 t0 p2.isList hu0
    | obj _ _ => simp [peq] at e
    | dic _ _ => simp [peq] at e
    | clo _ _ => simp [peq] at e
  | str k0 =>
    rw [h.str] at r
    obtain ⟨t0, rfl⟩ := r
    cases y with
    | non => rw [h'.non] at r'; cases r'; rw [peq] at e; cases e; exact SeqAt.RcNeAt.str_none k0 t0
    | bl k => rw [h'.bl] at r'; cases r'; rw [peq] at e; cases e; exact SeqAt.RcNeAt.str_bool k0 t0 k
    | int k => rw [h'.int] at r'; obtain ⟨t, rfl⟩ := r'; rw [peq] at e; cases e; exact SeqAt.RcNeAt.str_int k0 t0 k t
    | str k => rw [h'.str] at r'; obtain ⟨t, rfl⟩ := r'; rw [peq] at e; cases e; exact SeqAt.RcNeAt.str_str k0 t0 k t
    | tup ys =>
      obtain ⟨a', vs', rfl, sq', rs'⟩ := h'.tup
      obtain rfl : u' = Value.ref a' := r'
      obtain ⟨its', r2, p2, _⟩ := I.tuple sq'
      rw [peq] at e; cases e
      exact SeqAt.RcNeAt.str_tuple k0 t0 p2 hu0
    | lst ys =>
      obtain ⟨a', vs', rfl, sq', rs'⟩ := h'.lst
      obtain rfl : u' = Value.ref a' := r'
      obtain ⟨its', r2, p2, _⟩ := I.list sq'
      rw [peq] at e; cases e
      exact SeqAt.RcNeAt.str_list k0 t0 p2.isList hu0
    | obj _ _ => simp [peq] at e
    | dic _ _ => simp [peq] at e
    | clo _ _ => simp [peq] at e
  | obj _ _ => cases y <;> simp [peq] at e
  | dic _ _ => cases y <;> simp [peq] at e
  | clo _ _ => cases y <;> simp [peq] at e
/-! ### == and != -/
def fEq (x y : PV) : Rx PV := if x.depth < 100 then (match peq x y with | some b => .ok (.bl b) | none => .bad) else .bad
def fNe (x y : PV) : Rx PV := if x.depth < 100 then (match peq x y with | some b => .ok (.bl (!b)) | none => .bad) else .bad
def rEqP (K : PySem.W.Frag) (G : Pg) (neg : Bool) : R2 := fun v u H Q => ∃ A x y b, x.depth < 100 ∧ RepB K G H A x v ∧ RepB K G H A y u ∧ peq x y = some b ∧ Q (.bl (if neg then !b else b)) H
theorem op_eqP (hu : X.A.units + 100 < cLine) : OpR X (compareOp .Eq) (rEqP X.K G false) := by
  intro pins s σ H v u v' u' Q I rx ry h
  obtain ⟨A, x, y, b, hd, h1, h2, e, q⟩ := h
  exact rcp I (by omega) h1 h2 rx ry e X.prog X.w _ _ ⟨.bl b, H, I, rfl, q⟩
theorem op_neP (hu : X.A.units + 100 < cLine) : OpR X (compareOp .NotEq) (rEqP X.K G true) := by
  intro pins s σ H v u v' u' Q I rx ry h
  obtain ⟨A, x, y, b, hd, h1, h2, e, q⟩ := h
  exact rnp I (by omega) h1 h2 rx ry e X.prog X.w _ _ ⟨.bl (!b), H, I, rfl, q⟩
theorem o2_eq {K : PySem.W.Frag} : Op2 K G fEq (rEqP K G false) := by
  intro H A x y w v u Q hu e r1 r2 q
  unfold fEq at e
  split at e
  · rename_i hd
    split at e
    · rename_i b hb; cases e; exact ⟨A, x, y, b, hd, r1, r2, hb, q _ H (Same.refl H) rfl⟩
    · cases e
  · cases e
theorem o2_ne {K : PySem.W.Frag} : Op2 K G fNe (rEqP K G true) := by
  intro H A x y w v u Q hu e r1 r2 q
  unfold fNe at e
  split at e
  · rename_i hd
    split at e
    · rename_i b hb; cases e; exact ⟨A, x, y, b, hd, r1, r2, hb, q _ H (Same.refl H) rfl⟩
    · cases e
  · cases e
section
variable {e a b : Expr} {da db : DP} {pos : Pos}
theorem hu100 {A : Around} {k : Nat} (hr : Room k A) : A.units + 100 < cLine := by have := hr.un; omega
theorem p_eq {k : Nat} (hr : Room k X.A) (ha : JB X G a da) (hb : JB X G b db) : JP X G (.Compare a [.Eq] [b] pos) (d2 fEq da db) := p_cmp (op_eqP (hu100 hr)) o2_eq ha hb (nomark _)
theorem t_eq {k : Nat} (hr : Room k X.A) (ha : JB X G a da) (hb : JB X G b db) : JT X G (.Compare a [.Eq] [b] pos) (dTr (d2 fEq da db)) := t_cmp (op_eqP (hu100 hr)) o2_eq ha hb (nomark _)
theorem t_ne {k : Nat} (hr : Room k X.A) (ha : JB X G a da) (hb : JB X G b db) : JT X G (.Compare a [.NotEq] [b] pos) (dTr (d2 fNe da db)) := t_cmp (op_neP (hu100 hr)) o2_ne ha hb (nomark _)
/-! ### in, not in, over lists and tuples of flat items -/
def flv : PV → V
  | .non => .non | .bl b => .bl b | .int i => .int i | .str x => .str x | _ => .ref 0
def fInL (neg : Bool) (x y : PV) : Rx PV := match (match y with | .lst ys => some ys | .tup ys => some ys | _ => none) with
  | some ys => if isF x = true ∧ ys.all isF = true then .ok (.bl (if neg then !(ys.any fun y => eqV (flv y) (flv x)) else (ys.any fun y => eqV (flv y) (flv x)))) else .bad
  | none => .bad
theorem rep_flat {K : PySem.W.Frag} {H : Hp} {A : Av} {x : PV} {v : V} (r : RepB K G H A x v) (f : isF x = true) : v = flv x ∧ flatV v = true := by
  cases x <;> first | (rw [r.non]; exact ⟨rfl, rfl⟩) | (rw [r.bl]; exact ⟨rfl, rfl⟩) | (rw [r.int]; exact ⟨rfl, rfl⟩) | (rw [r.str]; exact ⟨rfl, rfl⟩) | cases f
theorem reps_flat {K : PySem.W.Frag} {H : Hp} {A : Av} : ∀ {xs : List PV} {vs : List V}, Reps K G H A xs vs → xs.all isF = true → vs = xs.map flv ∧ vs.all flatV = true
  | [], vs, h, _ => by have h : vs = [] := h; subst h; exact ⟨rfl, rfl⟩
  | x :: xs, vs, h, f => by
    obtain ⟨v, r, rfl, h1, h2⟩ := h
    rw [List.all_cons, Bool.and_eq_true] at f
    obtain ⟨e1, f1⟩ := rep_flat (.inl h1) f.1
    obtain ⟨e2, f2⟩ := reps_flat h2 f.2
    exact ⟨by rw [e1, e2]; rfl, by rw [List.all_cons, f1, f2]; rfl⟩
theorem o2_in {K : PySem.W.Frag} {neg : Bool} : Op2 K G (fInL neg) (rIn K neg) := by
  intro H A x y w v u Q hu e r1 r2 q
  unfold fInL at e
  split at e
  · rename_i ys hy
    split at e
    · rename_i hf
      cases e
      obtain ⟨e1, f1⟩ := rep_flat r1 hf.1
      have fin : ∀ vs, Reps K G H A ys vs → vs.all flatV = true ∧ inV v vs = (ys.any fun y => eqV (flv y) (flv x)) := fun vs rs => by
        obtain ⟨e2, f2⟩ := reps_flat rs hf.2
        refine ⟨f2, ?_⟩
        unfold inV
        rw [e2, e1, List.any_map]; rfl
      cases y with
      | lst zs =>
        cases hy
        obtain ⟨a, vs, rfl, sq, rs⟩ := r2.lst
        obtain ⟨f2, e3⟩ := fin vs rs
        refine ⟨a, vs, rfl, .inl sq, f1, f2, ?_⟩
        rw [e3]
        exact q _ H (Same.refl H) rfl
      | tup zs =>
        cases hy
        obtain ⟨a, vs, rfl, sq, rs⟩ := r2.tup
        obtain ⟨f2, e3⟩ := fin vs rs
        refine ⟨a, vs, rfl, .inr sq, f1, f2, ?_⟩
        rw [e3]
        exact q _ H (Same.refl H) rfl
      | _ => cases hy
    · cases e
  · cases e
theorem t_in (ha : JB X G a da) (hb : JB X G b db) (hm : behindInMarks .In b = false) : JT X G (.Compare a [.In] [b] pos) (dTr (d2 (fInL false) da db)) := t_cmp op_in_seq o2_in ha hb hm
end
end
end DN
end
section
set_option Elab.async false
set_option linter.all false
set_option maxRecDepth 100000
set_option maxHeartbeats 4000000
namespace DN
open PySem PySem.Spec PyProof.Rows L2
/-! ### tables -/
section
variable {P : Program} {w : World} {K : PySem.W.Frag} {mg : Str → Option Value} {base : Bs} {G : Pg} {n : Nat} {m f : Str} {ms : List Bool}
theorem look_cons {α : Type} {c c' : Nat} {x y : α} {l : List (Nat × α)} (h : List.lookup c' ((c, x) :: l) = some y) : (c' = c ∧ y = x) ∨ l.lookup c' = some y := by
  rw [List.lookup_cons] at h
  by_cases e : c' = c
  · subst e
    simp at h
    exact .inl ⟨rfl, h.symm⟩
  · have : (c' == c) = false := by simpa using e
    rw [this] at h
    exact .inr h
theorem mt_nil {g : Nat → List PV → Rx PV} : MtOk P w K mg base G n m ms [] g := ⟨fun c f h => by simp at h⟩
theorem mt_cons {g : Nat → List PV → Rx PV} {c fi : Nat} {l : List (Nat × Nat)} (h : MethAt P w K mg base CX0 n (G.cA c) m (spG K G (false :: ms) (g fi))) (hm : m ∉ G.fN c) (r : MtOk P w K mg base G n m ms l g) : MtOk P w K mg base G n m ms ((c, fi) :: l) g :=
  ⟨fun c' f' e => by
    rcases look_cons e with ⟨rfl, rfl⟩ | e
    · exact ⟨h, hm⟩
    · exact r.all c' f' e⟩
theorem fl_nil : FldOk K G f [] := ⟨fun c j h => by simp at h⟩
theorem fl_cons {c j : Nat} {l : List (Nat × Nat)} (h1 : Cls K (G.cA c)) (h2 : NoAttr K (G.cA c) f) (h3 : (G.fN c).Nodup) (h4 : (G.fN c)[j]? = some f) (r : FldOk K G f l) : FldOk K G f ((c, j) :: l) :=
  ⟨fun c' f' e => by
    rcases look_cons e with ⟨rfl, rfl⟩ | e
    · exact ⟨h1, h2, h3, h4⟩
    · exact r.all c' f' e⟩
theorem is_nil {cv : Value} : IsiOk K G cv [] := ⟨fun c j h => by simp at h, fun c j h => by simp at h, fun b h => by simp at h⟩
theorem is_cons {cv : Value} {q : Nat} {b : Bool} {l : List (Nat × Bool)} (h1 : PySem.W.kitOne K (tyOfKd G q) cv = some b) (h2 : q < 9) (r : IsiOk K G cv l) : IsiOk K G cv ((q, b) :: l) :=
  ⟨fun c' f' e => by
    rcases look_cons e with ⟨rfl, rfl⟩ | e
    · exact h1
    · exact r.kit c' f' e, fun c' f' e => by
    rcases look_cons e with ⟨z, rfl⟩ | e
    · omega
    · exact r.cls c' f' e, fun b e => by
    rcases look_cons e with ⟨z, rfl⟩ | e
    · omega
    · exact r.n9 b e⟩
theorem is_consC {cv : Value} {c : Nat} {b : Bool} {l : List (Nat × Bool)} (h1 : PySem.W.kitOne K (.ref (G.cA c)) cv = some b) (h2 : ClsTy K (G.cA c)) (r : IsiOk K G cv l) : IsiOk K G cv ((c + 10, b) :: l) :=
  ⟨fun c' f' e => by
    rcases look_cons e with ⟨rfl, rfl⟩ | e
    · exact h1
    · exact r.kit c' f' e, fun c' f' e => by
    rcases look_cons e with ⟨z, rfl⟩ | e
    · have : c' = c := by omega
      subst this; exact h2
    · exact r.cls c' f' e, fun b e => by
    rcases look_cons e with ⟨z, rfl⟩ | e
    · omega
    · exact r.n9 b e⟩
theorem clsTy {C : Addr} (h : ClsF K C) : ClsTy K C := fun H a dx fs e => h.ty e
theorem ref_only {a : Addr} : ∀ u, RelV (V.ref a) u → u = Value.ref a := fun _ h => h
theorem ty_only {n : String} : ∀ u, RelV (V.ty n) u → u = Value.type n := fun _ h => h
theorem spG_none {f : Addr} {fd : FuncData} {ps : List Str} {g : List PV → Rx PV} (h : ∀ ws, g ws = .bad) : FnOk P w K mg base CX0 n f fd ps (spG K G ms g) := fn_none fun vs H Q E ⟨A, ws, w, u, r, e, q⟩ => by rw [h] at e; cases e
end
theorem gk_set {i : Nat} : ∀ (w : PV) (ps ps' : PSt), gSet i w ps = .ok ps' → ∀ (j : Nat) (x : Ow), ps'[j]? = some (Sl.own x) → ps[j]? = some (Sl.own x) := by
  intro w ps ps' e j x h
  cases e
  by_cases hj : j = i
  · subst hj
    have hl : j < ps.length := by
      have := (List.getElem?_eq_some_iff.mp h).1
      simpa using this
    rw [List.getElem?_set_self hl] at h
    cases h
  · rw [List.getElem?_set_ne (fun z => hj z.symm)] at h
    exact h
/-! ### the law -/
theorem law_sp {K : PySem.W.Frag} {G : Pg} {H : Hp} {a : Addr} {ns : List Int} {g : List PV → Rx PV} (hO : Only H) (hS : SqL K H a (ns.map V.int)) (hg : g [.lst (ns.map PV.int)] = .ok (.bl true)) : spG K G [false] g [.ref a] H (fun v _ => v = .bl true) fun _ _ _ => False := by
  refine ⟨fun _ => False, [.lst (ns.map PV.int)], .bl true, fun a z => z.elim, ⟨_, _, _, _, rfl, rfl, ?_, rfl, rfl⟩, hg, fun v H' s r => r⟩
  rw [if_neg Bool.false_ne_true]
  refine ⟨a, _, rfl, ?_, Reps.ints ns⟩
  rcases hS with (h | ⟨o, h⟩) | h
  · exact .inl ⟨h, fun z => z⟩
  · exact .inr (.inl ⟨o, h⟩)
  · exact .inr (.inr h)
end DN
end
section
set_option Elab.async false
set_option linter.all false
set_option maxRecDepth 100000
set_option maxHeartbeats 4000000
namespace DN
open PySem PySem.Spec PyProof.Rows L2
section
variable {X : Cx} {G : Pg} {e a b o tg : Expr} {es : List Expr} {da db : DP} {d : DA} {pos p apos cpos : Pos} {x m : Str} {k i : Nat}
/-! ### TUPLE.index(e), the tuple one of the top -/
def idx : List PV → PV → Nat → Option Nat
  | [], _, _ => none
  | y :: ys, x, n => if eqV (flv y) (flv x) = true then some n else idx ys x (n + 1)
theorem idx_of : ∀ {ys : List PV} {x : PV} {n j : Nat}, idx ys x n = some j → n ≤ j ∧ (∃ y, ys[j - n]? = some y ∧ eqV (flv y) (flv x) = true) ∧ ∀ i y, i < j - n → ys[i]? = some y → eqV (flv y) (flv x) = false
  | [], x, n, j, h => by cases h
  | y :: ys, x, n, j, h => by
    unfold idx at h
    split at h
    · rename_i he
      cases h
      refine ⟨Nat.le_refl _, ⟨y, by simp, he⟩, fun i z hi => absurd hi (by omega)⟩
    · rename_i he
      obtain ⟨h1, ⟨z, h2, h3⟩, h4⟩ := idx_of h
      have hj : j - n = (j - (n + 1)) + 1 := by omega
      refine ⟨by omega, ⟨z, by rw [hj]; simpa using h2, h3⟩, fun i w hi e => ?_⟩
      cases i with
      | zero => simp at e; subst e; simpa using he
      | succ i => exact h4 i w (by omega) (by simpa using e)
def dIndex (ws : List PV) (d : DP) : DP := fun ps => (d ps).bind fun x => if isF x = true then (match idx ws x 0 with | some j => .ok (.int j) | none => .bad) else .bad
theorem p_index {x : Str} {t : Addr} {ws : List PV} {vs : List V} {pos' : Pos} (T : TopT X.K t vs) (hg : Gl X x) (hm : X.mg x = some (.ref t)) (hr : ∀ H A, Reps X.K G H A ws vs) (hf : ws.all isF = true) (he : JP X G e da) (hd : (x == ("__debug__" : Str)) = false := by decide)
    (hbase : attributeBase (.Name x pos') "index" X.env (eval (.Name x pos') X.env) = eval (.Name x pos') X.env := by rfl)
    (hfew : ((backTo cpos (starEach [e] X.env)).all (fun x => !x.1) && (backToKw cpos (keywordEach [] X.env)).all (fun x => x.1.isSome) && decide (([e] : List Expr).length + ([] : List Keyword).length + (if ([] : List Keyword).isEmpty then 0 else 1) < 30)) = true := by rfl)
    (hline : (apos.endLine == cpos.line) = true := by rfl) (hst : starEach [e] X.env = (false, eval e X.env) :: starEach [] X.env := by rfl) (hpl : (backTo cpos (starEach ([] : List Expr) X.env)).any (·.1) = false := by rfl) :
    JP X G (.Call (.Attribute (.Name x pos') "index" apos) [e] [] cpos) (dIndex ws da) :=
  imp (pe_bm PySem.F.plainAttrs_tuple PySem.F.slot_tuple_index PySem.F.type_tuple_index mt_indexT (pe_globR hg hm hd) (pa_cons he pa_nil hst) hbase hfew hline hst hpl) fun σ H Q ⟨c, ow, ps, w, R, e, q⟩ => by
    obtain ⟨y, e1, e2⟩ := bind_ok e
    split at e2
    · rename_i hy
      split at e2
      · rename_i j hj
        cases e2
        refine ⟨T.ty H, c, ow, ps, y, R, e1, fun v H' s r => ?_⟩
        obtain ⟨ev, fv⟩ := rep_flat (G := G) (.inl r) hy
        obtain ⟨evs, fvs⟩ := reps_flat (hr H' (av c ow)) hf
        obtain ⟨_, ⟨z, h2, h3⟩, h4⟩ := idx_of hj
        rw [Nat.sub_zero] at h2 h4
        refine ⟨t, vs, v, j, flv z, rfl, rfl, T.sq H', fv, fvs, by rw [evs, List.getElem?_map, h2]; rfl, by rw [ev]; exact h3, fun i u hi hu => ?_, q _ H' s rfl⟩
        rw [evs, List.getElem?_map] at hu
        cases q : ws[i]? with
        | none => rw [q] at hu; cases hu
        | some y' => rw [q] at hu; cases hu; rw [ev]; exact h4 i y' hi q
      · cases e2
    · cases e2
end
/-! ### the law's promise, whatever the classes' addresses -/
def spL (K : PySem.W.Frag) (fN : Nat → List Str) (nF : Nat → Nst) (g : List PV → Rx PV) : Sp := fun vs H Q E => ∀ cA, spG K ⟨cA, fN, nF⟩ [false] g vs H Q E
theorem law_of {P : Program} {w : World} {K : PySem.W.Frag} {mg : Str → Option Value} {k : Nat} {fa : Addr} {x : Str} {fN : Nat → List Str} {nF : Nat → Nst} {g : List PV → Rx PV} {ts : List Addr}
    (h : ∃ (cA : Nat → Addr) (fd : FuncData), (∀ (s : Shared) (v : Value), BindsTo s fd ⟨[v], []⟩ [(x, v)]) ∧ ∀ base : Bs, K.In base → base.Ns mainGlobals mg → base.tabs = ts → FnOk P w K mg base CX0 k fa fd [x] (spG K ⟨cA, fN, nF⟩ [false] g)) :
    ∃ fd : FuncData, (∀ (s : Shared) (v : Value), BindsTo s fd ⟨[v], []⟩ [(x, v)]) ∧ ∀ base : Bs, K.In base → base.Ns mainGlobals mg → base.tabs = ts → FnOk P w K mg base CX0 k fa fd [x] (spL K fN nF g) := by
  obtain ⟨cA, fd, h1, h2⟩ := h
  exact ⟨fd, h1, fun base k1 k2 k3 => (h2 base k1 k2 k3).imp fun vs H Q E q => q cA⟩
end DN
end
section
set_option Elab.async false
set_option linter.all false
set_option maxRecDepth 100000
set_option maxHeartbeats 4000000
namespace DN
open PySem L2
/-! ### the mirrors' parts as equations -/
def fin : Rs → Rx PV
  | .ret w => .ok w
  | .retn xs => .ok (.lst xs)
  | .nx _ => .ok .non
  | .exc c => .exc c
  | _ => .bad
theorem runD_eq (ms : List Bool) (n : Nat) (d : DS) (ws : List PV) : runD ms n d ws = if ws.length = ms.length then fin (d (inP ms n ws)) else .bad := by
  unfold runD fin
  split
  · cases d (inP ms n ws) <;> rfl
  · rfl
theorem runD_of {ms : List Bool} {n : Nat} {d : DS} {ws : List PV} (h : ws.length = ms.length) : runD ms n d ws = fin (d (inP ms n ws)) := by rw [runD_eq, if_pos h]
@[simp] theorem fin_ret (w : PV) : fin (.ret w) = .ok w := rfl
@[simp] theorem fin_retn (xs : List PV) : fin (.retn xs) = .ok (.lst xs) := rfl
def finW : Rs → Rx PV
  | .retn xs => .ok (.lst xs)
  | .exc c => .exc c
  | _ => .bad
@[simp] theorem finW_retn (xs : List PV) : finW (.retn xs) = .ok (.lst xs) := rfl
@[simp] theorem finW_exc (c : Nat) : finW (.exc c) = .exc c := rfl
@[simp] theorem fin_nx (ps : PSt) : fin (.nx ps) = .ok .non := rfl
@[simp] theorem fin_exc (c : Nat) : fin (.exc c) = .exc c := rfl
def isiK (l : List (Nat × Bool)) (q : Nat) : Rx PV := match l.lookup q with | some b => .ok (.bl b) | none => .bad
def isiP (l : List (Nat × Bool)) (x : PV) : Rx PV := isiK l (kd x)
@[simp] theorem isiP_non (l : List (Nat × Bool)) : isiP l .non = isiK l 0 := rfl
@[simp] theorem isiP_bl (l : List (Nat × Bool)) (b : Bool) : isiP l (.bl b) = isiK l 1 := rfl
@[simp] theorem isiP_int (l : List (Nat × Bool)) (b : Int) : isiP l (.int b) = isiK l 2 := rfl
@[simp] theorem isiP_str (l : List (Nat × Bool)) (b : Str) : isiP l (.str b) = isiK l 3 := rfl
@[simp] theorem isiP_tup (l : List (Nat × Bool)) (b : List PV) : isiP l (.tup b) = isiK l 4 := rfl
@[simp] theorem isiP_lst (l : List (Nat × Bool)) (b : List PV) : isiP l (.lst b) = isiK l 5 := rfl
@[simp] theorem isiP_obj (l : List (Nat × Bool)) (k : Nat) (b : List PV) : isiP l (.obj k b) = isiK l (k + 10) := rfl
/-! what follows is taken up only when the way is known -/
def Rs.next (x : Rs) (r : DS) : Rs := match x with | .nx ps' => r ps' | y => y
def ifR (x : Rx Bool) (s r : DS) (ps : PSt) : Rs := x.st fun b => if b = true then s ps else r ps
def andR (x : Rx Bool) (u : DT) (ps : PSt) : Rx Bool := x.bind fun b => if b = true then u ps else .ok false
def orR (x : Rx Bool) (u : DT) (ps : PSt) : Rx Bool := x.bind fun b => if b = true then .ok true else u ps
def andVR (x : Rx PV) (b : DP) (ps : PSt) : Rx PV := x.bind fun y => match y with | .bl true => b ps | .bl false => .ok (.bl false) | _ => .bad
def orVR (x : Rx PV) (b : DP) (ps : PSt) : Rx PV := x.bind fun y => match y with | .bl true => .ok (.bl true) | .bl false => b ps | _ => .bad
def ifVR (x : Rx Bool) (a b : DP) (ps : PSt) : Rx PV := x.bind fun y => if y = true then a ps else b ps
def bind2 (x y : Rx PV) (f : PV → PV → Rx PV) : Rx PV := x.bind fun u => y.bind fun v => f u v
def consR (x : Rx PV) (xs : Rx (List PV)) : Rx (List PV) := x.bind fun u => xs.bind fun us => .ok (u :: us)
section
variable (ps : PSt) (i : Nat) (a b : DP) (d : DA) (t u : DT) (s r : DS) (f : PV → PV → Rx PV)
@[simp] theorem next_nx : (Rs.nx ps).next r = r ps := rfl
@[simp] theorem next_ret (w : PV) : (Rs.ret w).next r = .ret w := rfl
@[simp] theorem next_retn (xs : List PV) : (Rs.retn xs).next r = .retn xs := rfl
@[simp] theorem next_reti (w : PV) (x : Ow) : (Rs.reti w x).next r = .reti w x := rfl
@[simp] theorem next_brk : (Rs.brk ps).next r = .brk ps := rfl
@[simp] theorem next_cnt : (Rs.cnt ps).next r = .cnt ps := rfl
@[simp] theorem next_exc (c : Nat) : (Rs.exc c).next r = .exc c := rfl
@[simp] theorem ifR_t : ifR (.ok true) s r ps = s ps := rfl
@[simp] theorem ifR_f : ifR (.ok false) s r ps = r ps := rfl
@[simp] theorem ifR_x (c : Nat) : ifR (.exc c) s r ps = .exc c := rfl
@[simp] theorem andR_t : andR (.ok true) t ps = t ps := rfl
@[simp] theorem andR_f : andR (.ok false) t ps = .ok false := rfl
@[simp] theorem orR_t : orR (.ok true) t ps = .ok true := rfl
@[simp] theorem orR_f : orR (.ok false) t ps = t ps := rfl
@[simp] theorem andVR_t : andVR (.ok (.bl true)) b ps = b ps := rfl
@[simp] theorem andVR_f : andVR (.ok (.bl false)) b ps = .ok (.bl false) := rfl
@[simp] theorem orVR_t : orVR (.ok (.bl true)) b ps = .ok (.bl true) := rfl
@[simp] theorem orVR_f : orVR (.ok (.bl false)) b ps = b ps := rfl
@[simp] theorem ifVR_t : ifVR (.ok true) a b ps = a ps := rfl
@[simp] theorem ifVR_f : ifVR (.ok false) a b ps = b ps := rfl
@[simp] theorem bind2_ok (x y : PV) : bind2 (.ok x) (.ok y) f = f x y := rfl
@[simp] theorem consR_ok (x : PV) (xs : List PV) : consR (.ok x) (.ok xs) = .ok (x :: xs) := rfl
@[simp] theorem e_var : dVar i ps = match ps[i]? with | some (.v w) => .ok w | _ => .bad := rfl
@[simp] theorem e_see : dSee i ps = match ps[i]? with | some (.v w) => .ok w | some (.own x) => .ok x.pv | some (.bor w) => .ok w | _ => .bad := rfl
@[simp] theorem e_C (w : PV) : dC w ps = .ok w := rfl
@[simp] theorem e_2 : d2 f a b ps = bind2 (a ps) (b ps) f := rfl
@[simp] theorem e_Tr : dTr a ps = (a ps).bind fun x => match x with | .bl b => .ok b | _ => .bad := rfl
@[simp] theorem e_andT : dAndT t u ps = andR (t ps) u ps := rfl
@[simp] theorem e_orT : dOrT t u ps = orR (t ps) u ps := rfl
@[simp] theorem e_notT : dNotT t ps = (t ps).bind fun x => .ok (!x) := rfl
@[simp] theorem e_andV : dAndV a b ps = andVR (a ps) b ps := rfl
@[simp] theorem e_orV : dOrV a b ps = orVR (a ps) b ps := rfl
@[simp] theorem e_notV : dNotV a ps = (a ps).bind fun x => match x with | .bl k => .ok (.bl (!k)) | _ => .bad := rfl
@[simp] theorem e_neg : dNeg a ps = (a ps).bind fun x => match x with | .int i => .ok (.int (-i)) | _ => .bad := rfl
@[simp] theorem e_ifV : dIfV t a b ps = ifVR (t ps) a b ps := rfl
@[simp] theorem e_isN : dIsN a ps = (a ps).bind fun x => .ok (.bl (isN x)) := rfl
@[simp] theorem e_notN : dNotN a ps = (a ps).bind fun x => .ok (.bl (!isN x)) := rfl
@[simp] theorem e_nil : dNil ps = .ok [] := rfl
@[simp] theorem e_cons : dCons a d ps = consR (a ps) (d ps) := rfl
@[simp] theorem e_tup : dTup d ps = (d ps).bind fun ws => .ok (.tup ws) := rfl
@[simp] theorem e_ofN : dOfN d ps = (d ps).bind fun ws => .ok (.lst ws) := rfl
@[simp] theorem e_call (g : List PV → Rx PV) : dCall g d ps = (d ps).bind g := rfl
@[simp] theorem e_callN (g : List PV → Rx (List PV)) : dCallN g d ps = (d ps).bind g := rfl
@[simp] theorem e_new (c : Nat) : dNew c d ps = (d ps).bind fun ws => .ok (.obj c ws) := rfl
@[simp] theorem e_items : dItems a ps = (a ps).bind fun x => match x with | .lst xs => .ok xs | _ => .bad := rfl
@[simp] theorem e_itemsT : dItemsT a ps = (a ps).bind fun x => match x with | .tup xs => .ok xs | _ => .bad := rfl
@[simp] theorem e_isi (l : List (Nat × Bool)) : dIsi l a ps = (a ps).bind (isiP l) := rfl
@[simp] theorem e_cut (dl dh : PSt → Rx (Option Int)) : dCut a dl dh ps = (a ps).bind fun x => (dl ps).bind fun lo => (dh ps).bind fun hi => match x with | .lst xs => .ok (cutP xs lo hi) | _ => .bad := rfl
@[simp] theorem e_O0 : dO0 ps = .ok none := rfl
@[simp] theorem e_O1 : dO1 a ps = (a ps).bind fun x => match x with | .int i => .ok (some i) | _ => .bad := rfl
@[simp] theorem e_catL : dCatL a b ps = (a ps).bind fun x => (b ps).bind fun y => match x, y with | .lst xs, .lst ys => if xs.length + ys.length ≤ sizeLine then .ok (xs ++ ys) else .bad | _, _ => .bad := rfl
@[simp] theorem e_next : sNext ps = .nx ps := rfl
@[simp] theorem e_brk : sBrk ps = .brk ps := rfl
@[simp] theorem e_cnt : sCnt ps = .cnt ps := rfl
@[simp] theorem e_seq : sSeq s r ps = (s ps).next r := rfl
@[simp] theorem e_set : sSet i a ps = (a ps).st fun w => .nx (ps.set i (.v w)) := rfl
@[simp] theorem e_setM (m : DM) : sSetM i m ps = (m ps).st fun w => .nx (w.2.set i (.v w.1)) := rfl
@[simp] theorem e_own : sOwn i d ps = (d ps).st fun ws => if i < ps.length then .nx (ps.set i (.own (.lst ws))) else .bad := rfl
@[simp] theorem e_asg (g : DG) : sAsg g a ps = (a ps).st fun w => (g w ps).st fun ps' => .nx ps' := rfl
@[simp] theorem e_expr (m : DM) : sExpr m ps = (m ps).st fun w => .nx w.2 := rfl
@[simp] theorem e_retW : sRetW d ps = (d ps).st fun xs => .retn xs := rfl
@[simp] theorem e_retO : sRetO i ps = match ps[i]? with | some (.own (.lst xs)) => .retn xs | _ => .bad := rfl
@[simp] theorem e_ret : sRet a ps = (a ps).st fun w => .ret w := rfl
@[simp] theorem e_retM (m : DM) : sRetM m ps = (m ps).st fun w => .ret w.1 := rfl
@[simp] theorem e_retN : sRetN ps = .ret .non := rfl
@[simp] theorem e_if : sIf t s r ps = ifR (t ps) s r ps := rfl
@[simp] theorem e_for (g : DG) : sFor d g s ps = (d ps).st fun ws => forD g s ws ps := rfl
@[simp] theorem e_lift : dLift a ps = (a ps).bind fun w => .ok (w, ps) := rfl
@[simp] theorem e_mnil : mNil ps = .ok ([], ps) := rfl
@[simp] theorem e_mcons (m : DM) (n : DMA) : mCons m n ps = (m ps).bind fun x => (n x.2).bind fun y => .ok (x.1 :: y.1, y.2) := rfl
@[simp] theorem e_mtup (n : DMA) : mTup n ps = (n ps).bind fun x => if x.1.length ≤ 1000 then .ok (.tup x.1, x.2) else .bad := rfl
@[simp] theorem e_mcall (n : DMA) (g : List PV → Rx PV) : mCall g n ps = (n ps).bind fun x => (g x.1).bind fun w => .ok (w, x.2) := rfl
@[simp] theorem e_frz : mFrz i ps = match ps[i]? with | some (.own y) => .ok (y.pv, ps.set i (.v y.pv)) | some (.v w) => .ok (w, ps) | _ => .bad := rfl
@[simp] theorem e_pop : mPop i ps = match ps[i]? with | some (.own (.lst xs)) => (match xs.getLast? with | some w => .ok (w, ps.set i (.own (.lst xs.dropLast))) | none => .bad) | _ => .bad := rfl
@[simp] theorem e_app (m : DM) : mApp i m ps = match ps[i]? with
  | some (.own (.lst _)) => (m ps).bind fun x => (match x.2[i]? with | some (.own (.lst xs)) => if xs.length < sizeLine then .ok (.non, x.2.set i (.own (.lst (xs ++ [x.1])))) else .bad | _ => .bad)
  | _ => .bad := rfl
@[simp] theorem e_gset (w : PV) : gSet i w ps = .ok (ps.set i (.v w)) := rfl
@[simp] theorem e_gnil : gNilD [] ps = .ok ps := rfl
@[simp] theorem e_gcons (g : DG) (gs : List PV → PSt → Rx PSt) (w : PV) (ws : List PV) : gConsD g gs (w :: ws) ps = (g w ps).bind fun ps' => gs ws ps' := rfl
@[simp] theorem e_gtup (n : Nat) (gs : List PV → PSt → Rx PSt) (ws : List PV) : gTupD n gs (.tup ws) ps = if ws.length = n then gs ws ps else .bad := rfl
@[simp] theorem e_fIi (g : Int → Int → PV) (x y : Int) : fI g (.int x) (.int y) = .ok (g x y) := rfl
@[simp] theorem e_fIc (C : Int → Int → Prop) [∀ i j, Decidable (C i j)] (g : Int → Int → PV) (x y : Int) : fIc C g (.int x) (.int y) = if C x y then .ok (g x y) else .bad := rfl
@[simp] theorem e_eqI (x y : Int) : fEq (.int x) (.int y) = .ok (.bl (x == y)) := rfl
@[simp] theorem e_eqS (x y : Str) : fEq (.str x) (.str y) = .ok (.bl (x == y)) := rfl
@[simp] theorem e_eqB (x y : Bool) : fEq (.bl x) (.bl y) = .ok (.bl (x == y)) := rfl
@[simp] theorem e_neI (x y : Int) : fNe (.int x) (.int y) = .ok (.bl (!(x == y))) := rfl
@[simp] theorem e_neS (x y : Str) : fNe (.str x) (.str y) = .ok (.bl (!(x == y))) := rfl
@[simp] theorem e_neB (x y : Bool) : fNe (.bl x) (.bl y) = .ok (.bl (!(x == y))) := rfl
@[simp] theorem e_ixL (xs : List PV) (j : Int) : fIx (.lst xs) (.int j) = match atI xs j with | some w => .ok w | none => .bad := rfl
@[simp] theorem e_ixT (xs : List PV) (j : Int) : fIx (.tup xs) (.int j) = match atI xs j with | some w => .ok w | none => .bad := rfl
@[simp] theorem e_lenL (xs : List PV) : bLen [.lst xs] = .ok (.int xs.length) := rfl
@[simp] theorem e_lenT (xs : List PV) : bLen [.tup xs] = .ok (.int xs.length) := rfl
@[simp] theorem e_fornil (g : DG) : forD g s [] ps = .nx ps := rfl
end
/-- a method of an object -/
def callM (tab : List (Nat × Nat)) (g : Nat → List PV → Rx PV) (x : PV) (ws : List PV) : Rx PV := match x with
  | .obj c xs => (match tab.lookup c with | some f => g f (.obj c xs :: ws) | none => .bad)
  | _ => .bad
def callD (tab : List (Nat × Nat)) (g : Nat → List PV → Rx PV) (x : PV) (m : Rx (List PV)) : Rx PV := match x with
  | .obj c xs => (match tab.lookup c with | some f => m.bind fun ws => g f (.obj c xs :: ws) | none => .bad)
  | _ => .bad
@[simp] theorem callD_ok (tab : List (Nat × Nat)) (g : Nat → List PV → Rx PV) (x : PV) (ws : List PV) : callD tab g x (.ok ws) = callM tab g x ws := rfl
@[simp] theorem e_meth (tab : List (Nat × Nat)) (g : Nat → List PV → Rx PV) (a : DP) (d : DA) (ps : PSt) : dMeth tab g a d ps = (a ps).bind fun x => callD tab g x (d ps) := rfl
def fldP (l : List (Nat × Nat)) (x : PV) : Rx PV := match x with
  | .obj k xs => (match l.lookup k with | some j => (match xs[j]? with | some w => .ok w | none => .bad) | none => .bad)
  | _ => .bad
@[simp] theorem e_fld (l : List (Nat × Nat)) (a : DP) (ps : PSt) : dFld l a ps = (a ps).bind (fldP l) := rfl
end DN
end
section
set_option Elab.async false
set_option linter.all false
set_option maxRecDepth 100000
set_option maxHeartbeats 4000000
namespace DN
open PySem PySem.Spec PyProof.Rows L2
section
variable {X : Cx} {G : Pg} {e a b o tg : Expr} {es : List Expr} {da db : DP} {d : DA} {pos p p2 apos cpos : Pos} {x m : Str} {k i : Nat}
def dLRng (d : DA) : DA := fun ps => (d ps).bind fun ws => match ws with | [.int j] => if -(2 ^ 62) ≤ j ∧ j ≤ 2 ^ 24 then .ok (rngP 0 j.toNat) else .bad | _ => .bad
end
@[simp] theorem e_lrng (ps : PSt) (d : DA) : dLRng d ps = (d ps).bind fun ws => match ws with | [.int j] => if -(2 ^ 62) ≤ j ∧ j ≤ 2 ^ 24 then .ok (rngP 0 j.toNat) else .bad | _ => .bad := rfl
/-! ### isinstance(x, (C, D)) -/
def dIsiT (l m : List (Nat × Bool)) (d : DP) : DP := fun ps => (d ps).bind fun x => match l.lookup (kd x), m.lookup (kd x) with | some a, some b => .ok (.bl (a || b)) | _, _ => .bad
section
variable {X : Cx} {G : Pg} {e c1 c2 : Expr} {da : DP} {pos p : Pos}
end
def isiP2 (l m : List (Nat × Bool)) (x : PV) : Rx PV := match l.lookup (kd x), m.lookup (kd x) with | some a, some b => .ok (.bl (a || b)) | _, _ => .bad
@[simp] theorem e_isiT (l m : List (Nat × Bool)) (a : DP) (ps : PSt) : dIsiT l m a ps = (a ps).bind (isiP2 l m) := rfl
end DN
end
section
set_option Elab.async false
set_option linter.all false
set_option maxRecDepth 100000
set_option maxHeartbeats 4000000
namespace DN
open PySem L2
/-! ### lists -/
theorem cut_map (ns : List Int) (lo hi : Option Int) : ∃ ms : List Int, cutP (ns.map PV.int) lo hi = ms.map PV.int ∧ ms.length = min (HT.sIx ns.length ns.length hi - HT.sIx ns.length 0 lo) (ns.length - HT.sIx ns.length 0 lo) := by
  refine ⟨(ns.drop (HT.sIx ns.length 0 lo)).take (HT.sIx ns.length ns.length hi - HT.sIx ns.length 0 lo), ?_, by rw [List.length_take, List.length_drop]⟩
  unfold cutP
  rw [List.length_map, List.map_take, List.map_drop]
end DN
end
section
set_option Elab.async false
set_option linter.all false
set_option maxRecDepth 100000
set_option maxHeartbeats 4000000
namespace L2
open PySem PySem.Spec PyProof.Rows
section
variable {X : Cx} {tg : Expr}
end
end L2
namespace DN
open PySem PySem.Spec PyProof.Rows L2
def sgP (x : Str) : List PV := x.cps.toList.map fun c => PV.str ⟨#[c]⟩
section
variable {X : Cx} {G : Pg} {e a b o tg iter : Expr} {es : List Expr} {body : List Stmt} {da db dk dv : DP} {d : DA} {ds : DS} {pos pos' p apos : Pos} {x m : Str} {k i : Nat} {ms : List Bool}
def dItemsS (d : DP) : DA := fun ps => (d ps).bind fun x => match x with | .str y => .ok (sgP y) | _ => .bad
@[simp] theorem e_itemsS (d : DP) (ps : PSt) (y : Str) (h : d ps = .ok (.str y)) : dItemsS d ps = .ok (sgP y) := by unfold dItemsS; rw [h]; rfl
end
end DN
end
section
set_option Elab.async false
set_option linter.all false
set_option maxRecDepth 100000
set_option maxHeartbeats 4000000
namespace DN
open PySem PySem.Spec PyProof.Rows L2
section
variable {K : PySem.W.Frag} {G : Pg} {H : Hp} {A : Av}
end
section
variable {X : Cx} {G : Pg} {e a b o i f value : Expr} {es : List Expr} {da db dd dk dv : DP} {d : DA} {dm : DM} {pos pos' p apos cpos tpos : Pos} {x : Str} {j : Nat}
end
end DN
end
section
set_option Elab.async false
set_option linter.all false
set_option maxRecDepth 100000
set_option maxHeartbeats 4000000
namespace L2
open PySem PySem.Spec PyProof.Rows
end L2
namespace DN
open PySem PySem.Spec PyProof.Rows L2
section
variable {X : Cx} {G : Pg} {e a b o tg : Expr} {es : List Expr} {da db : DP} {d : DA} {dm : DM} {ds du : DS} {pos p apos cpos : Pos} {x m : Str} {k i : Nat} {ms : List Bool}
/-! ### for k, x in enumerate(xs) -/
def enumFrom : Nat → List PV → List PV
  | _, [] => []
  | k, w :: ws => .tup [.int (k : Int), w] :: enumFrom (k + 1) ws
def dEnum (d : DP) : DA := fun ps => (d ps).bind fun x => match x with | .lst xs => .ok (enumFrom 0 xs) | _ => .bad
def sForE (d : DP) (g : DG) (body : DS) : DS := sFor (dEnum d) g body
/-! ### xs.extend(a new list), xs.clear(), xs.reverse() -/
def mExt (i : Nat) (d : DA) : DM := fun ps => match ps[i]? with
  | some (.own (.lst xs)) => (d ps).bind fun ys => if xs.length + ys.length ≤ sizeLine then .ok (.non, ps.set i (.own (.lst (xs ++ ys)))) else .bad
  | _ => .bad
def mClr (i : Nat) : DM := fun ps => match ps[i]? with
  | some (.own (.lst _)) => .ok (.non, ps.set i (.own (.lst [])))
  | _ => .bad
theorem Reps.reverse {K : PySem.W.Frag} {H : Hp} {A : Av} : ∀ {ws : List PV} {vs : List V}, Reps K G H A ws vs → Reps K G H A ws.reverse vs.reverse
  | [], vs, h => by have h : vs = [] := h; subst h; rfl
  | w :: ws, vs, h => by
    obtain ⟨v, r, rfl, h1, h2⟩ := h
    rw [List.reverse_cons, List.reverse_cons]
    exact (Reps.reverse h2).snoc h1
def mRev (i : Nat) : DM := fun ps => match ps[i]? with
  | some (.own (.lst xs)) => .ok (.non, ps.set i (.own (.lst xs.reverse)))
  | _ => .bad
/-! ### tuples: a slice, + -/
def dCutT (d : DP) (dl dh : PSt → Rx (Option Int)) : DP := fun ps => (d ps).bind fun x => (dl ps).bind fun lo => (dh ps).bind fun hi => match x with
  | .tup xs => if HT.sIx xs.length 0 lo = 0 ∧ HT.sIx xs.length xs.length hi = xs.length then .bad else .ok (.tup (cutP xs lo hi))
  | _ => .bad
def fCatT : PV → PV → Rx PV
  | .tup xs, .tup ys => if xs ≠ [] ∧ xs.length + ys.length ≤ sizeLine then .ok (.tup (xs ++ ys)) else .bad
  | _, _ => .bad
/-! ### a new list times an int -/
def dRep (d : DA) (b : DP) : DA := fun ps => (d ps).bind fun xs => (b ps).bind fun y => match y with
  | .int k => if 0 ≤ k ∧ k < 2 ^ 62 ∧ xs.length * k.toNat ≤ sizeLine then .ok (List.replicate k.toNat xs).flatten else .bad
  | _ => .bad
theorem Reps.rep {K : PySem.W.Frag} {H : Hp} {A : Av} {ws : List PV} {vs : List V} (h : Reps K G H A ws vs) : ∀ n : Nat, Reps K G H A (List.replicate n ws).flatten (List.replicate n vs).flatten
  | 0 => rfl
  | n + 1 => by
    rw [List.replicate_succ, List.flatten_cons, List.replicate_succ, List.flatten_cons]
    exact h.app (Reps.rep h n)
theorem n_rep (ha : JN X G a d) (hb : JP X G b db) : JN X G (.BinOp a .Mult b pos) (dRep d db) := imp (pe_op op_rep ha hb) fun σ H Q ⟨c, ow, ps, ws, R, e, q⟩ => by
  obtain ⟨xs, e1, e⟩ := bind_ok e
  obtain ⟨y, e2, e⟩ := bind_ok e
  refine ⟨c, ow, ps, xs, R, e1, fun p0 vs H1 s1 hp0 hv rs => ⟨c, ow, ps, y, R.grow s1, e2, fun u H2 s2 r2 => ?_⟩⟩
  split at e
  · rename_i k
    split at e
    · rename_i hk
      cases e
      obtain rfl : u = V.int k := r2
      refine ⟨p0, k, vs, rfl, rfl, s2 _ _ hv, by omega, by omega, by rw [← rs.len]; exact hk.2.2, fun p hp => ?_⟩
      have sp := same_upd hp (.lst (List.replicate k.toNat vs).flatten)
      have r0 : Reps X.K G H2 (av c ow) xs vs := ((Kp.weak fun a z => Or.inl z).reps rs).same s2
      exact q p _ _ ((s1.trans s2).trans sp) ((s1.trans s2).free hp) upd_same ((Kp.take hp sp fun a z => z.symm).reps (r0.rep _))
    · cases e
  · cases e
/-! ### a def that hands out a new list -/
def dCallW (g : List PV → Rx PV) (d : DA) : DA := fun ps => (d ps).bind fun ws => (g ws).bind fun w => match w with | .lst xs => .ok xs | _ => .bad
/-! ### equations -/
variable (ps : PSt)
@[simp] theorem e_ext : mExt i d ps = match ps[i]? with
  | some (.own (.lst xs)) => (d ps).bind fun ys => if xs.length + ys.length ≤ sizeLine then .ok (.non, ps.set i (.own (.lst (xs ++ ys)))) else .bad
  | _ => .bad := rfl
@[simp] theorem e_clr : mClr i ps = match ps[i]? with
  | some (.own (.lst _)) => .ok (.non, ps.set i (.own (.lst [])))
  | _ => .bad := rfl
@[simp] theorem e_rev : mRev i ps = match ps[i]? with
  | some (.own (.lst xs)) => .ok (.non, ps.set i (.own (.lst xs.reverse)))
  | _ => .bad := rfl
@[simp] theorem e_forE (g : DG) : sForE da g ds ps = (dEnum da ps).st fun ws => forD g ds ws ps := rfl
@[simp] theorem e_enum : dEnum da ps = (da ps).bind fun x => match x with | .lst xs => .ok (enumFrom 0 xs) | _ => .bad := rfl
@[simp] theorem e_cutT (dl dh : PSt → Rx (Option Int)) : dCutT da dl dh ps = (da ps).bind fun x => (dl ps).bind fun lo => (dh ps).bind fun hi => match x with
  | .tup xs => if HT.sIx xs.length 0 lo = 0 ∧ HT.sIx xs.length xs.length hi = xs.length then .bad else .ok (.tup (cutP xs lo hi))
  | _ => .bad := rfl
@[simp] theorem e_catT (xs ys : List PV) : fCatT (.tup xs) (.tup ys) = if xs ≠ [] ∧ xs.length + ys.length ≤ sizeLine then .ok (.tup (xs ++ ys)) else .bad := rfl
@[simp] theorem e_rep : dRep d db ps = (d ps).bind fun xs => (db ps).bind fun y => match y with
  | .int k => if 0 ≤ k ∧ k < 2 ^ 62 ∧ xs.length * k.toNat ≤ sizeLine then .ok (List.replicate k.toNat xs).flatten else .bad
  | _ => .bad := rfl
@[simp] theorem e_callW (g : List PV → Rx PV) : dCallW g d ps = (d ps).bind fun ws => (g ws).bind fun w => match w with | .lst xs => .ok xs | _ => .bad := rfl
end
end DN
end
section
set_option Elab.async false
set_option linter.all false
set_option maxRecDepth 100000
set_option maxHeartbeats 4000000
namespace L2
open PySem PySem.Spec PyProof.Rows
section
variable {X : Cx} {pins : List (Addr × Obj)} {σ : St} {H : Hp} {s s1 : Shared} {scope : Scope} {own : List Str} {caps : List (Str × Nat)} {fp : List Addr}
def tCompS (own : List Str) (caps : List (Str × Nat)) (wi : TI) (g : TG) (tc : TT) (te : TE) (i : Nat) : TS := fun D σ H => wi σ H (CompGo own caps g tc te σ fun v H' => D.nx (σ.set i (some v)) H')
/-- x = [.. for ..], x a plain local name: the store goes ahead of the block's end -/
theorem ps_comp {elt tg iter : Expr} {ifs : List Expr} {pos spos px : Pos} {wi : TI} {g : TG} {tc : TT} {te : TE} {j : Nat} {x : Str} (hN : X.N.Nodup) (hi' : X.N[j]? = some x) (hx : Loc X.env.scope x) (S : CompScope X scope own caps) (hc : X.calm = true) (hi : PI X tg iter wi)
    (hg : ∀ C s₀ H₀ fp, PG (cxB X scope C (capN own caps) s₀ H₀ fp) tg g) (ht : ∀ C s₀ H₀ fp, PTs (cxB X scope C (capN own caps) s₀ H₀ fp) ifs tc) (he : ∀ C s₀ H₀ fp, PE (cxB X scope C (capN own caps) s₀ H₀ fp) elt te)
    (hsw : swapsWith (.ListComp elt [⟨tg, iter, ifs, 0⟩] scope pos) (some (.Name x px)) spos.line X.env = pure true := by rfl) (hs : ∀ x, foldedSetIterable iter X.env x = pure x := by intro _; rfl)
    (hf : X.fn x = true ∨ X.env.scope.names.lookup x = some .local := by first | exact .inl rfl | exact .inr rfl | assumption) : PS X (.Assign [.Name x px] (.ListComp elt [⟨tg, iter, ifs, 0⟩] scope pos) spos) (tCompS own caps wi g tc te j) := by
  intro pins s σ H D0 I h
  rw [exec_Assign_Name_used _ _ _ _ hsw]
  refine wpAny_bind (wpAny_standAt (wpAny_bind ?_))
  show wpAny _ X.A (do let _ ← comprehension (.ListComp elt [⟨tg, iter, ifs, 0⟩] scope pos) scope X.env _ (newList []) false (eval iter X.env) (some (assign (.Name x px) X.env))) _ _ s
  have hfree : ∀ y ∈ scope.names, y.2 = .free → ∃ c, X.env.cells.lookup y.1 = some c := fun y hy e => I.ok.has _ (S.frees.mem y hy e)
  refine wpAny_bind (wpAny_mono (wpAny_comprehension_free (Q := fun _ s' => SP X pins D0 .next s') (use := some (assign (.Name x px) X.env)) rfl hs (closureFor_eq hfree) S.kind S.names (thn (hi pins s σ H _ I h) fun v s1 h1 => thn h1 fun itv s2 h2 => ?_))
    (fun _ s' hq => wpAny_pure (wpAny_pure hq)) fun _ _ e => e)
  obtain ⟨it, fp, tn, J, H2, e, I2, T, st2, f2, hW⟩ := h2
  subst e
  -- the new list
  refine wpAny_newList ?_
  have hD : H2 s2.heap.objs.size = none := I2.fresh
  have I3 := I2.lnew (its := []) (ys := []) (t' := s2.toks) .nil (Nat.zero_le _)
  have k3 : ∀ b o, s2.heap.get? b = some o → (s2.heap.push { cls := .type "list", data := .seq ([] : List Value).toArray }).get? b = some o := fun b o q => Heap.get?_push_of_some _ q
  have st3 : tn 0 (s2.heap.push { cls := .type "list", data := .seq ([] : List Value).toArray }) := T.keep _ _ _ st2 fun b _ o q => k3 b o q
  have lt2 : ∀ b ∈ fp, b < s2.heap.objs.size := fun b hb => let ⟨o, q, _⟩ := T.obj _ _ st2 b hb; Heap.lt_size q
  have neD : ∀ b ∈ fp, b ≠ s2.heap.objs.size := fun b hb => Nat.ne_of_lt (lt2 b hb)
  have f3 : ∀ b ∈ fp, FpOk X pins (upd H2 s2.heap.objs.size (.lst [])) b := fun b hb => ⟨by rw [upd_ne (neD b hb)]; exact (f2 b hb).1, (f2 b hb).2⟩
  obtain ⟨W, ⟨m0, w0⟩, turn⟩ := hW _ hD
  generalize eD : s2.heap.objs.size = D at *
  generalize eH : upd H2 D (.lst []) = H3 at *
  generalize eh : s2.heap.push { cls := .type "list", data := .seq ([] : List Value).toArray } = hp3 at *
  have I3' : Inv X pins σ H3 { s2 with heap := hp3 } := I3
  -- the block's frame
  refine wpAny_newFunctionEnv S.nocell (fun y hy => by simp at hy) (fun h1 hns hsb => ?_) S.kind
  have kb : ∀ b o, hp3.get? b = some o → h1.get? b = some o := fun b o q => hsb.extBut b o (Nat.ne_of_lt (Heap.lt_size q)) (Heap.get?_push_of_some _ q)
  have lt3 : ∀ b ∈ fp, b < hp3.objs.size := fun b hb => let ⟨o, q, _⟩ := T.obj _ _ st3 b hb; Heap.lt_size q
  have IB := Inv.block (s := { s2 with heap := hp3 }) (h1 := h1) (tk := s2.toks) I3' S f3 hns kb lt3
  have stB : tn 0 h1 := T.keep _ _ _ st3 fun b _ o q => kb b o q
  have back : ∀ {σ' : St} {H' : Hp} {s' : Shared} {h' : Heap}, Inv (cxB X scope hp3.objs.size (capN own caps) { s2 with heap := hp3 } H3 fp) [] σ' H' s' → Heap.SameBut hp3.objs.size s'.heap h' → Inv X pins σ H' { s' with heap := h' } := fun {σ' H' s' h'} J hsm => by
    have nC : ∀ b o, H' b = some o → b ≠ hp3.objs.size := fun b o q z => by
      have := J.free
      rw [z] at q
      have q2 : H' hp3.objs.size = none := this
      rw [q] at q2; cases q2
    have hok : HOk X.prog X.w H' h' := fun b o q => (J.hok b o q).stay (fun c v hc z => hsm.extBut c v (by
      rcases hc with hc | hc
      · rw [hc]; exact nC b o q
      · exact nC c _ hc) z) (fun _ z => z) (fun _ _ z => z) fun _ _ _ z => z
    have nb : ∀ b o, hp3.get? b = some o → b ≠ hp3.objs.size := fun b o q => Nat.ne_of_lt (Heap.lt_size q)
    have un : Un (frs X.stack) fp H3 H' hp3 h' := ⟨fun b o q n hb hx => hsm.extBut b o (nb b o q) (J.base.keep b o q n hb hx), fun b o q n hb hx => by
        obtain ⟨sl, z⟩ := J.base.slot b o q n hb hx
        exact ⟨sl, hsm.extBut b _ (nb b o q) z⟩, J.base.free, fun b o q hx => by
        obtain ⟨o', z⟩ := J.base.there b o q hx
        exact ⟨o', hsm.extBut b _ (nb b o q) z⟩, J.base.tups, J.base.frzs, J.base.tbls⟩
    have os := J.os
    have bare := J.bare
    obtain ⟨hh, g, d, t, os'⟩ := s'
    obtain rfl : os' = s2.os := os
    show Inv X pins σ H' { ({ s2 with heap := hp3 } : Shared) with heap := h', gens := g, drawn := d, toks := t }
    exact I3'.call (h' := h') (g' := g) (d' := d) (t' := t) (ch := fp) un hok bare fun b hb => ⟨(f3 b hb).2.2.2.1, (f3 b hb).2.1, (f3 b hb).2.2.2.2.1, (f3 b hb).2.2.2.2.2⟩
  have statB : ∀ {H' : Hp}, (∀ b ∈ fp, H' b = none) → ∀ b ∈ fp, FpOk (cxB X scope hp3.objs.size (capN own caps) { s2 with heap := hp3 } H3 fp) [] H' b := fun hn b hb =>
    ⟨hn b hb, Nat.ne_of_lt (lt3 b hb), fun z => (IB.ok.exfs b hb) z, .inl hb, (IB.ok.exf b hb).2, fun p hp => absurd (show p ∈ ([] : List (Addr × Obj)) from hp) (by simp)⟩
  have loop : ∀ s₃ : Shared, s₃ = { s2 with heap := h1, toks := s2.toks } → codeAny (model X.prog X.w) X.A (.compLoop (.ListComp elt [⟨tg, iter, ifs, 0⟩] scope pos) 0 (.ref it) (.ref D) (compEnvC scope (clos X.env scope.names []) hp3.objs.size X.env))
      (compPost (model X.prog X.w) X.A X.xe (some (assign (.Name x px) X.env)) (fun _ s' => SP X pins D0 .next s') (.ref D) hp3.objs.size) s₃ := by
    rintro s₃ rfl
    refine compLoop_any (fun n s' => ∃ i σ' H', Inv (cxB X scope hp3.objs.size (capN own caps) { s2 with heap := hp3 } H3 fp) [] σ' H' s' ∧ tn i s'.heap ∧ (∀ b ∈ fp, H' b = none) ∧ W i n σ' H') ?_ m0 ⟨0, capS own caps σ, H3, IB, stB, fun b hb => (f3 b hb).1, w0⟩
    rintro n s3 ⟨i, σ3, H4, I4, st4, fr4, w4⟩
    rcases turn i n σ3 H4 w4 with ⟨stop, qn⟩ | ⟨go, N, hN, step⟩
    · refine thn (T.done (cxB X scope hp3.objs.size (capN own caps) { s2 with heap := hp3 } H3 fp) rfl rfl rfl hc i [] s3 σ3 H4 _ I4 (statB fr4) st4 stop) fun r s4 ⟨hr, I5⟩ => ?_
      subst hr
      obtain ⟨m, hn, _⟩ := I5.loc
      have I6 : Inv X pins σ H4 s4 := back I5 ⟨rfl, fun _ _ => rfl⟩
      have neL : hp3.objs.size ≠ X.env.locals := fun z => by
        have := I3'.lt
        rw [← z] at this
        exact Nat.lt_irrefl _ this
      have neC : ∀ y c, X.env.cells.lookup y = some c → c ≠ hp3.objs.size := fun y c e z => by
        obtain ⟨v, q⟩ := I3'.cell y c e
        have := q.lt
        rw [z] at this
        exact Nat.lt_irrefl _ this
      have neP : ∀ p ∈ X.pn ++ pins, p.1 ≠ hp3.objs.size := fun p hp z => by
        have := Heap.lt_size (I3'.pin p hp).1
        rw [z] at this
        exact Nat.lt_irrefl _ this
      refine wpAny_assign_Name (store_ok2 I6 hN hi' hx (v := .ref D) rfl (fun s7 I7 ⟨a, sb, ha⟩ => ?_) hf)
      have na : hp3.objs.size ≠ a := fun z => by
        rcases ha with ha | ha
        · exact neL (z.trans ha)
        · exact neC _ _ ha z.symm
      refine ⟨m, hn.sameBut sb na, fun h' hsm => ⟨_, H4, ?_, qn⟩⟩
      exact I7.turned (t' := s7.toks) (it := hp3.objs.size) (fun b o hb e => hsm.extBut b o hb e) I5.free neL (.inr I3'.sz) neC neP
    · refine thn (T.item (cxB X scope hp3.objs.size (capN own caps) { s2 with heap := hp3 } H3 fp) rfl rfl rfl hc i [] s3 σ3 H4 (fun _ _ => False) I4 (statB fr4) st4 go) fun r s4 ⟨u, hr, h4⟩ => ?_
      subst hr
      refine thn h4 fun _ s5 ⟨x, H5, I5, r5, y5, st5, fr5⟩ => ?_
      have I5' := I5.pinned (statB fr5) (T.obj _ _ st5)
      refine thn (hg hp3.objs.size { s2 with heap := hp3 } H3 fp _ s5 σ3 H5 x u _ I5' r5 (step x H5 y5)) fun _ s6 ⟨σ6, H6, I6, q6⟩ => ?_
      refine thn (ht hp3.objs.size { s2 with heap := hp3 } H3 fp _ s6 σ6 H6 _ I6 q6) fun ok s7 ⟨H7, I7, q7⟩ => ?_
      have again : ∀ {σ7 : St} {H7 : Hp} {s7 : Shared}, Inv (cxB X scope hp3.objs.size (capN own caps) { s2 with heap := hp3 } H3 fp) ([] ++ pinsAt fp s5.heap) σ7 H7 s7 → N σ7 H7 → ∃ m, m < n ∧ ∃ i σ' H', Inv (cxB X scope hp3.objs.size (capN own caps) { s2 with heap := hp3 } H3 fp) [] σ' H' s7 ∧ tn i s7.heap ∧ (∀ b ∈ fp, H' b = none) ∧ W i m σ' H' := fun {σ7 H7 s7} I7 n7 => by
        obtain ⟨m', hm, w7⟩ := hN σ7 H7 n7
        refine ⟨m', hm, i + 1, σ7, H7, I7.unpinned, T.keep _ _ _ st5 fun b hb o e => (I7.pin (b, o) (List.mem_append_right _ (List.mem_append_right _ (mem_pinsAt hb e)))).1, fun b hb => ?_, w7⟩
        obtain ⟨o, e, d⟩ := T.obj _ _ st5 b hb
        exact (I7.pin (b, o) (List.mem_append_right _ (List.mem_append_right _ (mem_pinsAt hb e)))).2.1
      cases ok with
      | false =>
        rw [if_neg (by decide)]
        rw [if_neg (by decide)] at q7
        exact again I7 q7
      | true =>
        rw [if_pos rfl]
        rw [if_pos rfl] at q7
        refine thn (he hp3.objs.size { s2 with heap := hp3 } H3 fp _ s7 σ6 H7 _ I7 q7) fun y s8 ⟨yv, H8, I8, r8, ys, e8, z8, n8⟩ => ?_
        refine thn (mt_append (X := cxB X scope hp3.objs.size (capN own caps) { s2 with heap := hp3 } H3 fp) _ s8 σ6 H8 (.ref D) [yv] (.ref D) [y] (fun _ H' => N σ6 H') I8 rfl (.cons r8 .nil) ⟨D, ys, yv, rfl, rfl, e8, z8, n8⟩) fun _ s9 ⟨v9, H9, I9, _, q9⟩ => ?_
        exact again I9 q9
  exact codeAny_compStart_list (loop _ rfl) (T.self _ 0 _ _ _ stB (loop _ rfl))
end
end L2
namespace DN
open PySem PySem.Spec PyProof.Rows L2
section
variable {X : Cx} {G : Pg} {e a b o tg : Expr} {es : List Expr} {da db : DP} {d : DA} {dm : DM} {ds du : DS} {pos p apos cpos : Pos} {x m : Str} {k i : Nat} {ms : List Bool}
theorem s_setC {elt iter : Expr} {ifs : List Expr} {scope : Scope} {own : List Str} {caps : List (Str × Nat)} {di : DA} {g : DG} {dt : DT} {de : DP} (hN : X.N.Nodup) (hi' : X.N[i]? = some x) (hx : Loc X.env.scope x) (S : CompScope X scope own caps) (hc : X.calm = true) (hi : JIs X G tg iter di)
    (hg : ∀ C s₀ H₀ fp, JG (cxB X scope C (capN own caps) s₀ H₀ fp) G tg g) (ht : ∀ C s₀ H₀ fp, JTs (cxB X scope C (capN own caps) s₀ H₀ fp) G ifs dt) (he : ∀ C s₀ H₀ fp, JP (cxB X scope C (capN own caps) s₀ H₀ fp) G elt de)
    (gk : ∀ (w : PV) (ps ps' : PSt), g w ps = .ok ps' → ∀ (i : Nat) (x : Ow), ps'[i]? = some (Sl.own x) → ps[i]? = some (Sl.own x))
    (hsw : swapsWith (.ListComp elt [⟨tg, iter, ifs, 0⟩] scope cpos) (some (.Name x p)) pos.line X.env = pure true := by rfl) (hs : ∀ x, foldedSetIterable iter X.env x = pure x := by intro _; rfl)
    (hf : X.fn x = true ∨ X.env.scope.names.lookup x = some .local := by first | exact .inl rfl | exact .inr rfl | assumption) : JS X G (.Assign [.Name x p] (.ListComp elt [⟨tg, iter, ifs, 0⟩] scope cpos) pos) (sSet i (dOfN (dComp own caps di g dt de))) :=
  impS (ps_comp (wi := tPs X.K G di) (g := tG X.K G g) (tc := tPt X.K G dt) (te := tPv X.K G de) hN hi' hx S hc hi hg ht he hsw hs hf) fun D σ H ⟨c, ow, ps, R, q⟩ => by
    obtain ⟨w, e0, q⟩ := ends_st q
    obtain ⟨ws, e1, e2⟩ := bind_ok e0
    cases e2
    exact comp_go gk ⟨c, ow, ps, ws, R, e1, fun p vs H' s hp hv r => q _ _ _ ((R.grow s).setV ⟨p, vs, rfl, .inl ⟨hv, fun z => R.used p z hp⟩, (Kp.weak fun a z => Or.inl z).reps r⟩) ((Kp.of_same s).trans (Kp.weak av_off))⟩
/-! ### what the mirrors' mathematics wants -/
theorem comp_emb {α : Type} {dt : DT} {de : DP} {ps0 : PSt} (emb : α → PV) (q : α → Bool) (f : α → PV) : ∀ (us : List α) (s : Sl), (∀ u, u ∈ us → dt (.v (emb u) :: ps0) = .ok (q u) ∧ (q u = true → de (.v (emb u) :: ps0) = .ok (f u))) → compD (gSet 0) dt de (us.map emb) (s :: ps0) = .ok ((us.filter q).map f)
  | [], s, _ => rfl
  | u :: us, s, h => by
    obtain ⟨h1, h2⟩ := h u List.mem_cons_self
    have ih := comp_emb emb q f us (.v (emb u)) fun w' hw => h w' (List.mem_cons_of_mem _ hw)
    have e0 : gSet 0 (emb u) (s :: ps0) = .ok (.v (emb u) :: ps0) := rfl
    rw [List.map_cons, compD, e0, ok_bind, h1, ok_bind]
    cases hp : q u with
    | true => rw [if_pos rfl, h2 hp, ok_bind, ih, ok_bind, List.filter_cons, if_pos hp]; rfl
    | false => rw [if_neg Bool.false_ne_true, ih, List.filter_cons, if_neg (by rw [hp]; exact Bool.false_ne_true)]
theorem comp_all {α : Type} {de : DP} {ps0 : PSt} (emb f : α → PV) (us : List α) (s : Sl) (h : ∀ u, u ∈ us → de (.v (emb u) :: ps0) = .ok (f u)) : compD (gSet 0) dYes de (us.map emb) (s :: ps0) = .ok (us.map f) := by
  rw [comp_emb emb (fun _ => true) f us s fun u hu => ⟨rfl, fun _ => h u hu⟩, List.filter_eq_self.mpr fun _ _ => rfl]
mutual
def PV.data : PV → Bool
  | .obj _ _ => false
  | .dic _ _ => false
  | .clo _ _ => false
  | .tup xs => pdata xs
  | .lst xs => pdata xs
  | _ => true
def pdata : List PV → Bool
  | [] => true
  | x :: xs => x.data && pdata xs
end
mutual
theorem peq_self : ∀ (x : PV), x.data = true → peq x x = some true
  | .non, _ => by simp [peq]
  | .bl _, _ => by simp [peq]
  | .int _, _ => by simp [peq]
  | .str _, _ => by simp [peq]
  | .tup xs, h => by rw [peq]; exact peqs_self xs h
  | .lst xs, h => by rw [peq, if_pos rfl]; exact peqs_self xs h
  | .obj _ _, h => by cases h
  | .dic _ _, h => by cases h
  | .clo _ _, h => by cases h
theorem peqs_self : ∀ (xs : List PV), pdata xs = true → peqs xs xs = some true
  | [], _ => by rw [peqs]
  | x :: xs, h => by
    have h : (x.data && pdata xs) = true := h
    rw [Bool.and_eq_true] at h
    rw [peqs, peq_self x h.1, peqs_self xs h.2]
    rfl
end
theorem fEq_self {x : PV} (h : x.data = true) (hd : x.depth < 100) : fEq x x = .ok (.bl true) := by unfold fEq; rw [if_pos hd, peq_self x h]
theorem fNe_self {x : PV} (h : x.data = true) (hd : x.depth < 100) : fNe x x = .ok (.bl false) := by unfold fNe; rw [if_pos hd, peq_self x h]; rfl
end
end DN
end
section
set_option Elab.async false
set_option linter.all false
set_option maxRecDepth 100000
set_option maxHeartbeats 4000000
namespace DN
open PySem PySem.Spec PyProof.Rows L2
/-! ### instances that are made by an __init__ with a body of its own -/
theorem putF_new {f : Str} {v : V} : ∀ {ns : List Str} {vs : List V}, f ∉ ns → ns.length = vs.length → putF f v (ns.zip vs) = (ns ++ [f]).zip (vs ++ [v])
  | [], [], _, _ => rfl
  | [], _ :: _, _, h => by simp at h
  | _ :: _, [], _, h => by simp at h
  | n :: ns, u :: vs, h, l => by
    have h1 : n ≠ f := fun z => h (by rw [z]; exact List.mem_cons_self)
    rw [List.zip_cons_cons]
    show (if n = f then _ else _) = _
    rw [if_neg h1, putF_new (fun z => h (List.mem_cons_of_mem _ z)) (by simpa using l)]
    rfl
section
variable {X : Cx} {G : Pg} {e a b o tg : Expr} {es : List Expr} {da db : DP} {d : DA} {dm : DM} {ds du : DS} {pos p apos cpos : Pos} {x m : Str} {k i : Nat} {ms : List Bool}
def fldO (l : List (Nat × Nat)) (k : Nat) (xs : List PV) : Rx PV := match l.lookup k with | some j => (match xs[j]? with | some w => .ok w | none => .bad) | none => .bad
/-- x.f, x a name: a thing of one's own, lent, or being made -/
def dFldI (l : List (Nat × Nat)) (i : Nat) : DP := fun ps => match ps[i]? with
  | some (.ino (.obj k xs)) => fldO l k xs
  | some (.own (.obj k xs)) => fldO l k xs
  | some (.bor (.obj k xs)) => fldO l k xs
  | some (.ini k xs) => fldO l k xs
  | some (.v (.obj k xs)) => fldO l k xs
  | _ => .bad
/-- self.f = e in an __init__, the j-th attribute -/
def sIni (k j : Nat) (d : DP) : DS := fun ps => match ps[(0 : Nat)]? with
  | some (.ini k' xs) => if k' = k ∧ xs.length = j then (d ps).st fun w => .nx (ps.set 0 (.ini k (xs ++ [w]))) else .bad
  | _ => .bad
theorem s_ini {f : Str} {j : Nat} (k : Nat) (cl : Cls X.K (G.cA k)) (na : NoAttr X.K (G.cA k) f) (nd : (G.fN k).Nodup) (hf : (G.fN k)[j]? = some f) (hsm : (G.fN k).length < 1000) (he : JP X G e da) (hN : X.N[0]? = some x := by rfl) (hv : Vis X.env.scope x := by first | exact Or.inl rfl | exact Or.inr (Or.inl rfl) | exact Or.inr (Or.inr rfl))
    (hd : (x == ("__debug__" : Str)) = false := by decide) (hcd : (x == ("__classdict__" : Str)) = false := by decide) (hs : swapsWith e (some (.Attribute (.Name x p) f apos)) pos.line X.env = pure false := by rfl) :
    JS X G (.Assign [.Attribute (.Name x p) f apos] e pos) (sIni k j da) := impS (ps_fld (pe_var hN hv hd hcd) he hs) fun D σ H ⟨c, ow, ps, R, q⟩ => by
  unfold sIni at q
  split at q
  · rename_i k' xs hx
    split at q
    · rename_i hk
      obtain ⟨rfl, rfl⟩ := hk
      obtain ⟨w, e1, q⟩ := ends_st q
      refine ⟨c, ow, ps, w, R, e1, fun v H1 s1 r1 => ?_⟩
      have R1 := R.grow s1
      obtain ⟨o', eo, z1, z2, pp, e2, el, dx, vs, hH, hl, rs⟩ := R1.get hx
      rw [e2] at eo
      have hlt : xs.length < (G.fN k').length := (List.getElem?_eq_some_iff.mp hf).1
      have hlen : ((G.fN k').take xs.length).length = vs.length := by rw [List.length_take, ← rs.len]; omega
      have hfe : (G.fN k')[xs.length] = f := by
        have := List.getElem?_eq_getElem hlt
        rw [this] at hf
        exact Option.some.inj hf
      have htk : (G.fN k').take (xs.length + 1) = (G.fN k').take xs.length ++ [f] := by rw [List.take_succ_eq_append_getElem hlt, hfe]
      have hnot : f ∉ (G.fN k').take xs.length := fun z => by
        have nd' := nd.sublist (List.take_sublist (xs.length + 1) (G.fN k'))
        rw [htk] at nd'
        exact (List.nodup_append.mp nd').2.2 f z f (by simp) rfl
      have hput := putF_new (v := v) hnot hlen
      refine ⟨.ref pp, eo, pp, _, dx, _, rfl, hH, cl, na, ?_, ?_⟩
      · rw [List.length_zip, hlen, Nat.min_self, ← rs.len]; omega
      · have mD : Mt (HO.ins (G.cA k') dx (((G.fN k').take xs.length).zip vs)) := And.intro (fun _ z => by cases z) (fun _ _ z => by cases z)
        have k0 : Kp X.K G H1 (av c ow) (upd H1 pp (.ins (G.cA k') dx (putF f v (((G.fN k').take xs.length).zip vs)))) (av c ow) := Kp.own (.inl (R1.lent pp el).1) hH mD
        have := R1.chgL (s' := .ini k' (xs ++ [w])) (u := .ins (G.cA k') dx (putF f v (((G.fN k').take xs.length).zip vs))) hx el hH mD fun v' hv' => by
          rw [eo] at hv'
          cases hv'
          refine ⟨z1, rfl, pp, rfl, el, dx, vs ++ [v], ?_, ?_, k0.reps (rs.snoc r1)⟩
          · rw [upd_same, hput, List.length_append, List.length_singleton, htk]
          · rw [List.length_append, List.length_singleton]; omega
        exact q _ _ ow this.1 ((Kp.of_same s1).trans this.2)
    · exact q.elim
  · exact q.elim
end
/-! ### the __init__ as a function of its arguments -/
def inI (k : Nat) (ms : List Bool) (n : Nat) (ws : List PV) : PSt := .ini k [] :: inP ms (n - 1) ws
def runI (k nf : Nat) (ms : List Bool) (n : Nat) (d : DS) (ws : List PV) : Rx PV := if ws.length = ms.length then (match d (inI k ms n ws) with
  | .nx ps => (match ps[(0 : Nat)]? with | some (.ini k' fs) => if k' = k ∧ fs.length = nf then .ok (.obj k fs) else .bad | _ => .bad)
  | .exc c => .exc c
  | _ => .bad) else .bad
def spIn (K : PySem.W.Frag) (G : Pg) (k : Nat) (ms : List Bool) (g : List PV → Rx PV) : Sp := fun vs H Q _ => ∃ (A : Av) (H1 : Hp) (ws : List PV) (x dx : Addr) (us : List V) (fs : List PV), vs = .ref x :: us ∧ H x = some (.ins (G.cA k) dx []) ∧ H1 x = none ∧ Same H1 H ∧ Used H1 A ∧ RepM K G H1 A ms ws us ∧ g ws = .ok (.obj k fs) ∧
  ∀ H' dx' vs', Same H1 H' → H' x = some (.ins (G.cA k) dx' ((G.fN k).zip vs')) → (G.fN k).length = vs'.length → Reps K G H' (fun a => A a ∨ a = x) fs vs' → Q .non H'
theorem RepF.keep {K : PySem.W.Frag} {G : Pg} {H H' : Hp} {A A' B : Av} {ps : PSt} {σ : L2.St} (R : RepF K G B H A ps σ) (k : Kp K G H A H' A') (e : ∀ p, B p → H' p = H p) : RepF K G B H' A' ps σ := by
  refine ⟨R.len, fun i s o h1 h2 => ?_⟩
  have q := R.slot i s o h1 h2
  cases s with
  | no => exact True.intro
  | v w => obtain ⟨v, e, r⟩ := q; exact ⟨v, e, k.rep r⟩
  | own x => exact q.elim
  | ino x => exact q.elim
  | ini k xs => exact q.elim
  | bor w =>
    obtain ⟨v, e1, r⟩ := q
    refine ⟨v, e1, ?_⟩
    rcases r with r | ⟨x, p, e1, e2, r, n⟩
    · exact .inl (k.rep r)
    · exact .inr ⟨x, p, e1, e2, r.keep k (e p n), n⟩
theorem RepF.cons {K : PySem.W.Frag} {G : Pg} {H : Hp} {A B : Av} {ps : PSt} {σ : L2.St} {s : Sl} {v : V} {x : Addr} (R : RepF K G B H A ps σ) (u : Used H A) (ub : ∀ a, B a → H a ≠ none ∧ a ≠ x) (hx : A x) (hs : SlAt K G ⟨H, A, B, some x⟩ H (av ⟨H, A, B, some x⟩ ow0) ow0 0 s (some v)) : RepS K G ⟨H, A, B, some x⟩ H ow0 (s :: ps) (some v :: σ) := by
  refine ⟨by simp [R.len], SmL.of (Same.refl H), (fun p e => ?_), u, (fun a z => ⟨(ub a z).1, fun e => (ub a z).2 (Option.some.inj e).symm⟩), (fun i p e => (nomatch e)), (fun i j p e => (nomatch e)), fun _ _ => rfl, fun i s' o e1 e2 => ?_⟩
  · cases e; exact ⟨hx, u x hx⟩
  · cases i with
    | zero => simp at e1 e2; subst e1; subst e2; exact hs
    | succ i =>
      have q := R.slot i s' o (by simpa using e1) (by simpa using e2)
      have k : Kp K G H A H (av ⟨H, A, B, some x⟩ ow0) := Kp.weak fun a z => av0 a z
      cases s' with
      | no => rfl
      | v w => obtain ⟨v, e, r⟩ := q; exact ⟨rfl, v, e, k.rep r⟩
      | own x => exact q.elim
      | ino x => exact q.elim
      | ini k xs => exact q.elim
      | bor w =>
        obtain ⟨v, e, r⟩ := q
        refine ⟨rfl, v, e, ?_⟩
        rcases r with r | ⟨x, p, e1, e2, r, n⟩
        · exact .inl (k.rep r)
        · exact .inr ⟨x, p, e1, e2, r.keep k rfl, n⟩
theorem start_cons {N : List Str} {v : V} {us : List V} (h : 0 < N.length) : L2.start N (v :: us) = some v :: L2.start N.tail us := by
  unfold L2.start
  cases N with
  | nil => simp at h
  | cons n N => simp
theorem fn_okI {P : Program} {w : World} {K : PySem.W.Frag} {mg : Str → Option Value} {base : Bs} {G : Pg} {x qual : Str} {st : Stmt} {f : Addr} {fd : FuncData} {N ps : List Str} {k c nf : Nat} {ms : List Bool} {d : DS} (F : Fun K x qual st f fd) (S : FnScope N ps (defScope st)) (hm : ms.length + 1 = ps.length) (hn : 0 < N.length) (hnf : (G.fN c).length = nf)
    (hb : ∀ (cdv : Value) (A : Around) (outer : List Env) (s : Shared) (H : Hp) (E : XK), Room k (A.deeper (envOfC qual (defScope st) s.heap.objs.size f cdv)) → JSs (cxOf CX0 P w K mg base N qual (defScope st) f cdv A outer s H E).nox G (defBody st) d) :
    FnOk P w K mg base CX0 (k + 1) f fd ps (spIn K G c ms (runI c nf ms N.length d)) := by
  refine F.ok S (fun vs H Q E h => ?_) (fun cdv A outer s H vs Q E hr h => ?_)
  · obtain ⟨A, H1, ws, xa, dx, us, fs, rfl, _, _, _, _, r, _⟩ := h
    rw [List.length_cons, r.len.2, hm]
  · obtain ⟨A', H1, ws, xa, dx, us, fs, rfl, hx, hx1, sm, u, r, e, q⟩ := h
    refine ⟨_, hb cdv A outer s H E hr, ?_⟩
    have hlen : N.tail.length = N.length - 1 := List.length_tail
    have F0 := in_rep (N := N.tail) r
    rw [hlen] at F0
    have nx : ∀ a, H1 a ≠ none → a ≠ xa := fun a z y => z (by rw [y]; exact hx1)
    have kp : Kp K G H1 A' H (fun a => A' a ∨ a = xa) := Kp.take hx1 sm fun a z => z.symm
    have F1 : RepF K G (fun p => H1 p ≠ none) H (fun a => A' a ∨ a = xa) (inP ms (N.length - 1) ws) (L2.start N.tail us) := F0.keep kp fun p hp => by
      cases e1 : H1 p with
      | none => exact absurd e1 hp
      | some o => exact sm _ _ e1
    have us' : Used H (fun a => A' a ∨ a = xa) := fun a z => by
      rcases z with z | z
      · cases e1 : H1 a with
        | none => exact absurd e1 (u a z)
        | some o => rw [sm _ _ e1]; simp
      · rw [z, hx]; simp
    have S0 := F1.cons (s := .ini c []) (v := .ref xa) (x := xa) us' (fun a z => ⟨by
      cases e1 : H1 a with
      | none => exact absurd e1 z
      | some o => rw [sm _ _ e1]; simp, nx a z⟩) (.inr rfl) ⟨rfl, rfl, xa, rfl, rfl, dx, [], by rw [hx]; rfl, Nat.zero_le _, rfl⟩
    rw [start_cons hn]
    refine ⟨_, ow0, inI c ms N.length ws, S0, ?_⟩
    unfold runI at e
    rw [if_pos r.len.1] at e
    cases ed : d (inI c ms N.length ws) with
    | nx ps' =>
      rw [ed] at e
      have e : (match ps'[(0 : Nat)]? with | some (.ini k' fs) => if k' = c ∧ fs.length = nf then Rx.ok (PV.obj c fs) else .bad | _ => .bad) = .ok (.obj c fs) := e
      split at e
      · rename_i k' fs' hp0
        split at e
        · rename_i hk
          cases e
          obtain ⟨rfl, hfl⟩ := hk
          intro σ' H' ow' R' _
          obtain ⟨o', eo, z1, z2, pp, e2, el, dx', vs', hH, hl, rs⟩ := R'.get hp0
          cases el
          refine q H' dx' vs' (fun a o h => ?_) ?_ ?_ ((Kp.weak fun a z => Or.inl z).reps rs)
          · exact R'.same a o (sm _ _ h) (fun z => nx a (by rw [h]; simp) (Option.some.inj z).symm)
          · rw [hH, List.take_of_length_le (by rw [hfl, hnf]; exact Nat.le_refl _)]
          · rw [hnf, ← hfl, rs.len]
        · cases e
      · cases e
    | ret w2 => rw [ed] at e; cases e
    | retn xs => rw [ed] at e; cases e
    | reti w x => rw [ed] at e; cases e
    | brk _ => rw [ed] at e; cases e
    | cnt _ => rw [ed] at e; cases e
    | bad => rw [ed] at e; cases e
    | exc _ => rw [ed] at e; cases e
/-! ### C(..) -/
structure NewI (P : Program) (w : World) (K : PySem.W.Frag) (mg : Str → Option Value) (base : Bs) (G : Pg) (k : Nat) (x : Str) (c : Nat) (ms : List Bool) (g : List PV → Rx PV) : Prop where
  glob : mg x = some (.ref (G.cA c))
  cl : Cls K (G.cA c)
  ex : ∃ (f : Addr) (fd : FuncData) (ps : List Str), Mk K (G.cA c) f ∧ FnOk P w K mg base CX0 k f fd ps (spIn K G c ms g) ∧ Binds K fd ps []
section
variable {X : Cx} {G : Pg} {e a b o tg : Expr} {es : List Expr} {da db : DP} {d : DA} {pos p : Pos} {x : Str} {k i c : Nat} {ms : List Bool} {g : List PV → Rx PV}
theorem pe_newI {t : TA} (h : NewI X.prog X.w X.K X.mg X.base G k x c ms g) (hr : Room (k + 1) X.A) (hg : Gl X x) (ha : PA X (e :: es) t) (hdb : (x == ("__debug__" : Str)) = false := by decide)
    (he : starEach (e :: es) X.env = (false, eval e X.env) :: starEach es X.env := by rfl) (hpl : (backTo pos (starEach es X.env)).any (·.1) = false := by rfl) : PE X (.Call (.Name x p) (e :: es) [] pos) (tMake (G.cA c) (spIn X.K G c ms g) [] E0 t) := by
  obtain ⟨f, fd, ps, M, F, hb⟩ := h.ex
  exact pe_make M F hr hg h.glob hb .nil pass0 ha hdb he hpl
theorem newI_of {H : Hp} {Q : VK} {cf : Fr} {ow : Ows} {ps : PSt} {σ : L2.St} {ws : List PV} {vs : List V} {fs : List PV} (R : RepS X.K G cf H ow ps σ) (r : RepM X.K G H (av cf ow) ms ws vs) (e : g ws = .ok (.obj c fs))
    (q : ∀ x dx us H', Same H H' → H x = none → H' x = some (.ins (G.cA c) dx ((G.fN c).zip us)) → (G.fN c).length = us.length → Reps X.K G H' (fun a => av cf ow a ∨ a = x) fs us → Q (.ref x) H') :
    ∀ x dx, H x = none → H dx = none → dx ≠ x → spIn X.K G c ms g (.ref x :: (vs ++ [])) (upd (upd H dx (.own x)) x (.ins (G.cA c) dx [])) (fun v H2 => v = .non ∧ Q (.ref x) H2) E0 := by
  intro x dx n1 n2 ne
  have sn : Same H (upd (upd H dx (.own x)) x (.ins (G.cA c) dx [])) := fun b o h => by rw [upd_ne (ne_of_none h n1), upd_ne (ne_of_none h n2)]; exact h
  exact ⟨av cf ow, H, ws, x, dx, vs, fs, by rw [List.append_nil], upd_same, n1, sn, R.used, r, e, fun H' dx' vs' s h1 h2 h3 => ⟨rfl, q x dx' vs' H' s n1 h1 h2 h3⟩⟩
theorem p_newI (h : NewI X.prog X.w X.K X.mg X.base G k x c ms g) (hr : Room (k + 1) X.A) (hg : Gl X x) (ha : JA X G ms (e :: es) d) (hobj : ∀ ws w, g ws = .ok w → ∃ fs, w = .obj c fs) (hdb : (x == ("__debug__" : Str)) = false := by decide)
    (he : starEach (e :: es) X.env = (false, eval e X.env) :: starEach es X.env := by rfl) (hpl : (backTo pos (starEach es X.env)).any (·.1) = false := by rfl) : JP X G (.Call (.Name x p) (e :: es) [] pos) (dCall g d) :=
  imp (pe_newI h hr hg ha hdb he hpl) fun σ H Q ⟨cf, ow, ps, w, R, e, q⟩ => by
    obtain ⟨ws, e1, e2⟩ := bind_ok e
    obtain ⟨fs, rfl⟩ := hobj ws w e2
    refine ⟨cf, ow, ps, ws, R, e1, fun vs H' s r => ?_⟩
    refine newI_of (R.grow s) r e2 fun xx dx us H2 s2 n1 h1 h2 h3 => ?_
    exact q _ H2 (s.trans s2) ⟨xx, dx, us, rfl, h1, h2, fun z => (R.grow s).used xx z n1, (Kp.weak fun a z => Or.inl z).reps h3⟩
theorem runI_obj {k nf n : Nat} {ms : List Bool} {d : DS} {ws : List PV} {w : PV} (h : runI k nf ms n d ws = .ok w) : ∃ fs, w = .obj k fs := by
  unfold runI at h
  split at h
  · split at h
    · split at h
      · split at h
        · cases h; exact ⟨_, rfl⟩
        · cases h
      · cases h
    · cases h
    · cases h
  · cases h
theorem spIn_none {P : Program} {w : World} {K : PySem.W.Frag} {mg : Str → Option Value} {base : Bs} {n : Nat} {f : Addr} {fd : FuncData} {ps : List Str} {g : List PV → Rx PV} (h : ∀ ws, g ws = .bad) : FnOk P w K mg base CX0 n f fd ps (spIn K G c ms g) :=
  fn_none fun vs H Q E ⟨A, H1, ws, x, dx, us, fs, _, _, _, _, _, _, e, _⟩ => by rw [h] at e; cases e
variable (ps : PSt)
@[simp] theorem e_ini (k j : Nat) : sIni k j da ps = match ps[(0 : Nat)]? with
  | some (.ini k' xs) => if k' = k ∧ xs.length = j then (da ps).st fun w => .nx (ps.set 0 (.ini k (xs ++ [w]))) else .bad
  | _ => .bad := rfl
@[simp] theorem e_fldI (l : List (Nat × Nat)) (i : Nat) : dFldI l i ps = match ps[i]? with
  | some (.ino (.obj k xs)) => fldP l (.obj k xs)
  | some (.own (.obj k xs)) => fldP l (.obj k xs)
  | some (.bor (.obj k xs)) => fldP l (.obj k xs)
  | some (.ini k xs) => fldP l (.obj k xs)
  | some (.v (.obj k xs)) => fldP l (.obj k xs)
  | _ => .bad := rfl
end
end DN
end
section
set_option Elab.async false
set_option linter.all false
set_option maxRecDepth 100000
set_option maxHeartbeats 4000000
namespace DN
open PySem PySem.Spec PyProof.Rows L2
/-- all but what stands at p stays -/
def SameX (p : Addr) (H H' : Hp) : Prop := ∀ a o, H a = some o → a ≠ p → H' a = some o
section
variable {K : PySem.W.Frag} {G : Pg} {H H' : Hp} {A A' : Av} {c : Fr} {ow : Ows} {ps : PSt} {σ : L2.St}
end
/-! ### defs that change the instance they are lent -/
def spO (K : PySem.W.Frag) (G : Pg) (ms : List Bool) (g : List PV → Rx PV) : Sp := fun vs H Q _ => ∃ (A : Av) (H1 : Hp) (p : Addr) (k : Nat) (xs ws : List PV) (us : List V) (w : PV) (k' : Nat) (xs' : List PV), vs = .ref p :: us ∧ A p ∧ H1 p = none ∧ Same H1 H ∧ Used H A ∧ RepO K G H A (.obj k xs) p ∧ RepM K G H1 A ms ws us ∧
  g (.obj k xs :: ws) = .ok (.tup [w, .obj k' xs']) ∧ ∀ v H', SameX p H H' → RepO K G H' A (.obj k' xs') p → Rep K G H' A w v → Q v H'
structure MtO (P : Program) (w : World) (K : PySem.W.Frag) (mg : Str → Option Value) (base : Bs) (G : Pg) (k : Nat) (m : Str) (ms : List Bool) (tab : List (Nat × Nat)) (g : Nat → List PV → Rx PV) : Prop where
  all : ∀ c f, tab.lookup c = some f → MethAt P w K mg base CX0 k (G.cA c) m (spO K G ms (g f)) ∧ m ∉ G.fN c
section
variable {X : Cx} {G : Pg} {e a b o tg : Expr} {es : List Expr} {da db : DP} {d : DA} {dm : DM} {dma : DMA} {ds du : DS} {dt : DT} {pos p apos cpos : Pos} {x m : Str} {k i : Nat} {ms : List Bool}
end
end DN
end
section
set_option Elab.async false
set_option linter.all false
set_option maxRecDepth 100000
set_option maxHeartbeats 4000000
namespace DN
open PySem PySem.Spec PyProof.Rows L2
section
variable {X : Cx} {G : Pg} {e a b o tg : Expr} {es : List Expr} {da db : DP} {d : DA} {dm : DM} {dma : DMA} {ds du : DS} {dt : DT} {pos p apos cpos : Pos} {x m : Str} {k i : Nat} {ms : List Bool}
/-! ### tests that change things -/
abbrev DTM := PSt → Rx (Bool × PSt)
def tMt (K : PySem.W.Frag) (G : Pg) (d : DTM) : TT := fun σ H Q => ∃ (c : Fr) (ow : Ows) (ps : PSt) (b : Bool) (ps' : PSt), RepS K G c H ow ps σ ∧ d ps = .ok (b, ps') ∧ ∀ H' ow', RepS K G c H' ow' ps' σ → Kp K G H (av c ow) H' (av c ow') → Q b H'
abbrev JTM (X : Cx) (G : Pg) (e : Expr) (d : DTM) : Prop := PT X e (tMt X.K G d)
def mTr (d : DM) : DTM := fun ps => (d ps).bind fun r => match r.1 with | .bl b => .ok (b, r.2) | _ => .bad
def mOfT (d : DT) : DTM := fun ps => (d ps).bind fun b => .ok (b, ps)
theorem tm_of (h : JT X G e dt) : JTM X G e (mOfT dt) := impT h fun σ H Q ⟨c, ow, ps, b, ps', R, e, q⟩ => by
  obtain ⟨b', e1, e2⟩ := bind_ok e
  cases e2
  exact ⟨c, ow, ps, b, R, e1, fun H' s => q H' ow (R.grow s) (Kp.of_same s)⟩
def mNot (d : DTM) : DTM := fun ps => (d ps).bind fun r => .ok (!r.1, r.2)
def mOr (t u : DTM) : DTM := fun ps => (t ps).bind fun r => if r.1 = true then .ok (true, r.2) else u r.2
def mAnd (t u : DTM) : DTM := fun ps => (t ps).bind fun r => if r.1 = true then u r.2 else .ok (false, r.2)
def sIfM (t : DTM) (a b : DS) : DS := fun ps => (t ps).st fun r => if r.1 = true then a r.2 else b r.2
/-! ### while, by fuel -/
def iterM (t : DTM) (body : DS) : Nat → PSt → Option Rs
  | 0, _ => none
  | n + 1, ps => match t ps with
    | .ok (true, ps1) => (match body ps1 with
      | .nx ps2 => iterM t body n ps2
      | .cnt ps2 => iterM t body n ps2
      | .brk ps2 => some (.nx ps2)
      | r => some r)
    | .ok (false, ps1) => some (.nx ps1)
    | .bad => some .bad
    | .exc c => some (.exc c)
def sWhileM (t : DTM) (body : DS) : DS := fun ps => (iterM t body 100000 ps).getD .bad
theorem s_whileM {ce : Expr} {body : List Stmt} {d1 : DTM} (hp : PassesOwn (model X.prog X.w) X.A X.env X.xe) (hc : JTM X G ce d1) (hb : JSs X G body ds) : JS X G (.While ce body [] pos) (sWhileM d1 ds) := impS (ps_while hp hc hb) fun D σ H ⟨c, ow, ps, R, q⟩ => by
  unfold sWhileM at q
  generalize (100000 : Nat) = n at q
  cases h : iterM d1 ds n ps with
  | none => rw [h] at q; exact q.elim
  | some r =>
    rw [h] at q
    have q : EndsAt X.K G c H (av c ow) D r := q
    refine ⟨fun m σ' H' => ∃ ow' ps', RepS X.K G c H' ow' ps' σ' ∧ iterM d1 ds m ps' = some r ∧ EndsAt X.K G c H' (av c ow') D r, ⟨n, ow, ps, R, h, q⟩, ?_⟩
    rintro m σ' H' ⟨ow', ps', R', h', q'⟩
    cases m with
    | zero => cases h'
    | succ m =>
      rw [iterM] at h'
      cases e : d1 ps' with
      | bad => rw [e] at h'; cases h'; exact q'.elim
      | exc c => rw [e] at h'; cases h'; exact q'.elim
      | ok r1 =>
        obtain ⟨b, p1⟩ := r1
        rw [e] at h'
        refine ⟨c, ow', ps', b, p1, R', e, fun H2 ow2 R2 k2 => ?_⟩
        cases b with
        | false =>
          cases h'
          exact iteF (q' σ' H2 ow2 R2 k2)
        | true =>
          refine iteT ⟨_, fun _ _ h => h, c, ow2, p1, R2, ?_⟩
          have q2 := q'.mono k2
          cases eb : ds p1 with
          | nx ps2 =>
            have h' : iterM d1 ds m ps2 = some r := by simpa only [eb] using h'
            exact fun σ4 H4 ow4 R4 k4 => ⟨m, Nat.lt_succ_self m, ow4, ps2, R4, h', q2.mono k4⟩
          | cnt ps2 =>
            have h' : iterM d1 ds m ps2 = some r := by simpa only [eb] using h'
            exact fun σ4 H4 ow4 R4 k4 => ⟨m, Nat.lt_succ_self m, ow4, ps2, R4, h', q2.mono k4⟩
          | brk ps2 => simp only [eb] at h'; cases h'; exact q2
          | ret w => simp only [eb] at h'; cases h'; exact q2
          | retn xs => simp only [eb] at h'; cases h'; exact q2
          | reti w x => simp only [eb] at h'; cases h'; exact q2
          | bad => simp only [eb] at h'; cases h'; exact q2
          | exc c => simp only [eb] at h'; cases h'; exact q2
/-! ### new instances: their arguments may change things; one's own ones -/
def mNew (c n : Nat) (d : DMA) : DM := fun ps => (d ps).bind fun r => if r.1.length = n then .ok (.obj c r.1, r.2) else .bad
end
end DN
end
section
set_option Elab.async false
set_option linter.all false
set_option maxRecDepth 100000
set_option maxHeartbeats 4000000
namespace DN
open PySem PySem.Spec PyProof.Rows L2
def mkS (l : List Nat) : Str := ⟨l.toArray⟩
/-- the first place of y in l -/
def fst1 (y : List Nat) : List Nat → List Nat → Option (List Nat × List Nat)
  | _, [] => none
  | cur, c :: l => if y.isPrefixOf (c :: l) = true then some (cur.reverse, (c :: l).drop y.length) else fst1 y (c :: cur) l
section
open PySem.StrLaws PySem.Builtin PySem.Builtin.Str
theorem at_iff {x y : Str} {i : Nat} (hw : 1 ≤ y.length) (hi : i ≤ x.length) : At x y x.length i ↔ y.cps.toList.isPrefixOf (x.cps.toList.drop i) = true := by
  have hl : x.length = x.cps.toList.length := by simp [Str.length]
  have hy : y.length = y.cps.toList.length := by simp [Str.length]
  unfold At
  rw [subAt_eq, List.isPrefixOf_iff_prefix, List.prefix_iff_eq_take]
  constructor
  · rintro ⟨h1, h2⟩
    rw [← hy]
    simpa using (beq_iff_eq.mp h2).symm
  · intro h
    rw [← hy] at h
    refine ⟨?_, by rw [← h]; simp⟩
    have := congrArg List.length h
    rw [← hy, List.length_take, List.length_drop] at this
    omega
end
section
variable {X : Cx} {G : Pg} {e a b o tg : Expr} {es : List Expr} {da db : DP} {d : DA} {pos p apos cpos : Pos} {x m : Str} {k i : Nat} {ms : List Bool}
def goodSep (y : Str) : Bool := y.cps.all (· < 256) && decide (1 ≤ y.cps.toList.length)
theorem goodSep_ok {y : Str} (h : goodSep y = true) : 1 ≤ y.length ∧ Builtin.Str.strKind y = 1 ∧ (y.length == 0) = false := by
  unfold goodSep at h
  rw [Bool.and_eq_true, decide_eq_true_iff] at h
  have h1 : 1 ≤ y.length := by have := h.2; simp [Str.length] at this ⊢; omega
  refine ⟨h1, by unfold Builtin.Str.strKind; rw [if_pos h.1], ?_⟩
  rw [beq_eq_false_iff_ne]; omega
open PySem.StrLaws PySem.Builtin PySem.Builtin.Str in
theorem fst1_none {x y : Str} (hw : 1 ≤ y.length) : ∀ (n i : Nat) (cur : List Nat), i + n = x.length → (∀ k, i ≤ k → ¬ At x y x.length k) → fst1 y.cps.toList cur (x.cps.toList.drop i) = none
  | 0, i, cur, h, hn => by
    have hl : x.length = x.cps.toList.length := by simp [Str.length]
    rw [List.drop_of_length_le (i := i) (by omega)]
    rfl
  | n + 1, i, cur, h, hn => by
    have hl : x.length = x.cps.toList.length := by simp [Str.length]
    have hi : i < x.cps.toList.length := by omega
    have h0 := hn i (Nat.le_refl _)
    rw [at_iff hw (by omega)] at h0
    rw [List.drop_eq_getElem_cons hi] at h0 ⊢
    unfold fst1
    rw [if_neg h0]
    exact fst1_none hw n (i + 1) _ (by omega) fun k hk => hn k (by omega)
open PySem.StrLaws PySem.Builtin PySem.Builtin.Str in
theorem fst1_at {x y : Str} (hw : 1 ≤ y.length) : ∀ (n i : Nat), At x y x.length (i + n) → (∀ k, i ≤ k → k < i + n → ¬ At x y x.length k) → fst1 y.cps.toList (x.cps.toList.take i).reverse (x.cps.toList.drop i) = some (x.cps.toList.take (i + n), x.cps.toList.drop (i + n + y.length))
  | 0, i, h1, hn => by
    have hl : x.length = x.cps.toList.length := by simp [Str.length]
    have hy : y.length = y.cps.toList.length := by simp [Str.length]
    have hi : i < x.cps.toList.length := by have := h1.1; omega
    rw [Nat.add_zero] at h1 ⊢
    rw [at_iff hw (by omega)] at h1
    rw [List.drop_eq_getElem_cons hi] at h1 ⊢
    unfold fst1
    rw [if_pos h1, List.reverse_reverse, ← List.drop_eq_getElem_cons hi, List.drop_drop, ← hy]
  | n + 1, i, h1, hn => by
    have hl : x.length = x.cps.toList.length := by simp [Str.length]
    have hi : i < x.cps.toList.length := by have := h1.1; omega
    have h0 := hn i (Nat.le_refl _) (by omega)
    rw [at_iff hw (by omega)] at h0
    rw [List.drop_eq_getElem_cons hi] at h0 ⊢
    unfold fst1
    rw [if_neg h0]
    have := fst1_at hw n (i + 1) (by rw [show i + 1 + n = i + (n + 1) from by omega]; exact h1) fun k hk hk2 => hn k (by omega) (by omega)
    rw [show i + 1 + n = i + (n + 1) from by omega] at this
    rw [← this, List.take_succ, List.reverse_append, List.getElem?_eq_getElem hi]
    rfl
def part (x y : Str) : Str × Str × Str := match fst1 y.cps.toList [] x.cps.toList with
  | some (p, r) => (mkS p, y, mkS r)
  | none => (x, ⟨#[]⟩, ⟨#[]⟩)
end
section
variable {P : Program} {w : World} {K : PySem.W.Frag} {mg : Str → Option Value} {base : Bs} {G : Pg} {n : Nat} {m : Str} {ms : List Bool}
end
end DN
end
section
set_option Elab.async false
set_option linter.all false
set_option maxRecDepth 100000
set_option maxHeartbeats 4000000
namespace DN
open PySem PySem.Spec PyProof.Rows L2
@[simp] theorem pv_lst (xs : List PV) : (Ow.lst xs).pv = .lst xs := rfl
@[simp] theorem pv_objO (k : Nat) (xs : List PV) : (Ow.obj k xs).pv = .obj k xs := rfl
@[simp] theorem pv_dic (ks : List Key) (xs : List PV) : (Ow.dic ks xs).pv = .dic ks xs := rfl
end DN
end
section
set_option Elab.async false
set_option linter.all false
set_option maxRecDepth 100000
set_option maxHeartbeats 4000000
namespace DN
open PySem PySem.Spec PyProof.Rows L2
/-! ### functions as values: their promise -/
def spC (K : PySem.W.Frag) (G : Pg) (np : Nat) (g : List PV → Rx PV) : SpN := fun vs cv H Q _ => ∃ A ws cw w, Used H A ∧ RepM K G H A (List.replicate np false) ws vs ∧ Reps K G H A cw cv ∧ g (ws ++ cw) = .ok w ∧ ∀ v H', Same H H' → Rep K G H' A w v → Q v H'
section
variable {P : Program} {w : World} {K : PySem.W.Frag} {mg : Str → Option Value} {base : Bs} {G : Pg} {H : Hp} {A : Av}
theorem RepM.more {cw : List PV} {cv : List V} : ∀ {n : Nat} {ws : List PV} {vs : List V}, RepM K G H A (List.replicate n false) ws vs → Reps K G H A cw cv → RepM K G H A (List.replicate (n + cw.length) false) (ws ++ cw) (vs ++ cv)
  | 0, ws, vs, h, r => by
    obtain ⟨rfl, rfl⟩ := h
    rw [Nat.zero_add]
    exact go r
  | n + 1, ws, vs, h, r => by
    obtain ⟨w, wr, v, vr, rfl, rfl, r1, rr⟩ := h
    rw [Nat.add_right_comm]
    exact ⟨w, wr ++ cw, v, vr ++ cv, rfl, rfl, r1, RepM.more rr r⟩
where go : ∀ {cw : List PV} {cv : List V}, Reps K G H A cw cv → RepM K G H A (List.replicate cw.length false) cw cv
  | [], cv, h => ⟨rfl, h⟩
  | w :: cw, cv, h => by
    obtain ⟨v, r, rfl, r1, r2⟩ := h
    exact ⟨w, cw, v, r, rfl, rfl, by rw [if_neg Bool.false_ne_true]; exact r1, go r2⟩
/-- a lambda -/
def runE (ms : List Bool) (n : Nat) (d : DP) (ws : List PV) : Rx PV := if ws.length = ms.length then d (inP ms n ws) else .bad
theorem runE_of {ms : List Bool} {n : Nat} {d : DP} {ws : List PV} (h : ws.length = ms.length) : runE ms n d ws = d (inP ms n ws) := if_pos h
theorem clo_okE {n : Nst} {body : Expr} {N ps : List Str} {k np : Nat} {d : DP} (hb : n.body = .expr body) (S : NScope N ps n.free n.scope) (hm : np = ps.length)
    (hbind : ∀ (nm qual : Str) (cl : List (Str × Addr)) (doc pm cdv ct : Value) (us : List Value), us.length = ps.length → bindArgs (fnY n nm qual cl doc pm cdv ct) ⟨us, []⟩ = pure (ps.zip us))
    (hj : ∀ (qual : Str) (cd : Value) (cl : List (Str × Addr)) (f : Addr) (A : Around) (outer : List Env) (s : Shared) (H : Hp) (E : XK), Room k (A.deeper (PySem.W.envX qual n.scope s.heap.objs.size f cd cl)) → JP (cxN CX0 P w K mg base N qual n.scope f cd cl A outer s H E).nox G body d) :
    ClOk P w K mg base CX0 (k + 1) n (spC K G np (runE (List.replicate (np + n.free.length) false) N.length d)) := by
  refine clo_ofE hb S (fun vs cv H Q E ⟨A, ws, cw, w, u, r, _⟩ => by rw [r.len.2, List.length_replicate, hm]) hbind (fun qual cd cl f A outer s H vs cv Q E hr hce h => ?_)
  obtain ⟨A', ws, cw, w', u, r, rc, e, q⟩ := h
  refine ⟨_, (hj qual cd cl f A outer s H E hr).nox, ?_⟩
  have hl : n.free.length = cw.length := by rw [hce.len]; exact rc.len.symm
  have r2 := r.more rc
  have F0 := in_rep (N := N) r2
  have S0 := F0.toS u fun a z => z
  unfold runE at e
  rw [hl, if_pos r2.len.1] at e
  exact ⟨_, ow0, inP (List.replicate (np + cw.length) false) N.length (ws ++ cw), w', S0, e, fun v H' s r => q v H' s ((Kp.weak fun a z => Or.inl z).rep r)⟩
theorem clo_none {n : Nst} {k np : Nat} {g : List PV → Rx PV} (h : ∀ ws, g ws = .bad) : ClOk P w K mg base CX0 k n (spC K G np g) :=
  ⟨fun A outer s H q cl us vs cv Q E _ _ _ _ _ ⟨_, ws, cw, w, _, _, _, e, _⟩ => by rw [h] at e; cases e⟩
/-- all of them: their numbers, how many arguments each has -/
structure ClAll (P : Program) (w : World) (K : PySem.W.Frag) (mg : Str → Option Value) (base : Bs) (G : Pg) (k : Nat) (tab : List (Nat × Nat)) (g : Nat → List PV → Rx PV) : Prop where
  all : ∀ f np, tab.lookup f = some np → ClOk P w K mg base CX0 k (G.nF f) (spC K G np (g f))
theorem ca_nil {k : Nat} {g : Nat → List PV → Rx PV} : ClAll P w K mg base G k [] g := ⟨fun f np h => by simp at h⟩
theorem ca_cons {k f np : Nat} {tab : List (Nat × Nat)} {g : Nat → List PV → Rx PV} (h : ClOk P w K mg base CX0 k (G.nF f) (spC K G np (g f))) (r : ClAll P w K mg base G k tab g) : ClAll P w K mg base G k ((f, np) :: tab) g :=
  ⟨fun f' np' e => by
    rcases look_cons e with ⟨rfl, rfl⟩ | e
    · exact h
    · exact r.all f' np' e⟩
end
section
variable {X : Cx} {G : Pg} {e a b o : Expr} {es : List Expr} {da db : DP} {d : DA} {ds : DS} {pos p apos : Pos} {x m : Str} {k i : Nat} {ms : List Bool} {tab : List (Nat × Nat)} {g : Nat → List PV → Rx PV}
/-- a function that is held is called -/
def appC (tab : List (Nat × Nat)) (g : Nat → List PV → Rx PV) (x : PV) (m : Rx (List PV)) : Rx PV := match x with
  | .clo f cw => (match tab.lookup f with | some np => m.bind fun ws => if ws.length = np then g f (ws ++ cw) else .bad | none => .bad)
  | _ => .bad
theorem appC_ok {x : PV} {m : Rx (List PV)} {w : PV} (h : appC tab g x m = .ok w) : ∃ f cw np ws, x = .clo f cw ∧ tab.lookup f = some np ∧ m = .ok ws ∧ ws.length = np ∧ g f (ws ++ cw) = .ok w := by
  unfold appC at h
  split at h
  · rename_i f cw
    split at h
    · rename_i np hnp
      obtain ⟨ws, e1, h⟩ := bind_ok h
      split at h
      · rename_i hl; exact ⟨f, cw, np, ws, rfl, hnp, e1, hl, h⟩
      · cases h
    · cases h
  · cases h
theorem rep_false {K : PySem.W.Frag} {H : Hp} {A : Av} : ∀ {ms : List Bool} {ws : List PV} {vs : List V}, ms.all (! ·) = true → RepM K G H A ms ws vs → RepM K G H A (List.replicate ws.length false) ws vs
  | [], ws, vs, _, h => by obtain ⟨rfl, rfl⟩ := h; exact ⟨rfl, rfl⟩
  | m :: ms, ws, vs, hm, h => by
    obtain ⟨w, wr, v, vr, rfl, rfl, r, rr⟩ := h
    rw [List.all_cons, Bool.and_eq_true] at hm
    cases m with
    | true => simp at hm
    | false => exact ⟨w, wr, v, vr, rfl, rfl, r, rep_false hm.2 rr⟩
theorem callV_of (h : ClAll X.prog X.w X.K X.mg X.base G k tab g) (hms : ms.all (! ·) = true) {c : Fr} {ow : Ows} {ps : PSt} {σ : L2.St} {H H1 : Hp} {Q : VK} {y w : PV} {u : V} (R : RepS X.K G c H ow ps σ) (s1 : Same H H1) (ry : Rep X.K G H1 (av c ow) y u)
    (e : appC tab g y (d ps) = .ok w) (q : ∀ v H', Same H H' → Rep X.K G H' (av c ow) w v → Q v H') :
    tCallV (ι := { q : Nat × Nat // tab.lookup q.1 = some q.2 }) (fun i => G.nF i.1.1) (fun i => spC X.K G i.1.2 (g i.1.1)) E0 (tPa X.K G ms d) σ H1 u Q := by
  obtain ⟨f, cw, np, ws, rfl, ht, e1, hl, e2⟩ := appC_ok e
  obtain ⟨qa, cl, cv, rfl, hc, hce, rc⟩ := ry
  refine ⟨⟨(f, np), ht⟩, qa, cl, cv, rfl, hc, c, ow, ps, ws, R.grow s1, e1, fun vs H2 s2 r => ⟨hc.keep fun a o u z => s2 _ _ z, hce.keep fun a o u z => s2 _ _ z, _, ws, cw, w, (R.grow (s1.trans s2)).used, ?_, rc.same s2, e2, fun v H' s r2 => q v H' ((s1.trans s2).trans s) r2⟩⟩
  have := rep_false hms r
  rw [hl] at this
  exact this
/-- x(..) -/
def dCallV (tab : List (Nat × Nat)) (g : Nat → List PV → Rx PV) (a : DP) (d : DA) : DP := fun ps => (a ps).bind fun y => appC tab g y (d ps)
theorem p_callV (hf : JP X G (.Name x p) da) (h : ClAll X.prog X.w X.K X.mg X.base G k tab g) (hr : Room k X.A) (ha : JA X G ms (e :: es) d) (hms : ms.all (! ·) = true := by rfl)
    (hst : starEach (e :: es) X.env = (false, eval e X.env) :: starEach es X.env := by rfl) (hpl : (backTo pos (starEach es X.env)).any (·.1) = false := by rfl) :
    JP X G (.Call (.Name x p) (e :: es) [] pos) (dCallV tab g da d) :=
  imp (pe_callV (ι := { q : Nat × Nat // tab.lookup q.1 = some q.2 }) (E := E0) hf (fun i => h.all i.1.1 i.1.2 i.2) hr pass0 ha hst hpl) fun σ H Q ⟨c, ow, ps, w, R, e, q⟩ => by
    obtain ⟨y, e1, e2⟩ := bind_ok e
    exact ⟨c, ow, ps, y, R, e1, fun u H1 s1 ry => callV_of h hms R s1 ry e2 q⟩
/-- o.m(..), m an attribute -/
def dCallA (tab : List (Nat × Nat)) (g : Nat → List PV → Rx PV) (l : List (Nat × Nat)) (a : DP) (d : DA) : DP := fun ps => (a ps).bind fun x => (fldP l x).bind fun y => appC tab g y (d ps)
theorem p_callA {l : List (Nat × Nat)} {pl : Sem Bool} (ok : FldOk X.K G m l) (ho : JP X G o da) (h : ClAll X.prog X.w X.K X.mg X.base G k tab g) (hr : Room k X.A) (ha : JA X G ms (e :: es) d) (hms : ms.all (! ·) = true := by rfl)
    (hst : starEach (e :: es) X.env = (false, eval e X.env) :: starEach es X.env := by rfl) (hpl : (backTo pos (starEach es X.env)).any (·.1) = false := by rfl)
    (ht : eval (.Call (.Attribute o m apos) (e :: es) [] pos) X.env = (do
      let ov ← eval o X.env
      standAt apos.atName
      let (f, first) ← holding [ov] (getMethod ov m pl)
      callWith pos f first (backTo pos (starEach (e :: es) X.env)) (backToKw pos (keywordEach [] X.env))) := by rfl) :
    JP X G (.Call (.Attribute o m apos) (e :: es) [] pos) (dCallA tab g l da d) :=
  imp (pe_callA (ι := { q : Nat × Nat // tab.lookup q.1 = some q.2 }) (E := E0) (pl := pl) ho (fun i => h.all i.1.1 i.1.2 i.2) hr pass0 ha hst hpl ht) fun σ H Q ⟨c, ow, ps, w, R, e, q⟩ => by
    obtain ⟨y, e1, e2⟩ := bind_ok e
    obtain ⟨z, e2, e3⟩ := bind_ok e2
    refine ⟨c, ow, ps, y, R, e1, fun u H1 s1 ry => ?_⟩
    unfold fldP at e2
    split at e2
    · rename_i kk xs _
      split at e2
      · rename_i j hj
        split at e2
        · rename_i w' hw
          cases e2
          obtain ⟨a, dx, vs, rfl, hH, hl, na, rs⟩ := ry
          obtain ⟨c1, c2, c3, c4⟩ := ok.all kk j hj
          obtain ⟨v, hv, rv⟩ := rs.get hw
          exact ⟨a, _, dx, _, v, rfl, hH, c1, c2, zip_lookup c3 c4 hv, callV_of h hms R s1 rv e3 q⟩
        · cases e2
      · cases e2
    · cases e2
/-! ### a function is made -/
def capV (js : List Nat) (ps : PSt) : Rx (List PV) := match js with
  | [] => .ok []
  | j :: js => match ps[j]? with
    | some (.v w) => (capV js ps).bind fun ws => .ok (w :: ws)
    | _ => .bad
theorem capV_ok {K : PySem.W.Frag} {c : Fr} {H : Hp} {ow : Ows} {ps : PSt} {σ : L2.St} (R : RepS K G c H ow ps σ) : ∀ {js : List Nat} {ws : List PV}, capV js ps = .ok ws → ∃ cv, Held σ js cv ∧ Reps K G H (av c ow) ws cv
  | [], ws, h => by cases h; exact ⟨[], ⟨rfl, fun i j v e => by simp at e⟩, rfl⟩
  | j :: js, ws, h => by
    unfold capV at h
    split at h
    · rename_i w hw
      obtain ⟨us, e1, e2⟩ := bind_ok h
      cases e2
      obtain ⟨v, e3, r⟩ := R.getV hw
      obtain ⟨cv, ⟨l, hh⟩, rs⟩ := capV_ok R e1
      refine ⟨v :: cv, ⟨by simp [l], fun i j' v' a1 a2 => ?_⟩, v, cv, rfl, r, rs⟩
      cases i with
      | zero => simp at a1 a2; subst a1 a2; exact e3
      | succ i => exact hh i j' v' (by simpa using a1) (by simpa using a2)
    · cases h
theorem mk_of {f : Nat} {js : List Nat} {ps : PSt} {c : Fr} {ow : Ows} {σ : L2.St} {H : Hp} {Q : VK} {ws : List PV} (R : RepS X.K G c H ow ps σ) (e : capV js ps = .ok ws) (q : ∀ v H', Same H H' → Rep X.K G H' (av c ow) (.clo f ws) v → Q v H') : tMk (G.nF f) js σ H Q := by
  obtain ⟨cv, hh, rs⟩ := capV_ok R e
  exact ⟨cv, hh, fun qa cl H' s hn hc hce => q _ H' s ⟨qa, cl, cv, rfl, hc, hce, rs.same s⟩⟩
def dLam (f : Nat) (js : List Nat) : DP := fun ps => (capV js ps).bind fun ws => .ok (.clo f ws)
theorem p_lam {c P : Addr} {params : Arguments} {body : Expr} {scope : Scope} {fr : List Str} {js : List Nat} (f : Nat) (hn : G.nF f = ⟨params, .expr body, scope, fr⟩) (mk : MkX X c P) (T : Takes X ⟨params, .expr body, scope, fr⟩ js) (hdef : defaultsOf params X.env = ([], []) := by rfl) :
    JP X G (.Lambda params body scope pos) (dLam f js) := imp (pe_lam mk T hdef) fun σ H Q ⟨c, ow, ps, w, R, e, q⟩ => by
  obtain ⟨ws, e1, e2⟩ := bind_ok e
  cases e2
  rw [← hn]
  exact mk_of R e1 q
def sDef (i f : Nat) (js : List Nat) : DS := fun ps => (capV js ps).st fun ws => .nx (ps.set i (.v (.clo f ws)))
/-! ### from here on the names that are taken are stored to no more -/
def sSeal (d : DS) : DS := fun ps => match d ps with | .ret w => .ret w | .exc c => .exc c | _ => .bad
abbrev sealX (X : Cx) (S : List Str) : Cx := { X with fn := fun x => X.fn x && !S.contains x }
theorem ss_seal {ss : List Stmt} (S : List Str) (h : JSs (sealX X S) G ss ds) : JSs X G ss (sSeal ds) := fun pins s σ H D I ⟨c, ow, ps, R, q⟩ => by
  have I' : Inv (sealX X S) pins σ H s := ⟨⟨I.ok.mod, I.ok.kind, I.ok.glob, I.ok.blt, I.ok.above, I.ok.inj, I.ok.has, I.ok.cab, I.ok.hd, I.ok.frames, I.ok.stk, I.ok.exf, I.ok.bs, I.ok.bsz, I.ok.noex, I.ok.exfs, I.ok.funs, I.ok.frf, I.ok.tab, fun x z => I.ok.fc x (by
    have z : (X.fn x && !S.contains x) = true := z
    rw [Bool.and_eq_true] at z; exact z.1)⟩, I.os, I.bare, I.base, I.loc, I.cell, I.free, fun x c e => (I.freeC x c e).imp id fun ⟨z, r⟩ => ⟨by show (X.fn x && !S.contains x) = false; rw [z]; rfl, r⟩, I.pin, I.hok, I.len⟩
  have key := h pins s σ H { nx := fun _ _ => False, rt := D.rt, bk := fun _ _ => False, ct := fun _ _ => False } I' ⟨c, ow, ps, R, by
    unfold sSeal at q
    cases e : ds ps with
    | ret w => rw [e] at q; exact q
    | nx _ => rw [e] at q; exact q.elim
    | retn _ => rw [e] at q; exact q.elim
    | reti _ _ => rw [e] at q; exact q.elim
    | brk _ => rw [e] at q; exact q.elim
    | cnt _ => rw [e] at q; exact q.elim
    | bad => rw [e] at q; exact q.elim
    | exc _ => rw [e] at q; exact q⟩
  refine wpAny_mono key (fun f s1 hf => ?_) fun e s1 z => z
  cases f with
  | next => obtain ⟨_, _, _, z⟩ := hf; exact z.elim
  | brk => obtain ⟨_, _, _, z⟩ := hf; exact z.elim
  | cont => obtain ⟨_, _, _, z⟩ := hf; exact z.elim
  | ret u => obtain ⟨v, H', J, r, z⟩ := hf; exact ⟨v, H', ⟨J.os, J.bare, J.base, J.hok⟩, r, z⟩
theorem takes_mk {n : Nst} {js : List Nat} (hl : n.free.length = js.length) (h : ((n.free.zip js).all fun q => (match X.N[q.2]? with | some y => y == q.1 | none => false) && (match X.env.kindOf q.1 with | some k => k == .cell | none => false) && !X.fn q.1 && X.cw q.1 && n.scope.names.contains (q.1, NameKind.free)) = true)
    (ha : (n.scope.names.all fun y => y.2 != .free || n.free.contains y.1) = true) : Takes X n js := by
  refine ⟨hl, fun i x j e1 e2 => ?_, fun y hy hk => ?_⟩
  · have hm : (x, j) ∈ n.free.zip js := List.mem_of_getElem? (i := i) (by rw [List.getElem?_zip_eq_some]; exact ⟨e1, e2⟩)
    have := List.all_eq_true.mp h _ hm
    simp only [Bool.and_eq_true] at this
    obtain ⟨⟨⟨⟨a1, a2⟩, a3⟩, a4⟩, a5⟩ := this
    refine ⟨?_, ?_, by simpa using a3, a4, by simpa using a5⟩
    · split at a1
      · rename_i y hy
        have : y = x := by simpa using a1
        rw [hy, this]
      · cases a1
    · split at a2
      · rename_i k hk
        have : k = .cell := by simpa using a2
        rw [hk, this]
      · cases a2
  · have := List.all_eq_true.mp ha y hy
    rw [hk] at this
    simpa using this
end
/-! ### a def that makes functions: its code object is known -/
structure FunT (K : PySem.W.Frag) (fd : FuncData) (c P : Addr) (ts : List Addr) : Prop where
  code : fd.code = .ref c
  hd : PySem.W.codeHdIn K c P = true
  tab : P ∈ ts
section
variable {P : Program} {w : World} {K : PySem.W.Frag} {mg : Str → Option Value} {base : Bs} {G : Pg}
theorem fn_okT {x qual : Str} {st : Stmt} {f : Addr} {fd : FuncData} {N ps : List Str} {k : Nat} {ms : List Bool} {d : DS} {c Pt : Addr} (F : Fun K x qual st f fd) (FT : FunT K fd c Pt base.tabs) (S : FnScope N ps (defScope st)) (hm : ms.length = ps.length)
    (hb : ∀ (A : Around) (outer : List Env) (s : Shared) (H : Hp) (E : XK), Room k (A.deeper (envOfC qual (defScope st) s.heap.objs.size f (.ref c))) → MkX (cxOf CX0 P w K mg base N qual (defScope st) f (.ref c) A outer s H E).nox c Pt → JSs (cxOf CX0 P w K mg base N qual (defScope st) f (.ref c) A outer s H E).nox G (defBody st) d) :
    FnOk P w K mg base CX0 (k + 1) f fd ps (spG K G ms (runD ms N.length d)) := by
  obtain ⟨oc, od, kV, doc, pm, an, cdv, ct, osl, rfl, lk, hcd⟩ := F.ex
  obtain rfl : cdv = Value.ref c := FT.code
  have F' : Fun K x qual st f (PySem.W.fnOf x qual (defArgs st) (defBody st) (defScope st) .none kV doc pm an (.ref c) ct) := F
  refine fn_of lk hcd S (fun vs H Q E h => ?_) (fun A outer s H vs Q E hr h => ?_)
  · obtain ⟨A, ws, w, u, r, _⟩ := h
    rw [r.len.2, hm]
  · obtain ⟨A', ws, w', u, r, e, q⟩ := h
    refine ⟨_, (hb A outer s H E hr ⟨rfl, FT.hd, FT.tab⟩).nox, ?_⟩
    have F0 := in_rep (N := N) r
    have S0 := F0.toS u fun a z => z
    refine ⟨_, ow0, inP ms N.length ws, S0, ?_⟩
    unfold runD at e
    rw [if_pos r.len.1] at e
    cases ed : d (inP ms N.length ws) with
    | nx ps' => rw [ed] at e; cases e; exact fun σ' H' ow' R' _ => q .non H' (R'.same.same rfl) rfl
    | ret w2 => rw [ed] at e; cases e; exact fun v H' s r => q v H' (s.same rfl) r
    | reti w x => rw [ed] at e; cases e
    | retn xs => rw [ed] at e; cases e; exact fun p vs H' s hp hv r => q (.ref p) H' (s.same rfl) ⟨p, vs, rfl, .inl ⟨hv, fun z => u p z hp⟩, (Kp.weak fun a z => Or.inl z).reps r⟩
    | brk _ => rw [ed] at e; cases e
    | cnt _ => rw [ed] at e; cases e
    | bad => rw [ed] at e; cases e
    | exc _ => rw [ed] at e; cases e
end
/-! ### equations -/
section
variable (ps : PSt) (a : DP) (d : DA) (tab l : List (Nat × Nat)) (g : Nat → List PV → Rx PV)
@[simp] theorem e_callV : dCallV tab g a d ps = (a ps).bind fun y => appC tab g y (d ps) := rfl
@[simp] theorem e_callA : dCallA tab g l a d ps = (a ps).bind fun x => (fldP l x).bind fun y => appC tab g y (d ps) := rfl
@[simp] theorem e_lam (f : Nat) (js : List Nat) : dLam f js ps = (capV js ps).bind fun ws => .ok (.clo f ws) := rfl
@[simp] theorem e_def (i f : Nat) (js : List Nat) : sDef i f js ps = (capV js ps).st fun ws => .nx (ps.set i (.v (.clo f ws))) := rfl
@[simp] theorem e_seal (s : DS) : sSeal s ps = match s ps with | .ret w => .ret w | .exc c => .exc c | _ => .bad := rfl
@[simp] theorem e_capnil : capV [] ps = .ok [] := rfl
@[simp] theorem e_capcons (j : Nat) (js : List Nat) : capV (j :: js) ps = match ps[j]? with | some (.v w) => (capV js ps).bind fun ws => .ok (w :: ws) | _ => .bad := rfl
end
/-! ### where they are written -/
instance : Inhabited Nst := ⟨⟨{ posonlyargs := [], args := [], vararg := none, kwonlyargs := [], kw_defaults := [], kwarg := none, defaults := [] }, .stmts [], { kind := .function, names := [], isGenerator := false, isCoroutine := false }, []⟩⟩
def lamOf (fr : List Str) (e : Expr) : Nst := match e with
  | .Lambda a b sc _ => ⟨a, .expr b, sc, fr⟩
  | _ => default
def noE : Expr := .Constant .none 0 ⟨0, 0, 0, 0⟩
def noS : Stmt := .Pass ⟨0, 0, 0, 0⟩
def inBody (j : Nat) (s : Stmt) : Stmt := (defBody s).getD j noS
def retOf (s : Stmt) : Expr := match s with | .Return (some e) _ => e | _ => noE
def asgOf (s : Stmt) : Expr := match s with | .Assign _ e _ => e | _ => noE
def argOf (j : Nat) (e : Expr) : Expr := match e with | .Call _ es _ _ => es.getD j noE | _ => noE
def nstE (n : Nst) : Expr := match n.body with | .expr e => e | _ => noE
/-- a def that makes functions, as it stands behind the top -/
def FnT (K : PySem.W.Frag) (f : Addr) (x qual : Str) (st : Stmt) (ts : List Addr) : Prop := ∃ fd c P, Fun K x qual st f fd ∧ FunT K fd c P ts
theorem fnt_mk {K : PySem.W.Frag} {x qual : Str} {st : Stmt} {f c P : Addr} {oc o1 : Value} {od an d1 : Option Addr} {osl s1 : Array (Option Value)} {kV doc pm ct : Value} {vs : Array Value} {ts : List Addr}
    (l : K.lookup f = some ⟨oc, od, .func (PySem.W.fnOf x qual (defArgs st) (defBody st) (defScope st) .none kV doc pm an (.ref c) ct), osl⟩) (i : PySem.W.codeIn K (.ref c) qual = true) (k : PySem.W.keepIn K (.ref f) = true)
    (cl : K.lookup c = some ⟨o1, d1, .fields vs, s1⟩) (cp : vs[11]? = some (.ref P)) (ch : PySem.W.codeHdIn K c P = true) (ct : P ∈ ts) : FnT K f x qual st ts := ⟨_, c, P, fun_mk l i k, rfl, ch, ct⟩
def tabsOk (K : PySem.W.Frag) (ts : List Addr) : Bool := ts.all fun P => (K.lookup P).isNone && K.any fun q => PySem.W.codeHdIn K q.1 P
theorem km_ok {K : Params → PySem.W.Frag} {as : List Addr} {e : ∀ P, as = (K P).map (·.1)} {ts : List Addr} {w : World} {h : Heap} (Y : (PySem.W.kmHook K as e ts).says w h) (hc : tabsOk (K w.params) ts = true) :
    ∀ P ∈ ts, h.get? P = some (PySem.W.tabObj #[]) ∧ isCodeTable h P ∧ (K w.params).lookup P = none := fun P hP => by
  have h1 := PySem.W.km_tabs_of Y P hP
  have h2 := List.all_eq_true.mp hc P hP
  rw [Bool.and_eq_true] at h2
  obtain ⟨h3, h4⟩ := h2
  obtain ⟨q, _, h5⟩ := List.any_eq_true.mp h4
  exact ⟨h1, ((PySem.W.codeHd_of_K (PySem.W.km_in_of Y) h5).tab h1).isCodeTable, by simpa using h3⟩
end DN
end
section
set_option Elab.async false
set_option linter.all false
set_option maxRecDepth 100000
set_option maxHeartbeats 4000000
namespace L2
open PySem PySem.Spec PyProof.Rows
end L2
namespace DN
open PySem PySem.Spec PyProof.Rows L2
section
variable {X : Cx} {G : Pg} {e a b o tg : Expr} {es : List Expr} {body : List Stmt} {da db : DP} {d : DA} {ds : DS} {pos p apos cpos : Pos} {x m : Str} {k i : Nat} {ms : List Bool}
/-! ### sep.join(xs), x.find(y) -/
def strsOf : List PV → Option (List Str)
  | [] => some []
  | .str x :: r => (strsOf r).map (x :: ·)
  | _ => none
theorem strsOf_ok {K : PySem.W.Frag} {H : Hp} {A : Av} : ∀ {ws : List PV} {vs : List V} {ts : List Str}, strsOf ws = some ts → Reps K G H A ws vs → vs = ts.map V.str
  | [], vs, ts, h, r => by cases h; exact r
  | .str x :: ws, vs, ts, h, r => by
    obtain ⟨v, vr, rfl, r1, r2⟩ := r
    cases e : strsOf ws with
    | none => simp [strsOf, e] at h
    | some us =>
      simp [strsOf, e] at h
      subst h
      obtain rfl : v = V.str x := r1
      rw [strsOf_ok e r2]; rfl
  | .non :: _, _, _, h, _ => by cases h
  | .bl _ :: _, _, _, h, _ => by cases h
  | .int _ :: _, _, _, h, _ => by cases h
  | .tup _ :: _, _, _, h, _ => by cases h
  | .lst _ :: _, _, _, h, _ => by cases h
  | .obj _ _ :: _, _, _, h, _ => by cases h
  | .dic _ _ :: _, _, _, h, _ => by cases h
  | .clo _ _ :: _, _, _, h, _ => by cases h
theorem strs_vals : ∀ {ts : List Str} {its : List Value}, Vals (ts.map V.str) its → ∃ l : List (Str × Tok), its = strValues l ∧ l.map (·.1) = ts
  | [], its, h => by cases h; exact ⟨[], rfl, rfl⟩
  | t :: ts, its, h => by
    cases h with
    | cons r rest =>
      obtain ⟨tk, rfl⟩ := r
      obtain ⟨l, rfl, e⟩ := strs_vals rest
      exact ⟨(t, tk) :: l, rfl, by simp [e]⟩
theorem mt_join : MtR X "str.join" (fun x xs H Q => ∃ z a ts, x = .str z ∧ xs = [.ref a] ∧ SqL X.K H a (ts.map V.str) ∧ JoinOk z ts = true ∧ Q (.str (Txt.join z ts)) H) := by
  intro pins s σ H x xs v us Q I rx rs h
  obtain ⟨z, a, ts, rfl, rfl, hq, hj, q⟩ := h
  obtain ⟨t, rfl⟩ := rx
  obtain ⟨u', rfl, ru⟩ := vals1 rs
  obtain rfl : u' = Value.ref a := ru
  obtain ⟨its, r, p, hz⟩ := I.list hq
  obtain ⟨l, rfl, e⟩ := strs_vals r
  exact SC.join p.isList e hj fun t' k => ⟨.str _, H, I.tok k, ⟨t', rfl⟩, q⟩
def fJoin : PV → PV → Rx PV
  | .str z, .lst ws => (match strsOf ws with | some ts => if JoinOk z ts = true then .ok (.str (Txt.join z ts)) else .bad | none => .bad)
  | _, _ => .bad
theorem p_join (ho : JP X G o da) (he : JB X G e db)
    (hbase : attributeBase o "join" X.env (eval o X.env) = eval o X.env := by rfl)
    (hfew : ((backTo cpos (starEach [e] X.env)).all (fun x => !x.1) && (backToKw cpos (keywordEach [] X.env)).all (fun x => x.1.isSome) && decide (([e] : List Expr).length + ([] : List Keyword).length + (if ([] : List Keyword).isEmpty then 0 else 1) < 30)) = true := by rfl)
    (hline : (apos.endLine == cpos.line) = true := by rfl) (hst : starEach [e] X.env = (false, eval e X.env) :: starEach [] X.env := by rfl) (hpl : (backTo cpos (starEach ([] : List Expr) X.env)).any (·.1) = false := by rfl) :
    JP X G (.Call (.Attribute o "join" apos) [e] [] cpos) (d2 fJoin da db) :=
  imp (pe_bm PySem.F.plainAttrs_str PySem.F.slot_str_join PySem.F.type_str_join mt_join ho (pa_cons he pa_nil hst) hbase hfew hline hst hpl) fun σ H Q ⟨c, ow, ps, w, R, e, q⟩ => by
    obtain ⟨w1, e1, e⟩ := bind_ok e
    obtain ⟨w2, e2, e⟩ := bind_ok e
    unfold fJoin at e
    split at e
    · rename_i x y _
      split at e
      · rename_i ts hts
        split at e
        · rename_i hj
          cases e
          refine ⟨c, ow, ps, _, R, e1, fun v H1 s1 r1 => ?_⟩
          obtain rfl : v = V.str x := r1
          refine ⟨rfl, c, ow, ps, _, R.grow s1, e2, fun u H2 s2 r2 => ?_⟩
          obtain ⟨a, vs, rfl, sq, rs⟩ := r2.lst
          obtain rfl := strsOf_ok hts rs
          exact ⟨x, a, ts, rfl, rfl, sq, hj, q _ H2 (s1.trans s2) rfl⟩
        · cases e
      · cases e
    · cases e
def findS (x y : Str) : Int := match fst1 y.cps.toList [] x.cps.toList with | some (p, _) => (p.length : Int) | none => -1
open PySem.StrLaws PySem.Builtin PySem.Builtin.Str in
theorem find_eq {x y : Str} (hw : 1 ≤ y.length) : (match occurrences x y 0 x.length 1 with | i :: _ => (i : Int) | [] => -1) = findS x y := by
  have hl : x.length = x.cps.toList.length := by simp [Str.length]
  unfold findS
  rcases occ_head x y 1 (Nat.le_refl _) with ⟨h, hn⟩ | ⟨i, r, h, ha, hn⟩
  · have := fst1_none (x := x) hw x.length 0 [] (by omega) fun k _ => hn k
    rw [List.drop_zero] at this
    rw [h, this]
  · have := fst1_at (x := x) hw i 0 (by rw [Nat.zero_add]; exact ha) fun k _ hk => hn k (by omega)
    rw [List.drop_zero, List.take_zero, List.reverse_nil, Nat.zero_add] at this
    rw [h, this]
    have hi : i ≤ x.cps.toList.length := by have := ha.1; omega
    simp only [List.length_take]
    rw [Nat.min_eq_left hi]
end
section
variable (ps : PSt) (a : DP) (d : DA) (dma : DMA) (dm : DM) (t u : DTM) (dt : DT) (s r : DS)
@[simp] theorem e_mNew (c n : Nat) : mNew c n dma ps = (dma ps).bind fun r => if r.1.length = n then .ok (.obj c r.1, r.2) else .bad := rfl
@[simp] theorem e_mTr : mTr dm ps = (dm ps).bind fun r => match r.1 with | .bl b => .ok (b, r.2) | _ => .bad := rfl
@[simp] theorem e_mOfT : mOfT dt ps = (dt ps).bind fun b => .ok (b, ps) := rfl
@[simp] theorem e_mNot : mNot t ps = (t ps).bind fun r => .ok (!r.1, r.2) := rfl
@[simp] theorem e_mOr : mOr t u ps = (t ps).bind fun r => if r.1 = true then .ok (true, r.2) else u r.2 := rfl
@[simp] theorem e_mAnd : mAnd t u ps = (t ps).bind fun r => if r.1 = true then u r.2 else .ok (false, r.2) := rfl
@[simp] theorem e_ifM : sIfM t s r ps = (t ps).st fun x => if x.1 = true then s x.2 else r x.2 := rfl
@[simp] theorem e_whileM : sWhileM t s ps = (iterM t s 100000 ps).getD .bad := rfl
end
end DN
end
section
set_option Elab.async false
set_option linter.all false
set_option maxRecDepth 100000
set_option maxHeartbeats 4000000
namespace L2
open PySem PySem.Spec PyProof.Rows PySem.Builtin PySem.Builtin.Str
end L2
namespace DN
open PySem PySem.Spec PyProof.Rows L2
section
variable {X : Cx} {G : Pg} {e : Expr} {da : DP} {pos : Pos}
/-! ### x[lo:hi] of a text -/
def dCutS (d : DP) (dl dh : PSt → Rx (Option Int)) : DP := fun ps => (d ps).bind fun x => (dl ps).bind fun lo => (dh ps).bind fun hi => match x with
  | .str z => if (PySem.StrLaws.sliceText z lo hi).length ≤ sizeLine then .ok (.str (PySem.StrLaws.sliceText z lo hi)) else .bad
  | _ => .bad
@[simp] theorem e_cutS (ps : PSt) (dl dh : PSt → Rx (Option Int)) : dCutS da dl dh ps = (da ps).bind fun x => (dl ps).bind fun lo => (dh ps).bind fun hi => match x with
  | .str z => if (PySem.StrLaws.sliceText z lo hi).length ≤ sizeLine then .ok (.str (PySem.StrLaws.sliceText z lo hi)) else .bad
  | _ => .bad := rfl
end
end DN
end
section
set_option Elab.async false
set_option linter.all false
set_option maxRecDepth 100000
set_option maxHeartbeats 4000000
namespace L2
open PySem PySem.Spec PyProof.Rows PySem.Builtin PySem.Builtin.Str
section
variable {X : Cx}
theorem mt_indexS : MtR X "str.index" (fun x xs H Q => ∃ z y i rest, x = .str z ∧ xs = [.str y] ∧ occurrences z y 0 z.length 1 = i :: rest ∧ Q (.int (i : Int)) H) := by
  intro pins s σ H x xs v us Q I rx rs h
  obtain ⟨z, y, i, rest, rfl, rfl, ho, q⟩ := h
  obtain ⟨t, rfl⟩ := rx
  obtain ⟨u', rfl, u, rfl⟩ := vals1 rs
  exact call_gives F.slot_str_index (typeIs_str _ _ _) F.entry_str_index (F.args_str_index_2 _ _) (gives_str_index z y t u i rest ho) ⟨.int _, H, I.tok _, ⟨_, rfl⟩, q⟩
theorem mt_starts : MtR X "str.startswith" (fun x xs H Q => ∃ z y, x = .str z ∧ xs = [.str y] ∧ Q (.bl (0 + y.length ≤ z.length && subAt z y 0)) H) := by
  intro pins s σ H x xs v us Q I rx rs h
  obtain ⟨z, y, rfl, rfl, q⟩ := h
  obtain ⟨t, rfl⟩ := rx
  obtain ⟨u', rfl, u, rfl⟩ := vals1 rs
  exact call_gives F.slot_str_startswith (typeIs_str _ _ _) F.entry_str_startswith (F.args_str_startswith_2 _ _) (gives_str_startswith z y t u) ⟨.bl _, H, I, rfl, q⟩
end
end L2
namespace DN
open PySem PySem.Spec PyProof.Rows L2
section
variable {X : Cx} {G : Pg} {o e a b c : Expr} {da db dc : DP} {pos apos cpos : Pos}
def fIndexS : PV → PV → Rx PV
  | .str x, .str y => if goodSep y = true then (if 0 ≤ findS x y then .ok (.int (findS x y)) else .bad) else .bad
  | _, _ => .bad
open PySem.StrLaws PySem.Builtin PySem.Builtin.Str in
theorem p_indexS (ho : JP X G o da) (he : JP X G e db)
    (hbase : attributeBase o "index" X.env (eval o X.env) = eval o X.env := by rfl)
    (hfew : ((backTo cpos (starEach [e] X.env)).all (fun x => !x.1) && (backToKw cpos (keywordEach [] X.env)).all (fun x => x.1.isSome) && decide (([e] : List Expr).length + ([] : List Keyword).length + (if ([] : List Keyword).isEmpty then 0 else 1) < 30)) = true := by rfl)
    (hline : (apos.endLine == cpos.line) = true := by rfl) (hst : starEach [e] X.env = (false, eval e X.env) :: starEach [] X.env := by rfl) (hpl : (backTo cpos (starEach ([] : List Expr) X.env)).any (·.1) = false := by rfl) :
    JP X G (.Call (.Attribute o "index" apos) [e] [] cpos) (d2 fIndexS da db) :=
  imp (pe_bm PySem.F.plainAttrs_str PySem.F.slot_str_index PySem.F.type_str_index mt_indexS ho (pa_cons he pa_nil hst) hbase hfew hline hst hpl) fun σ H Q ⟨c, ow, ps, w, R, e, q⟩ => by
    obtain ⟨w1, e1, e⟩ := bind_ok e
    obtain ⟨w2, e2, e⟩ := bind_ok e
    unfold fIndexS at e
    split at e
    · rename_i x y _
      split at e
      · rename_i hg
        split at e
        · rename_i hp
          cases e
          refine ⟨c, ow, ps, _, R, e1, fun v H1 s1 r1 => ?_⟩
          obtain rfl : v = V.str x := r1
          refine ⟨rfl, c, ow, ps, _, R.grow s1, e2, fun u H2 s2 r2 => ?_⟩
          obtain rfl : u = V.str y := r2
          have hf := find_eq (x := x) (y := y) (goodSep_ok hg).1
          cases ho' : occurrences x y 0 x.length 1 with
          | nil => rw [ho'] at hf; simp only at hf; omega
          | cons i rest =>
            rw [ho'] at hf
            refine ⟨x, y, i, rest, rfl, rfl, ho', ?_⟩
            have hf : (i : Int) = findS x y := hf
            rw [hf]
            exact q _ H2 (s1.trans s2) rfl
        · cases e
      · cases e
    · cases e
def fStarts : PV → PV → Rx PV
  | .str x, .str y => .ok (.bl (decide (y.cps.toList = x.cps.toList.take y.length)))
  | _, _ => .bad
open PySem.Builtin.Str in
theorem starts_eq (x y : Str) : (decide (0 + y.length ≤ x.length) && subAt x y 0) = decide (y.cps.toList = x.cps.toList.take y.length) := by
  rw [PySem.StrLaws.subAt_eq, List.drop_zero]
  by_cases h : y.cps.toList = x.cps.toList.take y.length
  · have hl : y.length ≤ x.length := by
      have := congrArg List.length h
      simp only [List.length_take, Array.length_toList] at this
      show y.cps.size ≤ x.cps.size
      have e : y.length = y.cps.size := rfl
      rw [e] at this
      omega
    rw [← h]
    simp [hl]
  · have : (x.cps.toList.take y.length == y.cps.toList) = false := by
      rw [beq_eq_false_iff_ne]; exact fun e => h e.symm
    simp [h, this]
theorem p_starts (ho : JP X G o da) (he : JP X G e db)
    (hbase : attributeBase o "startswith" X.env (eval o X.env) = eval o X.env := by rfl)
    (hfew : ((backTo cpos (starEach [e] X.env)).all (fun x => !x.1) && (backToKw cpos (keywordEach [] X.env)).all (fun x => x.1.isSome) && decide (([e] : List Expr).length + ([] : List Keyword).length + (if ([] : List Keyword).isEmpty then 0 else 1) < 30)) = true := by rfl)
    (hline : (apos.endLine == cpos.line) = true := by rfl) (hst : starEach [e] X.env = (false, eval e X.env) :: starEach [] X.env := by rfl) (hpl : (backTo cpos (starEach ([] : List Expr) X.env)).any (·.1) = false := by rfl) :
    JP X G (.Call (.Attribute o "startswith" apos) [e] [] cpos) (d2 fStarts da db) :=
  imp (pe_bm PySem.F.plainAttrs_str PySem.F.slot_str_startswith PySem.F.type_str_startswith mt_starts ho (pa_cons he pa_nil hst) hbase hfew hline hst hpl) fun σ H Q ⟨c, ow, ps, w, R, e, q⟩ => by
    obtain ⟨w1, e1, e⟩ := bind_ok e
    obtain ⟨w2, e2, e⟩ := bind_ok e
    unfold fStarts at e
    split at e
    · rename_i x y _
      cases e
      refine ⟨c, ow, ps, _, R, e1, fun v H1 s1 r1 => ?_⟩
      obtain rfl : v = V.str x := r1
      refine ⟨rfl, c, ow, ps, _, R.grow s1, e2, fun u H2 s2 r2 => ?_⟩
      obtain rfl : u = V.str y := r2
      refine ⟨x, y, rfl, rfl, ?_⟩
      rw [starts_eq]
      exact q _ H2 (s1.trans s2) rfl
    · cases e
def dInv (d : DP) : DP := fun ps => (d ps).bind fun x => match x with | .int i => .ok (.int (Builtin.bitNot i)) | _ => .bad
/-! ### min -/
def bMin2 : List PV → Rx PV
  | [.int i, .int j] => .ok (.int (if j < i then j else i))
  | _ => .bad
theorem cb_min2 {K : PySem.W.Frag} : CbR K G [false, false] bMin2 (fun xs H Q => ∃ i j, xs = [.int i, .int j] ∧ Q (.int (if j < i then j else i)) H) := by
  intro H A ws vs w Q hu e r q
  unfold bMin2 at e
  split at e
  · cases e
    obtain ⟨w0, ws0, v0, r0, ew, ev, h1, h2⟩ := r
    obtain ⟨w1, ws1, v1, r1, ew1, ev1, h3, h4⟩ := h2
    cases ew; cases ew1
    obtain ⟨-, h4⟩ := h4
    have h1 : v0 = .int _ := h1
    have h3 : v1 = .int _ := h3
    subst h1; subst h3; subst ev1; subst ev
    have h4 : r1 = [] := h4
    subst h4
    exact ⟨_, _, rfl, q _ _ (Same.refl H) rfl⟩
  · cases e
/-! ### chains of comparisons -/
def dChain (f g : PV → PV → Rx PV) (a b c : DP) : DP := fun ps => (a ps).bind fun x => (b ps).bind fun y => (f x y).bind fun z => match z with | .bl true => (c ps).bind fun w => g y w | .bl false => .ok (.bl false) | _ => .bad
end
section
variable (ps : PSt) (a b c : DP) (f g : PV → PV → Rx PV)
@[simp] theorem e_chain : dChain f g a b c ps = (a ps).bind fun x => (b ps).bind fun y => (f x y).bind fun z => match z with | .bl true => (c ps).bind fun w => g y w | .bl false => .ok (.bl false) | _ => .bad := rfl
@[simp] theorem e_inv : dInv a ps = (a ps).bind fun x => match x with | .int i => .ok (.int (Builtin.bitNot i)) | _ => .bad := rfl
end
end DN
end
section
set_option Elab.async false
set_option linter.all false
set_option maxRecDepth 100000
set_option maxHeartbeats 4000000
namespace M32
open PySem L2 DN
open PyProof.Rows (boot_isinstance boot_bool boot_int boot_str boot_tuple boot_list boot_dict boot_sum boot_all boot_any boot_abs boot_enumerate boot_min boot_max)
def top (i : Nat) : Stmt := PySem.Challenge.pw_anymeaning_k32_one_loop.main.body.getD i (.Pass ⟨0, 0, 0, 0⟩)
def fN : Nat → List Str
  | 0 => []
  | 1 => []
  | 2 => []
  | 3 => ["name"]
  | 4 => ["head", "tail"]
  | 5 => ["test", "yes", "no"]
  | 6 => ["test", "body"]
  | 7 => []
  | 8 => []
  | 9 => ["name"]
  | 10 => ["inner"]
  | 11 => ["left", "right"]
  | 12 => ["left", "right"]
  | 13 => ["step", "doors"]
  | 14 => ["says", "leads"]
  | _ => []
abbrev s_run_from : Stmt := top 15
abbrev s_run_along : Stmt := top 16
abbrev s_doors_of : Stmt := top 28
abbrev s_ended : Stmt := top 29
abbrev s_row_doors : Stmt := top 30
abbrev s_choice_doors : Stmt := top 31
abbrev s_loop_doors : Stmt := top 32
abbrev s_loop_door : Stmt := top 33
abbrev s_gone_on : Stmt := top 34
abbrev s_l_cell_at : Stmt := top 38
abbrev s_l_draw : Stmt := top 39
abbrev s_l_sign : Stmt := top 40
abbrev s_l_holds : Stmt := top 41
abbrev s_l_test : Stmt := top 42
abbrev s_l_grown : Stmt := top 43
abbrev s_l_prog : Stmt := top 44
abbrev s_l_built : Stmt := top 45
abbrev s_l_first : Stmt := top 46
abbrev s_l_led : Stmt := top 47
abbrev s_l_run : Stmt := top 48
abbrev s_l_alike : Stmt := top 49
abbrev s_law : Stmt := top 50
abbrev s_Skip_first : Stmt := inClass (top 7) 0
abbrev s_Stop_first : Stmt := inClass (top 8) 0
abbrev s_Deed_first : Stmt := inClass (top 9) 1
abbrev s_Row_first : Stmt := inClass (top 10) 1
abbrev s_Choice_first : Stmt := inClass (top 11) 1
abbrev s_Loop_first : Stmt := inClass (top 12) 1
abbrev s_Yes_holds : Stmt := inClass (top 21) 0
abbrev s_Named_holds : Stmt := inClass (top 22) 1
abbrev s_Not_holds : Stmt := inClass (top 23) 1
abbrev s_Both_holds : Stmt := inClass (top 24) 1
abbrev s_Either_holds : Stmt := inClass (top 25) 1
abbrev s_Rooms_run : Stmt := inClass (top 27) 1
abbrev s_World_setting : Stmt := inClass (top 36) 1
abbrev s_World_led : Stmt := inClass (top 36) 2
abbrev s_Rooms_init : Stmt := inClass (top 27) 0
abbrev n_run_from_n1 : Nst := lamOf [] (argOf 1 (retOf (inBody 0 s_run_from)))
abbrev n_law_n1 : Nst := lamOf [] (argOf 0 (asgOf (inBody 7 s_law)))
abbrev n_law_n2 : Nst := lamOf ["_law_offsets"] (argOf 1 (asgOf (inBody 7 s_law)))
abbrev n_Rooms_run_n1 : Nst := lamOf ["self"] (argOf 1 (retOf (inBody 0 s_Rooms_run)))
def nF : Nat → Nst
  | 37 => n_run_from_n1
  | 38 => n_law_n1
  | 39 => n_law_n2
  | 40 => n_Rooms_run_n1
  | _ => default
abbrev tC : List (Nat × Nat) := [(37, 2), (38, 1), (39, 2), (40, 2)]
def pg (cA : Nat → Addr) : Pg := ⟨cA, fN, nF⟩
abbrev a_body : List (Nat × Nat) := [(6, 1)]
abbrev a_doors : List (Nat × Nat) := [(13, 1)]
abbrev a_head : List (Nat × Nat) := [(4, 0)]
abbrev a_inner : List (Nat × Nat) := [(10, 0)]
abbrev a_leads : List (Nat × Nat) := [(14, 1)]
abbrev a_left : List (Nat × Nat) := [(11, 0), (12, 0)]
abbrev a_name : List (Nat × Nat) := [(3, 0), (9, 0)]
abbrev a_no : List (Nat × Nat) := [(5, 2)]
abbrev a_right : List (Nat × Nat) := [(11, 1), (12, 1)]
abbrev a_says : List (Nat × Nat) := [(14, 0)]
abbrev a_tail : List (Nat × Nat) := [(4, 1)]
abbrev a_test : List (Nat × Nat) := [(5, 0), (6, 0)]
abbrev a_yes : List (Nat × Nat) := [(5, 1)]
abbrev q_first : List (Nat × Nat) := [(1, 22), (2, 23), (3, 24), (4, 25), (5, 26), (6, 27)]
abbrev q_holds : List (Nat × Nat) := [(8, 28), (9, 29), (10, 30), (11, 31), (12, 32)]
abbrev q_led : List (Nat × Nat) := [(14, 35)]
abbrev q_run : List (Nat × Nat) := [(13, 33)]
abbrev q_setting : List (Nat × Nat) := [(14, 34)]
abbrev i_Choice : List (Nat × Bool) := [(0, false), (1, false), (2, false), (3, false), (4, false), (5, false), (6, false), (0 + 10, false), (1 + 10, false), (2 + 10, false), (3 + 10, false), (4 + 10, false), (5 + 10, true), (6 + 10, false), (7 + 10, false), (8 + 10, false), (9 + 10, false), (10 + 10, false), (11 + 10, false), (12 + 10, false), (13 + 10, false), (14 + 10, false)]
abbrev i_Deed : List (Nat × Bool) := [(0, false), (1, false), (2, false), (3, false), (4, false), (5, false), (6, false), (0 + 10, false), (1 + 10, false), (2 + 10, false), (3 + 10, true), (4 + 10, false), (5 + 10, false), (6 + 10, false), (7 + 10, false), (8 + 10, false), (9 + 10, false), (10 + 10, false), (11 + 10, false), (12 + 10, false), (13 + 10, false), (14 + 10, false)]
abbrev i_Row : List (Nat × Bool) := [(0, false), (1, false), (2, false), (3, false), (4, false), (5, false), (6, false), (0 + 10, false), (1 + 10, false), (2 + 10, false), (3 + 10, false), (4 + 10, true), (5 + 10, false), (6 + 10, false), (7 + 10, false), (8 + 10, false), (9 + 10, false), (10 + 10, false), (11 + 10, false), (12 + 10, false), (13 + 10, false), (14 + 10, false)]
abbrev i_Skip : List (Nat × Bool) := [(0, false), (1, false), (2, false), (3, false), (4, false), (5, false), (6, false), (0 + 10, false), (1 + 10, true), (2 + 10, false), (3 + 10, false), (4 + 10, false), (5 + 10, false), (6 + 10, false), (7 + 10, false), (8 + 10, false), (9 + 10, false), (10 + 10, false), (11 + 10, false), (12 + 10, false), (13 + 10, false), (14 + 10, false)]
abbrev i_Stop : List (Nat × Bool) := [(0, false), (1, false), (2, false), (3, false), (4, false), (5, false), (6, false), (0 + 10, false), (1 + 10, false), (2 + 10, true), (3 + 10, false), (4 + 10, false), (5 + 10, false), (6 + 10, false), (7 + 10, false), (8 + 10, false), (9 + 10, false), (10 + 10, false), (11 + 10, false), (12 + 10, false), (13 + 10, false), (14 + 10, false)]
abbrev i_bool : List (Nat × Bool) := [(0, false), (1, true), (2, false), (3, false), (4, false), (5, false), (6, false), (0 + 10, false), (1 + 10, false), (2 + 10, false), (3 + 10, false), (4 + 10, false), (5 + 10, false), (6 + 10, false), (7 + 10, false), (8 + 10, false), (9 + 10, false), (10 + 10, false), (11 + 10, false), (12 + 10, false), (13 + 10, false), (14 + 10, false)]
abbrev i_tuple : List (Nat × Bool) := [(0, false), (1, false), (2, false), (3, false), (4, true), (5, false), (6, false), (0 + 10, false), (1 + 10, false), (2 + 10, false), (3 + 10, false), (4 + 10, false), (5 + 10, false), (6 + 10, false), (7 + 10, false), (8 + 10, false), (9 + 10, false), (10 + 10, false), (11 + 10, false), (12 + 10, false), (13 + 10, false), (14 + 10, false)]
@[simp] theorem fl_body_6 (x0 x1 : PV) : fldP a_body (.obj 6 [x0, x1]) = .ok x1 := rfl
@[simp] theorem fl_doors_13 (x0 x1 : PV) : fldP a_doors (.obj 13 [x0, x1]) = .ok x1 := rfl
@[simp] theorem fl_head_4 (x0 x1 : PV) : fldP a_head (.obj 4 [x0, x1]) = .ok x0 := rfl
@[simp] theorem fl_inner_10 (x0 : PV) : fldP a_inner (.obj 10 [x0]) = .ok x0 := rfl
@[simp] theorem fl_leads_14 (x0 x1 : PV) : fldP a_leads (.obj 14 [x0, x1]) = .ok x1 := rfl
@[simp] theorem fl_left_11 (x0 x1 : PV) : fldP a_left (.obj 11 [x0, x1]) = .ok x0 := rfl
@[simp] theorem fl_left_12 (x0 x1 : PV) : fldP a_left (.obj 12 [x0, x1]) = .ok x0 := rfl
@[simp] theorem fl_name_3 (x0 : PV) : fldP a_name (.obj 3 [x0]) = .ok x0 := rfl
@[simp] theorem fl_name_9 (x0 : PV) : fldP a_name (.obj 9 [x0]) = .ok x0 := rfl
@[simp] theorem fl_no_5 (x0 x1 x2 : PV) : fldP a_no (.obj 5 [x0, x1, x2]) = .ok x2 := rfl
@[simp] theorem fl_right_11 (x0 x1 : PV) : fldP a_right (.obj 11 [x0, x1]) = .ok x1 := rfl
@[simp] theorem fl_right_12 (x0 x1 : PV) : fldP a_right (.obj 12 [x0, x1]) = .ok x1 := rfl
@[simp] theorem fl_says_14 (x0 x1 : PV) : fldP a_says (.obj 14 [x0, x1]) = .ok x0 := rfl
@[simp] theorem fl_tail_4 (x0 x1 : PV) : fldP a_tail (.obj 4 [x0, x1]) = .ok x1 := rfl
@[simp] theorem fl_test_5 (x0 x1 x2 : PV) : fldP a_test (.obj 5 [x0, x1, x2]) = .ok x0 := rfl
@[simp] theorem fl_test_6 (x0 x1 : PV) : fldP a_test (.obj 6 [x0, x1]) = .ok x0 := rfl
@[simp] theorem fl_yes_5 (x0 x1 x2 : PV) : fldP a_yes (.obj 5 [x0, x1, x2]) = .ok x1 := rfl
@[simp] theorem ii_Choice_0 : isiK i_Choice 0 = .ok (.bl false) := rfl
@[simp] theorem ii_Choice_1 : isiK i_Choice 1 = .ok (.bl false) := rfl
@[simp] theorem ii_Choice_2 : isiK i_Choice 2 = .ok (.bl false) := rfl
@[simp] theorem ii_Choice_3 : isiK i_Choice 3 = .ok (.bl false) := rfl
@[simp] theorem ii_Choice_4 : isiK i_Choice 4 = .ok (.bl false) := rfl
@[simp] theorem ii_Choice_5 : isiK i_Choice 5 = .ok (.bl false) := rfl
@[simp] theorem ii_Choice_6 : isiK i_Choice 6 = .ok (.bl false) := rfl
@[simp] theorem ii_Choice_10 : isiK i_Choice (0 + 10) = .ok (.bl false) := rfl
@[simp] theorem ii_Choice_11 : isiK i_Choice (1 + 10) = .ok (.bl false) := rfl
@[simp] theorem ii_Choice_12 : isiK i_Choice (2 + 10) = .ok (.bl false) := rfl
@[simp] theorem ii_Choice_13 : isiK i_Choice (3 + 10) = .ok (.bl false) := rfl
@[simp] theorem ii_Choice_14 : isiK i_Choice (4 + 10) = .ok (.bl false) := rfl
@[simp] theorem ii_Choice_15 : isiK i_Choice (5 + 10) = .ok (.bl true) := rfl
@[simp] theorem ii_Choice_16 : isiK i_Choice (6 + 10) = .ok (.bl false) := rfl
@[simp] theorem ii_Choice_17 : isiK i_Choice (7 + 10) = .ok (.bl false) := rfl
@[simp] theorem ii_Choice_18 : isiK i_Choice (8 + 10) = .ok (.bl false) := rfl
@[simp] theorem ii_Choice_19 : isiK i_Choice (9 + 10) = .ok (.bl false) := rfl
@[simp] theorem ii_Choice_20 : isiK i_Choice (10 + 10) = .ok (.bl false) := rfl
@[simp] theorem ii_Choice_21 : isiK i_Choice (11 + 10) = .ok (.bl false) := rfl
@[simp] theorem ii_Choice_22 : isiK i_Choice (12 + 10) = .ok (.bl false) := rfl
@[simp] theorem ii_Choice_23 : isiK i_Choice (13 + 10) = .ok (.bl false) := rfl
@[simp] theorem ii_Choice_24 : isiK i_Choice (14 + 10) = .ok (.bl false) := rfl
@[simp] theorem ii_Deed_0 : isiK i_Deed 0 = .ok (.bl false) := rfl
@[simp] theorem ii_Deed_1 : isiK i_Deed 1 = .ok (.bl false) := rfl
@[simp] theorem ii_Deed_2 : isiK i_Deed 2 = .ok (.bl false) := rfl
@[simp] theorem ii_Deed_3 : isiK i_Deed 3 = .ok (.bl false) := rfl
@[simp] theorem ii_Deed_4 : isiK i_Deed 4 = .ok (.bl false) := rfl
@[simp] theorem ii_Deed_5 : isiK i_Deed 5 = .ok (.bl false) := rfl
@[simp] theorem ii_Deed_6 : isiK i_Deed 6 = .ok (.bl false) := rfl
@[simp] theorem ii_Deed_10 : isiK i_Deed (0 + 10) = .ok (.bl false) := rfl
@[simp] theorem ii_Deed_11 : isiK i_Deed (1 + 10) = .ok (.bl false) := rfl
@[simp] theorem ii_Deed_12 : isiK i_Deed (2 + 10) = .ok (.bl false) := rfl
@[simp] theorem ii_Deed_13 : isiK i_Deed (3 + 10) = .ok (.bl true) := rfl
@[simp] theorem ii_Deed_14 : isiK i_Deed (4 + 10) = .ok (.bl false) := rfl
@[simp] theorem ii_Deed_15 : isiK i_Deed (5 + 10) = .ok (.bl false) := rfl
@[simp] theorem ii_Deed_16 : isiK i_Deed (6 + 10) = .ok (.bl false) := rfl
@[simp] theorem ii_Deed_17 : isiK i_Deed (7 + 10) = .ok (.bl false) := rfl
@[simp] theorem ii_Deed_18 : isiK i_Deed (8 + 10) = .ok (.bl false) := rfl
@[simp] theorem ii_Deed_19 : isiK i_Deed (9 + 10) = .ok (.bl false) := rfl
@[simp] theorem ii_Deed_20 : isiK i_Deed (10 + 10) = .ok (.bl false) := rfl
@[simp] theorem ii_Deed_21 : isiK i_Deed (11 + 10) = .ok (.bl false) := rfl
@[simp] theorem ii_Deed_22 : isiK i_Deed (12 + 10) = .ok (.bl false) := rfl
@[simp] theorem ii_Deed_23 : isiK i_Deed (13 + 10) = .ok (.bl false) := rfl
@[simp] theorem ii_Deed_24 : isiK i_Deed (14 + 10) = .ok (.bl false) := rfl
@[simp] theorem ii_Row_0 : isiK i_Row 0 = .ok (.bl false) := rfl
@[simp] theorem ii_Row_1 : isiK i_Row 1 = .ok (.bl false) := rfl
@[simp] theorem ii_Row_2 : isiK i_Row 2 = .ok (.bl false) := rfl
@[simp] theorem ii_Row_3 : isiK i_Row 3 = .ok (.bl false) := rfl
@[simp] theorem ii_Row_4 : isiK i_Row 4 = .ok (.bl false) := rfl
@[simp] theorem ii_Row_5 : isiK i_Row 5 = .ok (.bl false) := rfl
@[simp] theorem ii_Row_6 : isiK i_Row 6 = .ok (.bl false) := rfl
@[simp] theorem ii_Row_10 : isiK i_Row (0 + 10) = .ok (.bl false) := rfl
@[simp] theorem ii_Row_11 : isiK i_Row (1 + 10) = .ok (.bl false) := rfl
@[simp] theorem ii_Row_12 : isiK i_Row (2 + 10) = .ok (.bl false) := rfl
@[simp] theorem ii_Row_13 : isiK i_Row (3 + 10) = .ok (.bl false) := rfl
@[simp] theorem ii_Row_14 : isiK i_Row (4 + 10) = .ok (.bl true) := rfl
@[simp] theorem ii_Row_15 : isiK i_Row (5 + 10) = .ok (.bl false) := rfl
@[simp] theorem ii_Row_16 : isiK i_Row (6 + 10) = .ok (.bl false) := rfl
@[simp] theorem ii_Row_17 : isiK i_Row (7 + 10) = .ok (.bl false) := rfl
@[simp] theorem ii_Row_18 : isiK i_Row (8 + 10) = .ok (.bl false) := rfl
@[simp] theorem ii_Row_19 : isiK i_Row (9 + 10) = .ok (.bl false) := rfl
@[simp] theorem ii_Row_20 : isiK i_Row (10 + 10) = .ok (.bl false) := rfl
@[simp] theorem ii_Row_21 : isiK i_Row (11 + 10) = .ok (.bl false) := rfl
@[simp] theorem ii_Row_22 : isiK i_Row (12 + 10) = .ok (.bl false) := rfl
@[simp] theorem ii_Row_23 : isiK i_Row (13 + 10) = .ok (.bl false) := rfl
@[simp] theorem ii_Row_24 : isiK i_Row (14 + 10) = .ok (.bl false) := rfl
@[simp] theorem ii_Skip_0 : isiK i_Skip 0 = .ok (.bl false) := rfl
@[simp] theorem ii_Skip_1 : isiK i_Skip 1 = .ok (.bl false) := rfl
@[simp] theorem ii_Skip_2 : isiK i_Skip 2 = .ok (.bl false) := rfl
@[simp] theorem ii_Skip_3 : isiK i_Skip 3 = .ok (.bl false) := rfl
@[simp] theorem ii_Skip_4 : isiK i_Skip 4 = .ok (.bl false) := rfl
@[simp] theorem ii_Skip_5 : isiK i_Skip 5 = .ok (.bl false) := rfl
@[simp] theorem ii_Skip_6 : isiK i_Skip 6 = .ok (.bl false) := rfl
@[simp] theorem ii_Skip_10 : isiK i_Skip (0 + 10) = .ok (.bl false) := rfl
@[simp] theorem ii_Skip_11 : isiK i_Skip (1 + 10) = .ok (.bl true) := rfl
@[simp] theorem ii_Skip_12 : isiK i_Skip (2 + 10) = .ok (.bl false) := rfl
@[simp] theorem ii_Skip_13 : isiK i_Skip (3 + 10) = .ok (.bl false) := rfl
@[simp] theorem ii_Skip_14 : isiK i_Skip (4 + 10) = .ok (.bl false) := rfl
@[simp] theorem ii_Skip_15 : isiK i_Skip (5 + 10) = .ok (.bl false) := rfl
@[simp] theorem ii_Skip_16 : isiK i_Skip (6 + 10) = .ok (.bl false) := rfl
@[simp] theorem ii_Skip_17 : isiK i_Skip (7 + 10) = .ok (.bl false) := rfl
@[simp] theorem ii_Skip_18 : isiK i_Skip (8 + 10) = .ok (.bl false) := rfl
@[simp] theorem ii_Skip_19 : isiK i_Skip (9 + 10) = .ok (.bl false) := rfl
@[simp] theorem ii_Skip_20 : isiK i_Skip (10 + 10) = .ok (.bl false) := rfl
@[simp] theorem ii_Skip_21 : isiK i_Skip (11 + 10) = .ok (.bl false) := rfl
@[simp] theorem ii_Skip_22 : isiK i_Skip (12 + 10) = .ok (.bl false) := rfl
@[simp] theorem ii_Skip_23 : isiK i_Skip (13 + 10) = .ok (.bl false) := rfl
@[simp] theorem ii_Skip_24 : isiK i_Skip (14 + 10) = .ok (.bl false) := rfl
@[simp] theorem ii_Stop_0 : isiK i_Stop 0 = .ok (.bl false) := rfl
@[simp] theorem ii_Stop_1 : isiK i_Stop 1 = .ok (.bl false) := rfl
@[simp] theorem ii_Stop_2 : isiK i_Stop 2 = .ok (.bl false) := rfl
@[simp] theorem ii_Stop_3 : isiK i_Stop 3 = .ok (.bl false) := rfl
@[simp] theorem ii_Stop_4 : isiK i_Stop 4 = .ok (.bl false) := rfl
@[simp] theorem ii_Stop_5 : isiK i_Stop 5 = .ok (.bl false) := rfl
@[simp] theorem ii_Stop_6 : isiK i_Stop 6 = .ok (.bl false) := rfl
@[simp] theorem ii_Stop_10 : isiK i_Stop (0 + 10) = .ok (.bl false) := rfl
@[simp] theorem ii_Stop_11 : isiK i_Stop (1 + 10) = .ok (.bl false) := rfl
@[simp] theorem ii_Stop_12 : isiK i_Stop (2 + 10) = .ok (.bl true) := rfl
@[simp] theorem ii_Stop_13 : isiK i_Stop (3 + 10) = .ok (.bl false) := rfl
@[simp] theorem ii_Stop_14 : isiK i_Stop (4 + 10) = .ok (.bl false) := rfl
@[simp] theorem ii_Stop_15 : isiK i_Stop (5 + 10) = .ok (.bl false) := rfl
@[simp] theorem ii_Stop_16 : isiK i_Stop (6 + 10) = .ok (.bl false) := rfl
@[simp] theorem ii_Stop_17 : isiK i_Stop (7 + 10) = .ok (.bl false) := rfl
@[simp] theorem ii_Stop_18 : isiK i_Stop (8 + 10) = .ok (.bl false) := rfl
@[simp] theorem ii_Stop_19 : isiK i_Stop (9 + 10) = .ok (.bl false) := rfl
@[simp] theorem ii_Stop_20 : isiK i_Stop (10 + 10) = .ok (.bl false) := rfl
@[simp] theorem ii_Stop_21 : isiK i_Stop (11 + 10) = .ok (.bl false) := rfl
@[simp] theorem ii_Stop_22 : isiK i_Stop (12 + 10) = .ok (.bl false) := rfl
@[simp] theorem ii_Stop_23 : isiK i_Stop (13 + 10) = .ok (.bl false) := rfl
@[simp] theorem ii_Stop_24 : isiK i_Stop (14 + 10) = .ok (.bl false) := rfl
@[simp] theorem ii_bool_0 : isiK i_bool 0 = .ok (.bl false) := rfl
@[simp] theorem ii_bool_1 : isiK i_bool 1 = .ok (.bl true) := rfl
@[simp] theorem ii_bool_2 : isiK i_bool 2 = .ok (.bl false) := rfl
@[simp] theorem ii_bool_3 : isiK i_bool 3 = .ok (.bl false) := rfl
@[simp] theorem ii_bool_4 : isiK i_bool 4 = .ok (.bl false) := rfl
@[simp] theorem ii_bool_5 : isiK i_bool 5 = .ok (.bl false) := rfl
@[simp] theorem ii_bool_6 : isiK i_bool 6 = .ok (.bl false) := rfl
@[simp] theorem ii_bool_10 : isiK i_bool (0 + 10) = .ok (.bl false) := rfl
@[simp] theorem ii_bool_11 : isiK i_bool (1 + 10) = .ok (.bl false) := rfl
@[simp] theorem ii_bool_12 : isiK i_bool (2 + 10) = .ok (.bl false) := rfl
@[simp] theorem ii_bool_13 : isiK i_bool (3 + 10) = .ok (.bl false) := rfl
@[simp] theorem ii_bool_14 : isiK i_bool (4 + 10) = .ok (.bl false) := rfl
@[simp] theorem ii_bool_15 : isiK i_bool (5 + 10) = .ok (.bl false) := rfl
@[simp] theorem ii_bool_16 : isiK i_bool (6 + 10) = .ok (.bl false) := rfl
@[simp] theorem ii_bool_17 : isiK i_bool (7 + 10) = .ok (.bl false) := rfl
@[simp] theorem ii_bool_18 : isiK i_bool (8 + 10) = .ok (.bl false) := rfl
@[simp] theorem ii_bool_19 : isiK i_bool (9 + 10) = .ok (.bl false) := rfl
@[simp] theorem ii_bool_20 : isiK i_bool (10 + 10) = .ok (.bl false) := rfl
@[simp] theorem ii_bool_21 : isiK i_bool (11 + 10) = .ok (.bl false) := rfl
@[simp] theorem ii_bool_22 : isiK i_bool (12 + 10) = .ok (.bl false) := rfl
@[simp] theorem ii_bool_23 : isiK i_bool (13 + 10) = .ok (.bl false) := rfl
@[simp] theorem ii_bool_24 : isiK i_bool (14 + 10) = .ok (.bl false) := rfl
@[simp] theorem ii_tuple_0 : isiK i_tuple 0 = .ok (.bl false) := rfl
@[simp] theorem ii_tuple_1 : isiK i_tuple 1 = .ok (.bl false) := rfl
@[simp] theorem ii_tuple_2 : isiK i_tuple 2 = .ok (.bl false) := rfl
@[simp] theorem ii_tuple_3 : isiK i_tuple 3 = .ok (.bl false) := rfl
@[simp] theorem ii_tuple_4 : isiK i_tuple 4 = .ok (.bl true) := rfl
@[simp] theorem ii_tuple_5 : isiK i_tuple 5 = .ok (.bl false) := rfl
@[simp] theorem ii_tuple_6 : isiK i_tuple 6 = .ok (.bl false) := rfl
@[simp] theorem ii_tuple_10 : isiK i_tuple (0 + 10) = .ok (.bl false) := rfl
@[simp] theorem ii_tuple_11 : isiK i_tuple (1 + 10) = .ok (.bl false) := rfl
@[simp] theorem ii_tuple_12 : isiK i_tuple (2 + 10) = .ok (.bl false) := rfl
@[simp] theorem ii_tuple_13 : isiK i_tuple (3 + 10) = .ok (.bl false) := rfl
@[simp] theorem ii_tuple_14 : isiK i_tuple (4 + 10) = .ok (.bl false) := rfl
@[simp] theorem ii_tuple_15 : isiK i_tuple (5 + 10) = .ok (.bl false) := rfl
@[simp] theorem ii_tuple_16 : isiK i_tuple (6 + 10) = .ok (.bl false) := rfl
@[simp] theorem ii_tuple_17 : isiK i_tuple (7 + 10) = .ok (.bl false) := rfl
@[simp] theorem ii_tuple_18 : isiK i_tuple (8 + 10) = .ok (.bl false) := rfl
@[simp] theorem ii_tuple_19 : isiK i_tuple (9 + 10) = .ok (.bl false) := rfl
@[simp] theorem ii_tuple_20 : isiK i_tuple (10 + 10) = .ok (.bl false) := rfl
@[simp] theorem ii_tuple_21 : isiK i_tuple (11 + 10) = .ok (.bl false) := rfl
@[simp] theorem ii_tuple_22 : isiK i_tuple (12 + 10) = .ok (.bl false) := rfl
@[simp] theorem ii_tuple_23 : isiK i_tuple (13 + 10) = .ok (.bl false) := rfl
@[simp] theorem ii_tuple_24 : isiK i_tuple (14 + 10) = .ok (.bl false) := rfl
abbrev c_ENDS : List PV := [PV.str "done", PV.str "stopped", PV.str "hung"]
abbrev c_LETTERS : List PV := [PV.str "a", PV.str "b", PV.str "c", PV.str "d"]
structure Ct (P : Program) (w : World) (K : PySem.W.Frag) (mg : Str → Option Value) (base : Bs) (cA : Nat → Addr) (ts : List Addr) : Prop where
  tb : base.tabs = ts
  c_Step : mg "Step" = some (.ref ((pg cA).cA 0))
  l_Step : ClsF K ((pg cA).cA 0)
  c_Skip : mg "Skip" = some (.ref ((pg cA).cA 1))
  l_Skip : ClsF K ((pg cA).cA 1)
  c_Stop : mg "Stop" = some (.ref ((pg cA).cA 2))
  l_Stop : ClsF K ((pg cA).cA 2)
  c_Deed : mg "Deed" = some (.ref ((pg cA).cA 3))
  l_Deed : ClsF K ((pg cA).cA 3)
  c_Row : mg "Row" = some (.ref ((pg cA).cA 4))
  l_Row : ClsF K ((pg cA).cA 4)
  c_Choice : mg "Choice" = some (.ref ((pg cA).cA 5))
  l_Choice : ClsF K ((pg cA).cA 5)
  c_Loop : mg "Loop" = some (.ref ((pg cA).cA 6))
  l_Loop : ClsF K ((pg cA).cA 6)
  c_Test : mg "Test" = some (.ref ((pg cA).cA 7))
  l_Test : ClsF K ((pg cA).cA 7)
  c_Yes : mg "Yes" = some (.ref ((pg cA).cA 8))
  l_Yes : ClsF K ((pg cA).cA 8)
  c_Named : mg "Named" = some (.ref ((pg cA).cA 9))
  l_Named : ClsF K ((pg cA).cA 9)
  c_Not : mg "Not" = some (.ref ((pg cA).cA 10))
  l_Not : ClsF K ((pg cA).cA 10)
  c_Both : mg "Both" = some (.ref ((pg cA).cA 11))
  l_Both : ClsF K ((pg cA).cA 11)
  c_Either : mg "Either" = some (.ref ((pg cA).cA 12))
  l_Either : ClsF K ((pg cA).cA 12)
  c_Rooms : mg "Rooms" = some (.ref ((pg cA).cA 13))
  l_Rooms : ClsF K ((pg cA).cA 13)
  c_World : mg "World" = some (.ref ((pg cA).cA 14))
  l_World : ClsF K ((pg cA).cA 14)
  n_Both : NewAt P w K mg base "Both" ((pg cA).cA 11) ((pg cA).fN 11)
  n_Choice : NewAt P w K mg base "Choice" ((pg cA).cA 5) ((pg cA).fN 5)
  n_Deed : NewAt P w K mg base "Deed" ((pg cA).cA 3) ((pg cA).fN 3)
  n_Either : NewAt P w K mg base "Either" ((pg cA).cA 12) ((pg cA).fN 12)
  n_Loop : NewAt P w K mg base "Loop" ((pg cA).cA 6) ((pg cA).fN 6)
  n_Named : NewAt P w K mg base "Named" ((pg cA).cA 9) ((pg cA).fN 9)
  n_Not : NewAt P w K mg base "Not" ((pg cA).cA 10) ((pg cA).fN 10)
  n_Row : NewAt P w K mg base "Row" ((pg cA).cA 4) ((pg cA).fN 4)
  k_Skip : Mk0 K ((pg cA).cA 1)
  k_Stop : Mk0 K ((pg cA).cA 2)
  n_World : NewAt P w K mg base "World" ((pg cA).cA 14) ((pg cA).fN 14)
  k_Yes : Mk0 K ((pg cA).cA 8)
  x_Rooms_step : NoAttr K ((pg cA).cA 13) "step"
  x_Rooms_doors : NoAttr K ((pg cA).cA 13) "doors"
  f_body : FldOk K (pg cA) "body" a_body
  f_doors : FldOk K (pg cA) "doors" a_doors
  f_head : FldOk K (pg cA) "head" a_head
  f_inner : FldOk K (pg cA) "inner" a_inner
  f_leads : FldOk K (pg cA) "leads" a_leads
  f_left : FldOk K (pg cA) "left" a_left
  f_name : FldOk K (pg cA) "name" a_name
  f_no : FldOk K (pg cA) "no" a_no
  f_right : FldOk K (pg cA) "right" a_right
  f_says : FldOk K (pg cA) "says" a_says
  f_tail : FldOk K (pg cA) "tail" a_tail
  f_test : FldOk K (pg cA) "test" a_test
  f_yes : FldOk K (pg cA) "yes" a_yes
  i_Choice : IsiOk K (pg cA) (.ref ((pg cA).cA 5)) i_Choice
  i_Deed : IsiOk K (pg cA) (.ref ((pg cA).cA 3)) i_Deed
  i_Row : IsiOk K (pg cA) (.ref ((pg cA).cA 4)) i_Row
  i_Skip : IsiOk K (pg cA) (.ref ((pg cA).cA 1)) i_Skip
  i_Stop : IsiOk K (pg cA) (.ref ((pg cA).cA 2)) i_Stop
  i_bool : IsiOk K (pg cA) (.type "bool") i_bool
  i_tuple : IsiOk K (pg cA) (.type "tuple") i_tuple
  e_DONE : ∃ t, mg "DONE" = some (.str "done" t)
  e_ENDS : ∃ a, mg "ENDS" = some (.ref a) ∧ TopT K a [V.str "done", V.str "stopped", V.str "hung"]
  e_HUNG : ∃ t, mg "HUNG" = some (.str "hung" t)
  e_LETTERS : ∃ a, mg "LETTERS" = some (.ref a) ∧ TopT K a [V.str "a", V.str "b", V.str "c", V.str "d"]
  e_MORE : ∃ t, mg "MORE" = some (.str "more" t)
  e_SETTINGS : ∃ t, mg "SETTINGS" = some (.int (16) t)
  e_STOPPED : ∃ t, mg "STOPPED" = some (.str "stopped" t)
  z_bool : mg "bool" = none
  z_int : mg "int" = none
  z_isinstance : mg "isinstance" = none
  z_len : mg "len" = none
  z_min : mg "min" = none
  z_range : mg "range" = none
  z_tuple : mg "tuple" = none
theorem sc_run_from : FnScope ["step", "world", "state", "most"] ["step", "world", "state", "most"] (defScope s_run_from) := ⟨rfl, rfl, rfl, by decide +kernel, rfl, by decide +kernel, by decide +kernel⟩
-- slots: 0 step, 1 world, 2 state, 3 most
def d_run_from (g : Nat → List PV → Rx PV) : DS :=
  (sRet (dCall (g 1) (dCons (dVar 0) (dCons (dLam 37 []) (dCons (dVar 1) (dCons (dVar 2) (dCons (dVar 3) dNil)))))))
theorem sc_run_along : FnScope ["begin", "door", "world", "state", "most", "deeds", "place", "told"] ["begin", "door", "world", "state", "most"] (defScope s_run_along) := ⟨rfl, rfl, rfl, by decide +kernel, rfl, by decide +kernel, by decide +kernel⟩
-- slots: 0 begin, 1 door, 2 world, 3 state, 4 most, 5 deeds, 6 place, 7 told
def b_run_along_1 (g : Nat → List PV → Rx PV) : DS :=
  (sSeq (sSet 7 (dCallV tC g (dVar 1) (dCons (dVar 6) (dCons (dMeth q_setting g (dVar 2) (dCons (dVar 3) dNil)) dNil))))
  (sSeq (sIf (dTr (d2 (fInL false) (d2 fIx (dSee 7) (dC (.int 0))) (dC (.tup c_ENDS))))
  (sRet (dTup (dCons (d2 fJoin (dC (.str "")) (dSee 5)) (dCons (d2 fIx (dSee 7) (dC (.int 0))) (dCons (dVar 3) dNil)))))
  sNext)
  (sSeq (sIf (dTr (d2 fEq (dCall bLen (dCons (dSee 5) dNil)) (dSee 4)))
  (sRet (dTup (dCons (d2 fJoin (dC (.str "")) (dSee 5)) (dCons (dC (.str "more")) (dCons (dVar 3) dNil)))))
  sNext)
  (sSeq (sExpr (mApp 5 (dLift (d2 fIx (dSee 7) (dC (.int 0))))))
  (sSeq (sSet 3 (dMeth q_led g (dVar 2) (dCons (d2 fIx (dSee 7) (dC (.int 0))) (dCons (dVar 3) dNil))))
  (sSet 6 (d2 fIx (dSee 7) (dC (.int 1)))))))))
def d_run_along (g : Nat → List PV → Rx PV) : DS :=
  (sSeq (sOwn 5 dNil)
  (sSeq (sSet 6 (dVar 0))
  (sWhileM (mOfT (dTr (dC (.bl true))))
  (b_run_along_1 g))))
theorem sc_doors_of : FnScope ["step", "ahead"] ["step", "ahead"] (defScope s_doors_of) := ⟨rfl, rfl, rfl, by decide +kernel, rfl, by decide +kernel, by decide +kernel⟩
-- slots: 0 step, 1 ahead
def d_doors_of (g : Nat → List PV → Rx PV) : DS :=
  (sSeq (sIf (dTr (dIsi i_Skip (dSee 0)))
  (sRet (dOfN (dCons (dCall (g 3) (dCons (dC (.str "done")) dNil)) dNil)))
  sNext)
  (sSeq (sIf (dTr (dIsi i_Stop (dSee 0)))
  (sRet (dOfN (dCons (dCall (g 3) (dCons (dC (.str "stopped")) dNil)) dNil)))
  sNext)
  (sSeq (sIf (dTr (dIsi i_Deed (dSee 0)))
  (sRet (dOfN (dCons (dOfN (dRep (dCons (dTup (dCons (dFld a_name (dVar 0)) (dCons (d2 fAdd (dSee 1) (dC (.int 1))) dNil))) dNil) (dC (.int (16))))) (dCons (dCall (g 3) (dCons (dC (.str "done")) dNil)) dNil))))
  sNext)
  (sSeq (sIf (dTr (dIsi i_Row (dSee 0)))
  (sRet (dCall (g 4) (dCons (dVar 0) (dCons (dVar 1) dNil))))
  sNext)
  (sSeq (sIf (dTr (dIsi i_Choice (dSee 0)))
  (sRet (dCall (g 5) (dCons (dVar 0) (dCons (dVar 1) dNil))))
  sNext)
  (sRet (dCall (g 6) (dCons (dVar 0) (dCons (dVar 1) dNil)))))))))
theorem sc_ended : FnScope ["end"] ["end"] (defScope s_ended) := ⟨rfl, rfl, rfl, by decide +kernel, rfl, by decide +kernel, by decide +kernel⟩
-- slots: 0 end
def d_ended (g : Nat → List PV → Rx PV) : DS :=
  (sRet (dOfN (dRep (dCons (dTup (dCons (dVar 0) (dCons (dC (.int 0)) dNil))) dNil) (dC (.int (16))))))
theorem sc_row_doors : FnScope ["step", "ahead", "head", "tail"] ["step", "ahead"] (defScope s_row_doors) := ⟨rfl, rfl, rfl, by decide +kernel, rfl, by decide +kernel, by decide +kernel⟩
-- slots: 0 step, 1 ahead, 2 head, 3 tail
def d_row_doors (g : Nat → List PV → Rx PV) : DS :=
  (sSeq (sSet 2 (dCall (g 2) (dCons (dFld a_head (dVar 0)) (dCons (dVar 1) dNil))))
  (sSeq (sSet 3 (dCall (g 2) (dCons (dFld a_tail (dVar 0)) (dCons (d2 fSub (d2 fAdd (dSee 1) (dCall bLen (dCons (dSee 2) dNil))) (dC (.int 1))) dNil))))
  (sRet (dOfN (dCatL (dOfN (dComp ["doors"] [("tail", 3)] (dItems (dSee 2)) (gSet 0) dYes (dCall (g 8) (dCons (dVar 0) (dCons (d2 fIx (dSee 1) (dC (.int 0))) dNil))))) (dOfN (dCut (dSee 3) (dO1 (dC (.int 1))) dO0)))))))
theorem sc_choice_doors : FnScope ["step", "ahead", "yes", "no", "begin"] ["step", "ahead"] (defScope s_choice_doors) := ⟨rfl, rfl, rfl, by decide +kernel, rfl, by decide +kernel, by decide +kernel⟩
-- slots: 0 step, 1 ahead, 2 yes, 3 no, 4 begin
def d_choice_doors (g : Nat → List PV → Rx PV) : DS :=
  (sSeq (sSet 2 (dCall (g 2) (dCons (dFld a_yes (dVar 0)) (dCons (dVar 1) dNil))))
  (sSeq (sSet 3 (dCall (g 2) (dCons (dFld a_no (dVar 0)) (dCons (d2 fSub (d2 fAdd (dSee 1) (dCall bLen (dCons (dSee 2) dNil))) (dC (.int 1))) dNil))))
  (sSeq (sSet 4 (dOfN (dComp ["setting"] [("yes", 2), ("no", 3), ("step", 0)] (dRng1 (dCons (dC (.int (16))) dNil)) (gSet 0) dYes (dIfV (dTr (dMeth q_holds g (dFld a_test (dVar 3)) (dCons (dVar 0) dNil))) (d2 fIx (d2 fIx (dSee 1) (dC (.int 0))) (dSee 0)) (d2 fIx (d2 fIx (dSee 2) (dC (.int 0))) (dSee 0))))))
  (sRet (dOfN (dCatL (dOfN (dCatL (dOfN (dCons (dVar 4) dNil)) (dOfN (dCut (dSee 2) (dO1 (dC (.int 1))) dO0)))) (dOfN (dCut (dSee 3) (dO1 (dC (.int 1))) dO0))))))))
theorem sc_loop_doors : FnScope ["step", "ahead", "body", "begin"] ["step", "ahead"] (defScope s_loop_doors) := ⟨rfl, rfl, rfl, by decide +kernel, rfl, by decide +kernel, by decide +kernel⟩
-- slots: 0 step, 1 ahead, 2 body, 3 begin
def d_loop_doors (g : Nat → List PV → Rx PV) : DS :=
  (sSeq (sSet 2 (dCall (g 2) (dCons (dFld a_body (dVar 0)) (dCons (dVar 1) dNil))))
  (sSeq (sSet 3 (dOfN (dComp ["setting"] [("body", 2), ("step", 0)] (dRng1 (dCons (dC (.int (16))) dNil)) (gSet 0) dYes (dCall (g 7) (dCons (dMeth q_holds g (dFld a_test (dVar 2)) (dCons (dVar 0) dNil)) (dCons (d2 fIx (d2 fIx (dSee 1) (dC (.int 0))) (dSee 0)) dNil))))))
  (sRet (dOfN (dCatL (dOfN (dCons (dVar 3) dNil)) (dOfN (dComp ["doors"] [("begin", 3)] (dItems (dOfN (dCut (dSee 2) (dO1 (dC (.int 1))) dO0))) (gSet 0) dYes (dCall (g 8) (dCons (dVar 0) (dCons (dVar 1) dNil))))))))))
theorem sc_loop_door : FnScope ["holds", "door"] ["holds", "door"] (defScope s_loop_door) := ⟨rfl, rfl, rfl, by decide +kernel, rfl, by decide +kernel, by decide +kernel⟩
-- slots: 0 holds, 1 door
def d_loop_door (g : Nat → List PV → Rx PV) : DS :=
  (sSeq (sIf (dNotT (dTr (dVar 0)))
  (sRet (dTup (dCons (dC (.str "done")) (dCons (dC (.int 0)) dNil))))
  sNext)
  (sSeq (sIf (dTr (d2 fEq (d2 fIx (dSee 1) (dC (.int 0))) (dC (.str "done"))))
  (sRet (dTup (dCons (dC (.str "hung")) (dCons (dC (.int 0)) dNil))))
  sNext)
  (sRet (dVar 1))))
theorem sc_gone_on : FnScope ["doors", "later"] ["doors", "later"] (defScope s_gone_on) := ⟨rfl, rfl, rfl, by decide +kernel, rfl, by decide +kernel, by decide +kernel⟩
-- slots: 0 doors, 1 later
def d_gone_on (g : Nat → List PV → Rx PV) : DS :=
  (sRet (dOfN (dComp ["setting"] [("later", 1), ("doors", 0)] (dRng1 (dCons (dC (.int (16))) dNil)) (gSet 0) dYes (dIfV (dTr (d2 fEq (d2 fIx (d2 fIx (dSee 2) (dSee 0)) (dC (.int 0))) (dC (.str "done")))) (d2 fIx (dSee 1) (dSee 0)) (d2 fIx (dSee 2) (dSee 0))))))
theorem sc_l_cell_at : FnScope ["_law_script", "_law_k"] ["_law_script", "_law_k"] (defScope s_l_cell_at) := ⟨rfl, rfl, rfl, by decide +kernel, rfl, by decide +kernel, by decide +kernel⟩
-- slots: 0 _law_script, 1 _law_k
def d_l_cell_at (g : Nat → List PV → Rx PV) : DS :=
  (sSeq (sIf (dTr (d2 fLt (dSee 1) (dCall bLen (dCons (dSee 0) dNil))))
  (sRet (d2 fIx (dSee 0) (dSee 1)))
  sNext)
  (sRet (dC (.int 0))))
theorem sc_l_draw : FnScope ["_law_cell", "_law_k", "_law_number"] ["_law_cell", "_law_k"] (defScope s_l_draw) := ⟨rfl, rfl, rfl, by decide +kernel, rfl, by decide +kernel, by decide +kernel⟩
-- slots: 0 _law_cell, 1 _law_k, 2 _law_number
def d_l_draw (g : Nat → List PV → Rx PV) : DS :=
  (sSeq (sSet 2 (d2 fMod (d2 fMul (d2 fAdd (d2 fAdd (dSee 0) (d2 fMul (dC (.int 7919)) (dSee 1))) (dC (.int 1))) (dC (.int 48271))) (dC (.int 2147483647))))
  (sRet (d2 fMod (d2 fMul (dSee 2) (d2 fAdd (d2 fDiv (dSee 2) (dC (.int 1009))) (dC (.int 69621)))) (dC (.int 2147483647)))))
theorem sc_l_sign : FnScope ["_law_test_here", "_law_one", "_law_two", "_law_kind", "_law_i", "_law_j"] ["_law_test_here"] (defScope s_l_sign) := ⟨rfl, rfl, rfl, by decide +kernel, rfl, by decide +kernel, by decide +kernel⟩
-- slots: 0 _law_test_here, 1 _law_one, 2 _law_two, 3 _law_kind, 4 _law_i, 5 _law_j
def d_l_sign (g : Nat → List PV → Rx PV) : DS :=
  (sSeq (sAsg (gTupD 3 (gConsD (gSet 3) (gConsD (gSet 4) (gConsD (gSet 5) gNilD)))) (dVar 0))
  (sSeq (sSet 1 (dNew 9 (dCons (d2 fIx (dC (.str "abcd")) (dSee 4)) dNil)))
  (sSeq (sSet 2 (dNew 9 (dCons (d2 fIx (dC (.str "abcd")) (dSee 5)) dNil)))
  (sSeq (sIf (dTr (d2 fEq (dSee 3) (dC (.int 1))))
  (sRet (dNew 10 (dCons (dVar 1) dNil)))
  sNext)
  (sSeq (sIf (dTr (d2 fEq (dSee 3) (dC (.int 2))))
  (sRet (dNew 11 (dCons (dVar 1) (dCons (dVar 2) dNil))))
  sNext)
  (sSeq (sIf (dTr (d2 fEq (dSee 3) (dC (.int 3))))
  (sRet (dNew 12 (dCons (dVar 1) (dCons (dNew 10 (dCons (dVar 2) dNil)) dNil))))
  sNext)
  (sSeq (sIf (dTr (d2 fEq (dSee 3) (dC (.int 4))))
  (sRet (dC (.obj 8 [])))
  sNext)
  (sSeq (sIf (dTr (d2 fEq (dSee 3) (dC (.int 5))))
  (sRet (dNew 11 (dCons (dVar 1) (dCons (dNew 10 (dCons (dVar 2) dNil)) dNil))))
  sNext)
  (sRet (dVar 1))))))))))
theorem sc_l_holds : FnScope ["_law_test_here", "_law_s", "_law_one", "_law_two", "_law_kind", "_law_i", "_law_j"] ["_law_test_here", "_law_s"] (defScope s_l_holds) := ⟨rfl, rfl, rfl, by decide +kernel, rfl, by decide +kernel, by decide +kernel⟩
-- slots: 0 _law_test_here, 1 _law_s, 2 _law_one, 3 _law_two, 4 _law_kind, 5 _law_i, 6 _law_j
def d_l_holds (g : Nat → List PV → Rx PV) : DS :=
  (sSeq (sAsg (gTupD 3 (gConsD (gSet 4) (gConsD (gSet 5) (gConsD (gSet 6) gNilD)))) (dVar 0))
  (sSeq (sSet 2 (d2 fEq (d2 fAnd (d2 fShr (dSee 1) (dSee 5)) (dC (.int 1))) (dC (.int 1))))
  (sSeq (sSet 3 (d2 fEq (d2 fAnd (d2 fShr (dSee 1) (dSee 6)) (dC (.int 1))) (dC (.int 1))))
  (sRet (d2 fIx (dOfN (dCons (dVar 2) (dCons (dNotV (dVar 2)) (dCons (dAndV (dVar 2) (dVar 3)) (dCons (dOrV (dVar 2) (dNotV (dVar 3))) (dCons (dC (.bl true)) (dCons (dAndV (dVar 2) (dNotV (dVar 3))) dNil))))))) (dSee 4))))))
theorem sc_l_test : FnScope ["_law_cell"] ["_law_cell"] (defScope s_l_test) := ⟨rfl, rfl, rfl, by decide +kernel, rfl, by decide +kernel, by decide +kernel⟩
-- slots: 0 _law_cell
def d_l_test (g : Nat → List PV → Rx PV) : DS :=
  (sRet (dTup (dCons (d2 fMod (dSee 0) (dC (.int 6))) (dCons (d2 fMod (d2 fDiv (dSee 0) (dC (.int 6))) (dC (.int 4))) (dCons (d2 fMod (d2 fDiv (dSee 0) (dC (.int 24))) (dC (.int 4))) dNil)))))
theorem sc_l_grown : FnScope ["_law_prog_here", "_law_cell", "_law_way", "_law_deed", "_law_test_here"] ["_law_prog_here", "_law_cell"] (defScope s_l_grown) := ⟨rfl, rfl, rfl, by decide +kernel, rfl, by decide +kernel, by decide +kernel⟩
-- slots: 0 _law_prog_here, 1 _law_cell, 2 _law_way, 3 _law_deed, 4 _law_test_here
def d_l_grown (g : Nat → List PV → Rx PV) : DS :=
  (sSeq (sSet 2 (d2 fMod (dCall (g 10) (dCons (dVar 1) (dCons (dC (.int 0)) dNil))) (dC (.int 8))))
  (sSeq (sSet 3 (dTup (dCons (dC (.str "deed")) (dCons (d2 fIx (dC (.str "PQRST")) (d2 fMod (dCall (g 10) (dCons (dVar 1) (dCons (dC (.int 1)) dNil))) (dC (.int 5)))) dNil))))
  (sSeq (sSet 4 (dCall (g 13) (dCons (dCall (g 10) (dCons (dVar 1) (dCons (dC (.int 2)) dNil))) dNil)))
  (sSeq (sIf (dTr (d2 fEq (dSee 2) (dC (.int 0))))
  (sRet (dTup (dCons (dC (.str "row")) (dCons (dVar 0) (dCons (dVar 3) dNil)))))
  sNext)
  (sSeq (sIf (dTr (d2 fEq (dSee 2) (dC (.int 1))))
  (sRet (dTup (dCons (dC (.str "row")) (dCons (dVar 3) (dCons (dVar 0) dNil)))))
  sNext)
  (sSeq (sIf (dTr (d2 fEq (dSee 2) (dC (.int 2))))
  (sRet (dTup (dCons (dC (.str "loop")) (dCons (dVar 4) (dCons (dVar 0) dNil)))))
  sNext)
  (sSeq (sIf (dTr (d2 fEq (dSee 2) (dC (.int 3))))
  (sRet (dTup (dCons (dC (.str "choice")) (dCons (dVar 4) (dCons (dVar 0) (dCons (dVar 3) dNil))))))
  sNext)
  (sSeq (sIf (dTr (d2 fEq (dSee 2) (dC (.int 4))))
  (sRet (dTup (dCons (dC (.str "choice")) (dCons (dVar 4) (dCons (dVar 3) (dCons (dVar 0) dNil))))))
  sNext)
  (sSeq (sIf (dTr (d2 fEq (dSee 2) (dC (.int 5))))
  (sRet (dTup (dCons (dC (.str "row")) (dCons (dVar 0) (dCons (dTup (dCons (dC (.str "choice")) (dCons (dVar 4) (dCons (dTup (dCons (dC (.str "stop")) dNil)) (dCons (dTup (dCons (dC (.str "skip")) dNil)) dNil))))) dNil)))))
  sNext)
  (sSeq (sIf (dTr (d2 fEq (dSee 2) (dC (.int 6))))
  (sRet (dTup (dCons (dC (.str "row")) (dCons (dTup (dCons (dC (.str "loop")) (dCons (dVar 4) (dCons (dVar 3) dNil)))) (dCons (dVar 0) dNil)))))
  sNext)
  (sRet (dTup (dCons (dC (.str "choice")) (dCons (dVar 4) (dCons (dTup (dCons (dC (.str "skip")) dNil)) (dCons (dVar 0) dNil))))))))))))))))
theorem sc_l_prog : FnScope ["_law_cell", "_law_cells", "_law_prog_here", "_law_one"] ["_law_cell", "_law_cells"] (defScope s_l_prog) := ⟨rfl, rfl, rfl, by decide +kernel, rfl, by decide +kernel, by decide +kernel⟩
-- slots: 0 _law_cell, 1 _law_cells, 2 _law_prog_here, 3 _law_one
def b_l_prog_1 (g : Nat → List PV → Rx PV) : DS :=
  (sSet 2 (dCall (g 14) (dCons (dVar 2) (dCons (dVar 3) dNil))))
def d_l_prog (g : Nat → List PV → Rx PV) : DS :=
  (sSeq (sSet 2 (d2 fIx (dOfN (dCons (dTup (dCons (dC (.str "deed")) (dCons (d2 fIx (dC (.str "PQRST")) (d2 fMod (d2 fDiv (dSee 0) (dC (.int 4))) (dC (.int 5)))) dNil))) (dCons (dTup (dCons (dC (.str "skip")) dNil)) (dCons (dTup (dCons (dC (.str "stop")) dNil)) (dCons (dTup (dCons (dC (.str "deed")) (dCons (dC (.str "P")) dNil))) dNil))))) (d2 fMod (dSee 0) (dC (.int 4)))))
  (sSeq (sFor (dItems (dVar 1)) (gSet 3)
  (b_l_prog_1 g))
  (sRet (dVar 2))))
theorem sc_l_built : FnScope ["_law_prog_here"] ["_law_prog_here"] (defScope s_l_built) := ⟨rfl, rfl, rfl, by decide +kernel, rfl, by decide +kernel, by decide +kernel⟩
-- slots: 0 _law_prog_here
def d_l_built (g : Nat → List PV → Rx PV) : DS :=
  (sSeq (sIf (dTr (d2 fEq (d2 fIx (dSee 0) (dC (.int 0))) (dC (.str "deed"))))
  (sRet (dNew 3 (dCons (d2 fIx (dSee 0) (dC (.int 1))) dNil)))
  sNext)
  (sSeq (sIf (dTr (d2 fEq (d2 fIx (dSee 0) (dC (.int 0))) (dC (.str "row"))))
  (sRet (dNew 4 (dCons (dCall (g 16) (dCons (d2 fIx (dSee 0) (dC (.int 1))) dNil)) (dCons (dCall (g 16) (dCons (d2 fIx (dSee 0) (dC (.int 2))) dNil)) dNil))))
  sNext)
  (sSeq (sIf (dTr (d2 fEq (d2 fIx (dSee 0) (dC (.int 0))) (dC (.str "choice"))))
  (sRet (dNew 5 (dCons (dCall (g 11) (dCons (d2 fIx (dSee 0) (dC (.int 1))) dNil)) (dCons (dCall (g 16) (dCons (d2 fIx (dSee 0) (dC (.int 2))) dNil)) (dCons (dCall (g 16) (dCons (d2 fIx (dSee 0) (dC (.int 3))) dNil)) dNil)))))
  sNext)
  (sSeq (sIf (dTr (d2 fEq (d2 fIx (dSee 0) (dC (.int 0))) (dC (.str "loop"))))
  (sRet (dNew 6 (dCons (dCall (g 11) (dCons (d2 fIx (dSee 0) (dC (.int 1))) dNil)) (dCons (dCall (g 16) (dCons (d2 fIx (dSee 0) (dC (.int 2))) dNil)) dNil))))
  sNext)
  (sSeq (sIf (dTr (d2 fEq (d2 fIx (dSee 0) (dC (.int 0))) (dC (.str "stop"))))
  (sRet (dC (.obj 2 [])))
  sNext)
  (sRet (dC (.obj 1 []))))))))
theorem sc_l_first : FnScope ["_law_prog_here", "_law_s", "_law_what", "_law_left"] ["_law_prog_here", "_law_s"] (defScope s_l_first) := ⟨rfl, rfl, rfl, by decide +kernel, rfl, by decide +kernel, by decide +kernel⟩
-- slots: 0 _law_prog_here, 1 _law_s, 2 _law_what, 3 _law_left
def d_l_first (g : Nat → List PV → Rx PV) : DS :=
  (sSeq (sIf (dTr (d2 fEq (d2 fIx (dSee 0) (dC (.int 0))) (dC (.str "deed"))))
  (sRet (dTup (dCons (d2 fIx (dSee 0) (dC (.int 1))) (dCons (dTup (dCons (dC (.str "skip")) dNil)) dNil))))
  sNext)
  (sSeq (sIf (dTr (d2 fEq (d2 fIx (dSee 0) (dC (.int 0))) (dC (.str "choice"))))
  (sRet (dCall (g 17) (dCons (d2 fIx (dSee 0) (d2 fAdd (dC (.int 2)) (dCall bInt (dCons (dNotV (dCall (g 12) (dCons (d2 fIx (dSee 0) (dC (.int 1))) (dCons (dVar 1) dNil)))) dNil)))) (dCons (dVar 1) dNil))))
  sNext)
  (sSeq (sIf (dTr (d2 fEq (d2 fIx (dSee 0) (dC (.int 0))) (dC (.str "row"))))
  (sSeq (sAsg (gTupD 2 (gConsD (gSet 2) (gConsD (gSet 3) gNilD))) (dCall (g 17) (dCons (d2 fIx (dSee 0) (dC (.int 1))) (dCons (dVar 1) dNil))))
  (sSeq (sIf (dTr (d2 fEq (dSee 2) (dC (.str "done"))))
  (sRet (dCall (g 17) (dCons (d2 fIx (dSee 0) (dC (.int 2))) (dCons (dVar 1) dNil))))
  sNext)
  (sSeq (sIf (dTr (dIsN (dSee 3)))
  (sRet (dTup (dCons (dVar 2) (dCons (dC .non) dNil))))
  sNext)
  (sRet (dTup (dCons (dVar 2) (dCons (dTup (dCons (dC (.str "row")) (dCons (dVar 3) (dCons (d2 fIx (dSee 0) (dC (.int 2))) dNil)))) dNil)))))))
  sNext)
  (sSeq (sIf (dAndT (dTr (d2 fEq (d2 fIx (dSee 0) (dC (.int 0))) (dC (.str "loop")))) (dTr (dCall (g 12) (dCons (d2 fIx (dSee 0) (dC (.int 1))) (dCons (dVar 1) dNil)))))
  (sSeq (sAsg (gTupD 2 (gConsD (gSet 2) (gConsD (gSet 3) gNilD))) (dCall (g 17) (dCons (d2 fIx (dSee 0) (dC (.int 2))) (dCons (dVar 1) dNil))))
  (sSeq (sIf (dTr (d2 fEq (dSee 2) (dC (.str "done"))))
  (sRet (dTup (dCons (dC (.str "hung")) (dCons (dC .non) dNil))))
  sNext)
  (sSeq (sIf (dTr (dIsN (dSee 3)))
  (sRet (dTup (dCons (dVar 2) (dCons (dC .non) dNil))))
  sNext)
  (sRet (dTup (dCons (dVar 2) (dCons (dTup (dCons (dC (.str "row")) (dCons (dVar 3) (dCons (dVar 0) dNil)))) dNil)))))))
  sNext)
  (sSeq (sIf (dTr (d2 fEq (d2 fIx (dSee 0) (dC (.int 0))) (dC (.str "stop"))))
  (sRet (dTup (dCons (dC (.str "stopped")) (dCons (dC .non) dNil))))
  sNext)
  (sRet (dTup (dCons (dC (.str "done")) (dCons (dC .non) dNil)))))))))
theorem sc_l_led : FnScope ["_law_offsets", "_law_deed", "_law_state"] ["_law_offsets", "_law_deed", "_law_state"] (defScope s_l_led) := ⟨rfl, rfl, rfl, by decide +kernel, rfl, by decide +kernel, by decide +kernel⟩
-- slots: 0 _law_offsets, 1 _law_deed, 2 _law_state
def d_l_led (g : Nat → List PV → Rx PV) : DS :=
  (sRet (d2 fAdd (d2 fDiv (dSee 2) (dC (.int 16))) (d2 fIx (dSee 0) (d2 fIndexS (dC (.str "PQRST")) (dVar 1)))))
theorem sc_l_run : FnScope ["_law_prog_here", "_law_offsets", "_law_state", "_law_most", "_law_deeds", "_law_what", "_law_left"] ["_law_prog_here", "_law_offsets", "_law_state", "_law_most"] (defScope s_l_run) := ⟨rfl, rfl, rfl, by decide +kernel, rfl, by decide +kernel, by decide +kernel⟩
-- slots: 0 _law_prog_here, 1 _law_offsets, 2 _law_state, 3 _law_most, 4 _law_deeds, 5 _law_what, 6 _law_left
def b_l_run_1 (g : Nat → List PV → Rx PV) : DS :=
  (sSeq (sIf (dTr (d2 fEq (dCall bLen (dCons (dSee 4) dNil)) (dSee 3)))
  (sRet (dTup (dCons (dVar 4) (dCons (dC (.str "more")) (dCons (dVar 2) dNil)))))
  sNext)
  (sSeq (sSet 4 (d2 fCatS (dSee 4) (dSee 5)))
  (sSeq (sSet 2 (dCall (g 18) (dCons (dVar 1) (dCons (dVar 5) (dCons (dVar 2) dNil)))))
  (sAsg (gTupD 2 (gConsD (gSet 5) (gConsD (gSet 6) gNilD))) (dCall (g 17) (dCons (dVar 6) (dCons (d2 fMod (dSee 2) (dC (.int 16))) dNil)))))))
def d_l_run (g : Nat → List PV → Rx PV) : DS :=
  (sSeq (sSet 4 (dC (.str "")))
  (sSeq (sAsg (gTupD 2 (gConsD (gSet 5) (gConsD (gSet 6) gNilD))) (dCall (g 17) (dCons (dVar 0) (dCons (d2 fMod (dSee 2) (dC (.int 16))) dNil))))
  (sSeq (sWhileM (mOfT (dTr (dNotN (dSee 6))))
  (b_l_run_1 g))
  (sRet (dTup (dCons (dVar 4) (dCons (dVar 5) (dCons (dVar 2) dNil))))))))
theorem sc_l_alike : FnScope ["_law_found", "_law_due"] ["_law_found", "_law_due"] (defScope s_l_alike) := ⟨rfl, rfl, rfl, by decide +kernel, rfl, by decide +kernel, by decide +kernel⟩
-- slots: 0 _law_found, 1 _law_due
def d_l_alike (g : Nat → List PV → Rx PV) : DS :=
  (sSeq (sIf (dOrT (dNotT (dTr (dIsi i_tuple (dSee 0)))) (dOrT (dTr (d2 fNe (dCall bLen (dCons (dSee 0) dNil)) (dC (.int 3)))) (dTr (dIsi i_bool (d2 fIx (dSee 0) (dC (.int 2)))))))
  (sRet (dC (.bl false)))
  sNext)
  (sRet (d2 fEq (dSee 0) (dSee 1))))
theorem sc_law : FnScope ["_law_script", "_law_prog_here", "_law_offsets", "_law_start", "_law_most", "_law_step", "_law_world", "_law_told", "_law_found", "_law_fewer", "_law_head"] ["_law_script"] (defScope s_law) := ⟨rfl, rfl, rfl, by decide +kernel, rfl, by decide +kernel, by decide +kernel⟩
-- slots: 0 _law_script, 1 _law_prog_here, 2 _law_offsets, 3 _law_start, 4 _law_most, 5 _law_step, 6 _law_world, 7 _law_told, 8 _law_found, 9 _law_fewer, 10 _law_head
def d_law (g : Nat → List PV → Rx PV) : DS :=
  (sSeq (sSet 1 (dCall (g 15) (dCons (dCall (g 9) (dCons (dVar 0) (dCons (dC (.int 0)) dNil))) (dCons (dOfN (dCut (dSee 0) (dO1 (dC (.int 3))) (dO1 (dC (.int 10))))) dNil))))
  (sSeq (sSet 2 (dOfN (dComp ["_law_k"] [("_law_script", 0)] (dRng1 (dCons (dC (.int 5)) dNil)) (gSet 0) dYes (d2 fMod (dCall (g 10) (dCons (dCall (g 9) (dCons (dVar 1) (dCons (dC (.int 1)) dNil))) (dCons (dVar 0) dNil))) (dC (.int 23))))))
  (sSeq (sSet 3 (dCall (g 9) (dCons (dVar 0) (dCons (dC (.int 2)) dNil))))
  (sSeq (sSet 4 (d2 fMod (dCall (g 9) (dCons (dVar 0) (dCons (dC (.int 1)) dNil))) (dC (.int 15))))
  (sSeq (sIf (dTr (d2 fEq (d2 fMod (d2 fDiv (dCall (g 9) (dCons (dVar 0) (dCons (dC (.int 1)) dNil))) (dC (.int 15))) (dC (.int 4))) (dC (.int 2))))
  (sSet 4 (d2 fAdd (dC (.int 15)) (d2 fMod (d2 fDiv (dCall (g 9) (dCons (dVar 0) (dCons (dC (.int 1)) dNil))) (dC (.int 60))) (dC (.int 26)))))
  sNext)
  (sSeq (sIf (dTr (d2 fEq (d2 fMod (d2 fDiv (dCall (g 9) (dCons (dVar 0) (dCons (dC (.int 1)) dNil))) (dC (.int 15))) (dC (.int 64))) (dC (.int 1))))
  (sSet 4 (d2 fAdd (dC (.int 900)) (d2 fMod (d2 fDiv (dCall (g 9) (dCons (dVar 0) (dCons (dC (.int 1)) dNil))) (dC (.int 960))) (dC (.int 2101)))))
  sNext)
  (sSeq (sSet 5 (dCall (g 16) (dCons (dVar 1) dNil)))
  (sSeal (sSeq (sSet 6 (dNew 14 (dCons (dLam 38 []) (dCons (dLam 39 [2]) dNil))))
  (sSeq (sSet 7 (dCall (g 36) (dCons (dVar 5) dNil)))
  (sSeq (sSet 8 (dMeth q_run g (dVar 7) (dCons (dVar 6) (dCons (dVar 3) (dCons (dVar 4) dNil)))))
  (sSeq (sIf (dAndT (dTr (d2 fLe (dSee 4) (dC (.int 40)))) (dNotT (dTr (dCall (g 20) (dCons (dVar 8) (dCons (dCall (g 19) (dCons (dVar 1) (dCons (dVar 2) (dCons (dVar 3) (dCons (dVar 4) dNil))))) dNil))))))
  (sRet (dC (.bl false)))
  sNext)
  (sSeq (sIf (dTr (d2 fNe (dSee 8) (dCall (g 0) (dCons (dVar 5) (dCons (dVar 6) (dCons (dVar 3) (dCons (dVar 4) dNil)))))))
  (sRet (dC (.bl false)))
  sNext)
  (sSeq (sSet 9 (d2 fDiv (dSee 4) (dC (.int 2))))
  (sSeq (sSet 10 (dMeth q_run g (dVar 7) (dCons (dVar 6) (dCons (dVar 3) (dCons (dVar 9) dNil)))))
  (sSeq (sIf (dOrT (dNotT (dTr (d2 fStarts (d2 fIx (dSee 8) (dC (.int 0))) (d2 fIx (dSee 10) (dC (.int 0)))))) (dTr (d2 fNe (dCall bLen (dCons (d2 fIx (dSee 10) (dC (.int 0))) dNil)) (dCall bMin2 (dCons (dVar 9) (dCons (dCall bLen (dCons (d2 fIx (dSee 8) (dC (.int 0))) dNil)) dNil))))))
  (sRet (dC (.bl false)))
  sNext)
  (sSeq (sIf (dTr (d2 fGt (dSee 4) (dC (.int 40))))
  (sRet (dC (.bl true)))
  sNext)
  (sRet (dAndV (d2 fEq (dSee 10) (dCall (g 0) (dCons (dVar 5) (dCons (dVar 6) (dCons (dVar 3) (dCons (dVar 9) dNil)))))) (d2 fEq (dMeth q_run g (dVar 7) (dCons (dVar 6) (dCons (dVar 3) (dCons (dVar 4) dNil)))) (dSee 8)))))))))))))))))))))
theorem sc_Skip_first : FnScope ["self", "setting"] ["self", "setting"] (defScope s_Skip_first) := ⟨rfl, rfl, rfl, by decide +kernel, rfl, by decide +kernel, by decide +kernel⟩
-- slots: 0 self, 1 setting
def d_Skip_first (g : Nat → List PV → Rx PV) : DS :=
  (sRet (dTup (dCons (dC (.str "done")) (dCons (dC .non) dNil))))
theorem sc_Stop_first : FnScope ["self", "setting"] ["self", "setting"] (defScope s_Stop_first) := ⟨rfl, rfl, rfl, by decide +kernel, rfl, by decide +kernel, by decide +kernel⟩
-- slots: 0 self, 1 setting
def d_Stop_first (g : Nat → List PV → Rx PV) : DS :=
  (sRet (dTup (dCons (dC (.str "stopped")) (dCons (dC .non) dNil))))
theorem sc_Deed_first : FnScope ["self", "setting"] ["self", "setting"] (defScope s_Deed_first) := ⟨rfl, rfl, rfl, by decide +kernel, rfl, by decide +kernel, by decide +kernel⟩
-- slots: 0 self, 1 setting
def d_Deed_first (g : Nat → List PV → Rx PV) : DS :=
  (sRet (dTup (dCons (dFld a_name (dVar 0)) (dCons (dC (.obj 1 [])) dNil))))
theorem sc_Row_first : FnScope ["self", "setting", "begun"] ["self", "setting"] (defScope s_Row_first) := ⟨rfl, rfl, rfl, by decide +kernel, rfl, by decide +kernel, by decide +kernel⟩
-- slots: 0 self, 1 setting, 2 begun
def d_Row_first (g : Nat → List PV → Rx PV) : DS :=
  (sSeq (sSet 2 (dMeth q_first g (dFld a_head (dVar 0)) (dCons (dVar 1) dNil)))
  (sSeq (sIf (dTr (d2 fEq (d2 fIx (dSee 2) (dC (.int 0))) (dC (.str "done"))))
  (sRet (dMeth q_first g (dFld a_tail (dVar 0)) (dCons (dVar 1) dNil)))
  sNext)
  (sSeq (sIf (dTr (dIsN (d2 fIx (dSee 2) (dC (.int 1)))))
  (sRet (dVar 2))
  sNext)
  (sRet (dTup (dCons (d2 fIx (dSee 2) (dC (.int 0))) (dCons (dNew 4 (dCons (d2 fIx (dSee 2) (dC (.int 1))) (dCons (dFld a_tail (dVar 0)) dNil))) dNil)))))))
theorem sc_Choice_first : FnScope ["self", "setting"] ["self", "setting"] (defScope s_Choice_first) := ⟨rfl, rfl, rfl, by decide +kernel, rfl, by decide +kernel, by decide +kernel⟩
-- slots: 0 self, 1 setting
def d_Choice_first (g : Nat → List PV → Rx PV) : DS :=
  (sSeq (sIf (dTr (dMeth q_holds g (dFld a_test (dVar 0)) (dCons (dVar 1) dNil)))
  (sRet (dMeth q_first g (dFld a_yes (dVar 0)) (dCons (dVar 1) dNil)))
  sNext)
  (sRet (dMeth q_first g (dFld a_no (dVar 0)) (dCons (dVar 1) dNil))))
theorem sc_Loop_first : FnScope ["self", "setting", "begun"] ["self", "setting"] (defScope s_Loop_first) := ⟨rfl, rfl, rfl, by decide +kernel, rfl, by decide +kernel, by decide +kernel⟩
-- slots: 0 self, 1 setting, 2 begun
def d_Loop_first (g : Nat → List PV → Rx PV) : DS :=
  (sSeq (sIf (dNotT (dTr (dMeth q_holds g (dFld a_test (dVar 0)) (dCons (dVar 1) dNil))))
  (sRet (dTup (dCons (dC (.str "done")) (dCons (dC .non) dNil))))
  sNext)
  (sSeq (sSet 2 (dMeth q_first g (dFld a_body (dVar 0)) (dCons (dVar 1) dNil)))
  (sSeq (sIf (dTr (d2 fEq (d2 fIx (dSee 2) (dC (.int 0))) (dC (.str "done"))))
  (sRet (dTup (dCons (dC (.str "hung")) (dCons (dC .non) dNil))))
  sNext)
  (sSeq (sIf (dTr (dIsN (d2 fIx (dSee 2) (dC (.int 1)))))
  (sRet (dVar 2))
  sNext)
  (sRet (dTup (dCons (d2 fIx (dSee 2) (dC (.int 0))) (dCons (dNew 4 (dCons (d2 fIx (dSee 2) (dC (.int 1))) (dCons (dVar 0) dNil))) dNil))))))))
theorem sc_Yes_holds : FnScope ["self", "setting"] ["self", "setting"] (defScope s_Yes_holds) := ⟨rfl, rfl, rfl, by decide +kernel, rfl, by decide +kernel, by decide +kernel⟩
-- slots: 0 self, 1 setting
def d_Yes_holds (g : Nat → List PV → Rx PV) : DS :=
  (sRet (dC (.bl true)))
theorem sc_Named_holds : FnScope ["self", "setting"] ["self", "setting"] (defScope s_Named_holds) := ⟨rfl, rfl, rfl, by decide +kernel, rfl, by decide +kernel, by decide +kernel⟩
-- slots: 0 self, 1 setting
def d_Named_holds (g : Nat → List PV → Rx PV) : DS :=
  (sRet (d2 fEq (d2 fAnd (d2 fShr (dSee 1) (dIndex c_LETTERS (dFld a_name (dVar 0)))) (dC (.int 1))) (dC (.int 1))))
theorem sc_Not_holds : FnScope ["self", "setting"] ["self", "setting"] (defScope s_Not_holds) := ⟨rfl, rfl, rfl, by decide +kernel, rfl, by decide +kernel, by decide +kernel⟩
-- slots: 0 self, 1 setting
def d_Not_holds (g : Nat → List PV → Rx PV) : DS :=
  (sRet (dNotV (dMeth q_holds g (dFld a_inner (dVar 0)) (dCons (dVar 1) dNil))))
theorem sc_Both_holds : FnScope ["self", "setting"] ["self", "setting"] (defScope s_Both_holds) := ⟨rfl, rfl, rfl, by decide +kernel, rfl, by decide +kernel, by decide +kernel⟩
-- slots: 0 self, 1 setting
def d_Both_holds (g : Nat → List PV → Rx PV) : DS :=
  (sRet (dAndV (dMeth q_holds g (dFld a_left (dVar 0)) (dCons (dVar 1) dNil)) (dMeth q_holds g (dFld a_right (dVar 0)) (dCons (dVar 1) dNil))))
theorem sc_Either_holds : FnScope ["self", "setting"] ["self", "setting"] (defScope s_Either_holds) := ⟨rfl, rfl, rfl, by decide +kernel, rfl, by decide +kernel, by decide +kernel⟩
-- slots: 0 self, 1 setting
def d_Either_holds (g : Nat → List PV → Rx PV) : DS :=
  (sRet (dOrV (dMeth q_holds g (dFld a_left (dVar 0)) (dCons (dVar 1) dNil)) (dMeth q_holds g (dFld a_right (dVar 0)) (dCons (dVar 1) dNil))))
theorem sc_Rooms_run : FnScope ["self", "world", "state", "most"] ["self", "world", "state", "most"] (defScope s_Rooms_run) := ⟨rfl, rfl, rfl, by decide +kernel, rfl, by decide +kernel, by decide +kernel⟩
-- slots: 0 self, 1 world, 2 state, 3 most
def d_Rooms_run (g : Nat → List PV → Rx PV) : DS :=
  (sSeal (sRet (dCall (g 1) (dCons (dC (.int 0)) (dCons (dLam 40 [0]) (dCons (dVar 1) (dCons (dVar 2) (dCons (dVar 3) dNil))))))))
theorem sc_World_setting : FnScope ["self", "state"] ["self", "state"] (defScope s_World_setting) := ⟨rfl, rfl, rfl, by decide +kernel, rfl, by decide +kernel, by decide +kernel⟩
-- slots: 0 self, 1 state
def d_World_setting (g : Nat → List PV → Rx PV) : DS :=
  (sRet (dCallA tC g a_says (dVar 0) (dCons (dVar 1) dNil)))
theorem sc_World_led : FnScope ["self", "deed", "state"] ["self", "deed", "state"] (defScope s_World_led) := ⟨rfl, rfl, rfl, by decide +kernel, rfl, by decide +kernel, by decide +kernel⟩
-- slots: 0 self, 1 deed, 2 state
def d_World_led (g : Nat → List PV → Rx PV) : DS :=
  (sRet (dCallA tC g a_leads (dVar 0) (dCons (dVar 1) (dCons (dVar 2) dNil))))
theorem sc_Rooms_init : FnScope ["self", "step"] ["self", "step"] (defScope s_Rooms_init) := ⟨rfl, rfl, rfl, by decide +kernel, rfl, by decide +kernel, by decide +kernel⟩
-- slots: 0 self, 1 step
def d_Rooms_init (g : Nat → List PV → Rx PV) : DS :=
  (sSeq (sIni 13 0 (dVar 1))
  (sIni 13 1 (dCall (g 2) (dCons (dVar 1) (dCons (dC (.int 0)) dNil)))))
theorem sc_run_from_n1 : NScope ["left", "setting"] ["left", "setting"] [] n_run_from_n1.scope := ⟨rfl, rfl, rfl, by decide +kernel, rfl, by decide +kernel, by decide +kernel, by decide +kernel, by decide +kernel⟩
-- slots: 0 left, 1 setting
def d_run_from_n1 (g : Nat → List PV → Rx PV) : DP :=
  (dMeth q_first g (dVar 0) (dCons (dVar 1) dNil))
theorem sc_law_n1 : NScope ["_law_state"] ["_law_state"] [] n_law_n1.scope := ⟨rfl, rfl, rfl, by decide +kernel, rfl, by decide +kernel, by decide +kernel, by decide +kernel, by decide +kernel⟩
-- slots: 0 _law_state
def d_law_n1 (g : Nat → List PV → Rx PV) : DP :=
  (d2 fMod (dSee 0) (dC (.int 16)))
theorem sc_law_n2 : NScope ["_law_deed", "_law_state", "_law_offsets"] ["_law_deed", "_law_state"] ["_law_offsets"] n_law_n2.scope := ⟨rfl, rfl, rfl, by decide +kernel, rfl, by decide +kernel, by decide +kernel, by decide +kernel, by decide +kernel⟩
-- slots: 0 _law_deed, 1 _law_state, 2 _law_offsets
def d_law_n2 (g : Nat → List PV → Rx PV) : DP :=
  (dCall (g 18) (dCons (dVar 2) (dCons (dVar 0) (dCons (dVar 1) dNil))))
theorem sc_Rooms_run_n1 : NScope ["room", "setting", "self"] ["room", "setting"] ["self"] n_Rooms_run_n1.scope := ⟨rfl, rfl, rfl, by decide +kernel, rfl, by decide +kernel, by decide +kernel, by decide +kernel, by decide +kernel⟩
-- slots: 0 room, 1 setting, 2 self
def d_Rooms_run_n1 (g : Nat → List PV → Rx PV) : DP :=
  (d2 fIx (d2 fIx (dFld a_doors (dVar 2)) (dSee 0)) (dSee 1))
def gF : Nat → Nat → List PV → Rx PV
  | 0, _, _ => .bad
  | n + 1, 0, ws => runD [false, false, false, false] 4 (d_run_from (gF n)) ws
  | n + 1, 1, ws => runD [false, false, false, false, false] 8 (d_run_along (gF n)) ws
  | n + 1, 2, ws => runD [false, false] 2 (d_doors_of (gF n)) ws
  | n + 1, 3, ws => runD [false] 1 (d_ended (gF n)) ws
  | n + 1, 4, ws => runD [false, false] 4 (d_row_doors (gF n)) ws
  | n + 1, 5, ws => runD [false, false] 5 (d_choice_doors (gF n)) ws
  | n + 1, 6, ws => runD [false, false] 4 (d_loop_doors (gF n)) ws
  | n + 1, 7, ws => runD [false, false] 2 (d_loop_door (gF n)) ws
  | n + 1, 8, ws => runD [false, false] 2 (d_gone_on (gF n)) ws
  | n + 1, 9, ws => runD [false, false] 2 (d_l_cell_at (gF n)) ws
  | n + 1, 10, ws => runD [false, false] 3 (d_l_draw (gF n)) ws
  | n + 1, 11, ws => runD [false] 6 (d_l_sign (gF n)) ws
  | n + 1, 12, ws => runD [false, false] 7 (d_l_holds (gF n)) ws
  | n + 1, 13, ws => runD [false] 1 (d_l_test (gF n)) ws
  | n + 1, 14, ws => runD [false, false] 5 (d_l_grown (gF n)) ws
  | n + 1, 15, ws => runD [false, false] 4 (d_l_prog (gF n)) ws
  | n + 1, 16, ws => runD [false] 1 (d_l_built (gF n)) ws
  | n + 1, 17, ws => runD [false, false] 4 (d_l_first (gF n)) ws
  | n + 1, 18, ws => runD [false, false, false] 3 (d_l_led (gF n)) ws
  | n + 1, 19, ws => runD [false, false, false, false] 7 (d_l_run (gF n)) ws
  | n + 1, 20, ws => runD [false, false] 2 (d_l_alike (gF n)) ws
  | n + 1, 21, ws => runD [false] 11 (d_law (gF n)) ws
  | n + 1, 22, ws => runD [false, false] 2 (d_Skip_first (gF n)) ws
  | n + 1, 23, ws => runD [false, false] 2 (d_Stop_first (gF n)) ws
  | n + 1, 24, ws => runD [false, false] 2 (d_Deed_first (gF n)) ws
  | n + 1, 25, ws => runD [false, false] 3 (d_Row_first (gF n)) ws
  | n + 1, 26, ws => runD [false, false] 2 (d_Choice_first (gF n)) ws
  | n + 1, 27, ws => runD [false, false] 3 (d_Loop_first (gF n)) ws
  | n + 1, 28, ws => runD [false, false] 2 (d_Yes_holds (gF n)) ws
  | n + 1, 29, ws => runD [false, false] 2 (d_Named_holds (gF n)) ws
  | n + 1, 30, ws => runD [false, false] 2 (d_Not_holds (gF n)) ws
  | n + 1, 31, ws => runD [false, false] 2 (d_Both_holds (gF n)) ws
  | n + 1, 32, ws => runD [false, false] 2 (d_Either_holds (gF n)) ws
  | n + 1, 33, ws => runD [false, false, false, false] 4 (d_Rooms_run (gF n)) ws
  | n + 1, 34, ws => runD [false, false] 2 (d_World_setting (gF n)) ws
  | n + 1, 35, ws => runD [false, false, false] 3 (d_World_led (gF n)) ws
  | n + 1, 36, ws => runI 13 2 [false] 2 (d_Rooms_init (gF n)) ws
  | n + 1, 37, ws => runE [false, false] 2 (d_run_from_n1 (gF n)) ws
  | n + 1, 38, ws => runE [false] 1 (d_law_n1 (gF n)) ws
  | n + 1, 39, ws => runE [false, false, false] 3 (d_law_n2 (gF n)) ws
  | n + 1, 40, ws => runE [false, false, false] 3 (d_Rooms_run_n1 (gF n)) ws
  | _ + 1, _, _ => .bad
theorem g_run_from (n : Nat) (ws : List PV) : gF (n + 1) 0 ws = runD [false, false, false, false] 4 (d_run_from (gF n)) ws := rfl
theorem g_run_along (n : Nat) (ws : List PV) : gF (n + 1) 1 ws = runD [false, false, false, false, false] 8 (d_run_along (gF n)) ws := rfl
theorem g_doors_of (n : Nat) (ws : List PV) : gF (n + 1) 2 ws = runD [false, false] 2 (d_doors_of (gF n)) ws := rfl
theorem g_row_doors (n : Nat) (ws : List PV) : gF (n + 1) 4 ws = runD [false, false] 4 (d_row_doors (gF n)) ws := rfl
theorem g_choice_doors (n : Nat) (ws : List PV) : gF (n + 1) 5 ws = runD [false, false] 5 (d_choice_doors (gF n)) ws := rfl
theorem g_loop_doors (n : Nat) (ws : List PV) : gF (n + 1) 6 ws = runD [false, false] 4 (d_loop_doors (gF n)) ws := rfl
theorem g_loop_door (n : Nat) (ws : List PV) : gF (n + 1) 7 ws = runD [false, false] 2 (d_loop_door (gF n)) ws := rfl
theorem g_gone_on (n : Nat) (ws : List PV) : gF (n + 1) 8 ws = runD [false, false] 2 (d_gone_on (gF n)) ws := rfl
theorem g_l_cell_at (n : Nat) (ws : List PV) : gF (n + 1) 9 ws = runD [false, false] 2 (d_l_cell_at (gF n)) ws := rfl
theorem g_l_draw (n : Nat) (ws : List PV) : gF (n + 1) 10 ws = runD [false, false] 3 (d_l_draw (gF n)) ws := rfl
theorem g_l_sign (n : Nat) (ws : List PV) : gF (n + 1) 11 ws = runD [false] 6 (d_l_sign (gF n)) ws := rfl
theorem g_l_holds (n : Nat) (ws : List PV) : gF (n + 1) 12 ws = runD [false, false] 7 (d_l_holds (gF n)) ws := rfl
theorem g_l_test (n : Nat) (ws : List PV) : gF (n + 1) 13 ws = runD [false] 1 (d_l_test (gF n)) ws := rfl
theorem g_l_grown (n : Nat) (ws : List PV) : gF (n + 1) 14 ws = runD [false, false] 5 (d_l_grown (gF n)) ws := rfl
theorem g_l_prog (n : Nat) (ws : List PV) : gF (n + 1) 15 ws = runD [false, false] 4 (d_l_prog (gF n)) ws := rfl
theorem g_l_built (n : Nat) (ws : List PV) : gF (n + 1) 16 ws = runD [false] 1 (d_l_built (gF n)) ws := rfl
theorem g_l_first (n : Nat) (ws : List PV) : gF (n + 1) 17 ws = runD [false, false] 4 (d_l_first (gF n)) ws := rfl
theorem g_l_led (n : Nat) (ws : List PV) : gF (n + 1) 18 ws = runD [false, false, false] 3 (d_l_led (gF n)) ws := rfl
theorem g_l_run (n : Nat) (ws : List PV) : gF (n + 1) 19 ws = runD [false, false, false, false] 7 (d_l_run (gF n)) ws := rfl
theorem g_l_alike (n : Nat) (ws : List PV) : gF (n + 1) 20 ws = runD [false, false] 2 (d_l_alike (gF n)) ws := rfl
theorem g_law (n : Nat) (ws : List PV) : gF (n + 1) 21 ws = runD [false] 11 (d_law (gF n)) ws := rfl
theorem g_Rooms_init (n : Nat) (ws : List PV) : gF (n + 1) 36 ws = runI 13 2 [false] 2 (d_Rooms_init (gF n)) ws := rfl
theorem j_Rooms : ∀ (n : Nat) (ws : List PV) (w : PV), gF n 36 ws = .ok w → ∃ fs, w = .obj 13 fs
  | 0, ws, w, h => by cases h
  | n + 1, ws, w, h => runI_obj h
theorem g_run_from_n1 (n : Nat) (ws : List PV) : gF (n + 1) 37 ws = runE [false, false] 2 (d_run_from_n1 (gF n)) ws := rfl
theorem g_law_n1 (n : Nat) (ws : List PV) : gF (n + 1) 38 ws = runE [false] 1 (d_law_n1 (gF n)) ws := rfl
theorem g_law_n2 (n : Nat) (ws : List PV) : gF (n + 1) 39 ws = runE [false, false, false] 3 (d_law_n2 (gF n)) ws := rfl
theorem g_Rooms_run_n1 (n : Nat) (ws : List PV) : gF (n + 1) 40 ws = runE [false, false, false] 3 (d_Rooms_run_n1 (gF n)) ws := rfl
structure AllF (P : Program) (w : World) (K : PySem.W.Frag) (mg : Str → Option Value) (base : Bs) (cA : Nat → Addr) (n : Nat) : Prop where
  h_run_from : FnAt P w K mg base CX0 (2 * n + 3) "run_from" (spG K (pg cA) [false, false, false, false] (gF n 0))
  h_run_along : FnAt P w K mg base CX0 (2 * n + 3) "run_along" (spG K (pg cA) [false, false, false, false, false] (gF n 1))
  h_doors_of : FnAt P w K mg base CX0 (2 * n + 3) "doors_of" (spG K (pg cA) [false, false] (gF n 2))
  h_ended : FnAt P w K mg base CX0 (2 * n + 3) "ended" (spG K (pg cA) [false] (gF n 3))
  h_row_doors : FnAt P w K mg base CX0 (2 * n + 3) "row_doors" (spG K (pg cA) [false, false] (gF n 4))
  h_choice_doors : FnAt P w K mg base CX0 (2 * n + 3) "choice_doors" (spG K (pg cA) [false, false] (gF n 5))
  h_loop_doors : FnAt P w K mg base CX0 (2 * n + 3) "loop_doors" (spG K (pg cA) [false, false] (gF n 6))
  h_loop_door : FnAt P w K mg base CX0 (2 * n + 3) "loop_door" (spG K (pg cA) [false, false] (gF n 7))
  h_gone_on : FnAt P w K mg base CX0 (2 * n + 3) "gone_on" (spG K (pg cA) [false, false] (gF n 8))
  h__law_cell_at : FnAt P w K mg base CX0 (2 * n + 3) "_law_cell_at" (spG K (pg cA) [false, false] (gF n 9))
  h__law_draw : FnAt P w K mg base CX0 (2 * n + 3) "_law_draw" (spG K (pg cA) [false, false] (gF n 10))
  h__law_sign : FnAt P w K mg base CX0 (2 * n + 3) "_law_sign" (spG K (pg cA) [false] (gF n 11))
  h__law_holds : FnAt P w K mg base CX0 (2 * n + 3) "_law_holds" (spG K (pg cA) [false, false] (gF n 12))
  h__law_test : FnAt P w K mg base CX0 (2 * n + 3) "_law_test" (spG K (pg cA) [false] (gF n 13))
  h__law_grown : FnAt P w K mg base CX0 (2 * n + 3) "_law_grown" (spG K (pg cA) [false, false] (gF n 14))
  h__law_prog : FnAt P w K mg base CX0 (2 * n + 3) "_law_prog" (spG K (pg cA) [false, false] (gF n 15))
  h__law_built : FnAt P w K mg base CX0 (2 * n + 3) "_law_built" (spG K (pg cA) [false] (gF n 16))
  h__law_first : FnAt P w K mg base CX0 (2 * n + 3) "_law_first" (spG K (pg cA) [false, false] (gF n 17))
  h__law_led : FnAt P w K mg base CX0 (2 * n + 3) "_law_led" (spG K (pg cA) [false, false, false] (gF n 18))
  h__law_run : FnAt P w K mg base CX0 (2 * n + 3) "_law_run" (spG K (pg cA) [false, false, false, false] (gF n 19))
  h__law_alike : FnAt P w K mg base CX0 (2 * n + 3) "_law_alike" (spG K (pg cA) [false, false] (gF n 20))
  h_law : FnAt P w K mg base CX0 (2 * n + 3) "law" (spG K (pg cA) [false] (gF n 21))
  cl : ClAll P w K mg base (pg cA) (2 * n + 3) tC (gF n)
  m_first : MtOk P w K mg base (pg cA) (2 * n + 3) "first" [false] q_first (gF n)
  m_holds : MtOk P w K mg base (pg cA) (2 * n + 3) "holds" [false] q_holds (gF n)
  m_led : MtOk P w K mg base (pg cA) (2 * n + 3) "led" [false, false] q_led (gF n)
  m_run : MtOk P w K mg base (pg cA) (2 * n + 3) "run" [false, false, false] q_run (gF n)
  m_setting : MtOk P w K mg base (pg cA) (2 * n + 3) "setting" [false] q_setting (gF n)
  n_Rooms : NewI P w K mg base (pg cA) (2 * n + 3) "Rooms" 13 [false] (gF n 36)
theorem b_run_from {P : Program} {w : World} {K : PySem.W.Frag} {mg : Str → Option Value} {base : Bs} {cA : Nat → Addr} {ts : List Addr} {n : Nat} (C : Ct P w K mg base cA ts) (I : AllF P w K mg base cA n) {f c Pt : Addr} {A : Around} {outer : List Env} {s : Shared} {H : Hp} {E : XK} (hr : Room (2 * n + 4) (A.deeper (PyProof.Rows.envOfC "run_from" (defScope s_run_from) s.heap.objs.size f (.ref c)))) (mk : MkX (cxOf CX0 P w K mg base ["step", "world", "state", "most"] "run_from" (defScope s_run_from) f (.ref c) A outer s H E).nox c Pt) :
    JSs (cxOf CX0 P w K mg base ["step", "world", "state", "most"] "run_from" (defScope s_run_from) f (.ref c) A outer s H E).nox (pg cA) (defBody s_run_from) (d_run_from (gF n)) := by
  unfold d_run_from
  exact (ss_one (s_ret (p_fn I.h_run_along (hr.mono (Nat.le_succ _)) rfl (a_cons (p_var 0) (a_cons (p_lam 37 rfl ⟨mk.code, mk.hd, mk.tab⟩ (takes_mk (js := []) rfl rfl rfl)) (a_cons (p_var 1) (a_cons (p_var 2) (a_cons (p_var 3) a_nil))))))))
theorem b_run_along {P : Program} {w : World} {K : PySem.W.Frag} {mg : Str → Option Value} {base : Bs} {cA : Nat → Addr} {ts : List Addr} {n : Nat} (C : Ct P w K mg base cA ts) (I : AllF P w K mg base cA n) {f : Addr} {cdv : Value} {A : Around} {outer : List Env} {s : Shared} {H : Hp} {E : XK} (hr : Room (2 * n + 4) (A.deeper (PyProof.Rows.envOfC "run_along" (defScope s_run_along) s.heap.objs.size f cdv))) :
    JSs (cxOf CX0 P w K mg base ["begin", "door", "world", "state", "most", "deeds", "place", "told"] "run_along" (defScope s_run_along) f cdv A outer s H E).nox (pg cA) (defBody s_run_along) (d_run_along (gF n)) := by
  obtain ⟨_, g_ENDS, t_ENDS⟩ := C.e_ENDS
  obtain ⟨_, g_MORE⟩ := C.e_MORE
  unfold d_run_along
  exact (ss_cons (s_own (i := 5) sc_run_along.nd rfl (Or.inl rfl) (n_lst a_nil))
  (ss_cons (s_set (i := 6) sc_run_along.nd rfl (Or.inl rfl) (p_var 0))
  (ss_one (s_whileM PassesOwn.never (tm_of (t_val p_bl))
  (ss_cons (s_set (i := 7) sc_run_along.nd rfl (Or.inl rfl) (p_callV (p_var 1) I.cl (hr.mono (Nat.le_succ _)) (a_cons (p_var 6) (a_cons (p_meth I.m_setting (hr.mono (Nat.le_succ _)) (p_var 2) (a_cons (p_var 3) a_nil)) a_nil))))
  (ss_cons (s_if (t_in (b_of (p_at (b_var 7) (b_of p_int) (fun _ _ => rfl))) (b_of (p_topT (ws := c_ENDS) t_ENDS rfl g_ENDS (fun _ _ => ⟨_, _, rfl, rfl, ⟨_, _, rfl, rfl, ⟨_, _, rfl, rfl, rfl⟩⟩⟩))) rfl)
  (ss_one (s_ret (p_tup (a_cons (p_join p_str (b_var 5)) (a_cons (p_at (b_var 7) (b_of p_int) (fun _ _ => rfl)) (a_cons (p_var 3) a_nil))))))
  ss_nil)
  (ss_cons (s_if (t_eq hr (b_of (p_callB call_len cb_len rfl C.z_len PySem.boot_len (a_consB (b_var 5) a_nil))) (b_var 4))
  (ss_one (s_ret (p_tup (a_cons (p_join p_str (b_var 5)) (a_cons (p_topS rfl g_MORE) (a_cons (p_var 3) a_nil))))))
  ss_nil)
  (ss_cons (s_expr (m_app 5 (m_of (p_at (b_var 7) (b_of p_int) (fun _ _ => rfl)))))
  (ss_cons (s_set (i := 3) sc_run_along.nd rfl (Or.inl rfl) (p_meth I.m_led (hr.mono (Nat.le_succ _)) (p_var 2) (a_cons (p_at (b_var 7) (b_of p_int) (fun _ _ => rfl)) (a_cons (p_var 3) a_nil))))
  (ss_one (s_set (i := 6) sc_run_along.nd rfl (Or.inl rfl) (p_at (b_var 7) (b_of p_int) (fun _ _ => rfl)))))))))))))
theorem b_doors_of {P : Program} {w : World} {K : PySem.W.Frag} {mg : Str → Option Value} {base : Bs} {cA : Nat → Addr} {ts : List Addr} {n : Nat} (C : Ct P w K mg base cA ts) (I : AllF P w K mg base cA n) {f : Addr} {cdv : Value} {A : Around} {outer : List Env} {s : Shared} {H : Hp} {E : XK} (hr : Room (2 * n + 4) (A.deeper (PyProof.Rows.envOfC "doors_of" (defScope s_doors_of) s.heap.objs.size f cdv))) :
    JSs (cxOf CX0 P w K mg base ["step", "ahead"] "doors_of" (defScope s_doors_of) f cdv A outer s H E).nox (pg cA) (defBody s_doors_of) (d_doors_of (gF n)) := by
  obtain ⟨_, g_DONE⟩ := C.e_DONE
  obtain ⟨_, g_SETTINGS⟩ := C.e_SETTINGS
  obtain ⟨_, g_STOPPED⟩ := C.e_STOPPED
  unfold d_doors_of
  exact (ss_cons (s_if (t_val (p_isi rfl C.z_isinstance C.i_Skip ref_only (b_var 0) (pe_globR rfl C.c_Skip)))
  (ss_one (s_ret (p_of_n (n_lst (a_cons (p_fn I.h_ended (hr.mono (Nat.le_succ _)) rfl (a_cons (p_topS rfl g_DONE) a_nil)) a_nil)))))
  ss_nil)
  (ss_cons (s_if (t_val (p_isi rfl C.z_isinstance C.i_Stop ref_only (b_var 0) (pe_globR rfl C.c_Stop)))
  (ss_one (s_ret (p_of_n (n_lst (a_cons (p_fn I.h_ended (hr.mono (Nat.le_succ _)) rfl (a_cons (p_topS rfl g_STOPPED) a_nil)) a_nil)))))
  ss_nil)
  (ss_cons (s_if (t_val (p_isi rfl C.z_isinstance C.i_Deed ref_only (b_var 0) (pe_globR rfl C.c_Deed)))
  (ss_one (s_ret (p_of_n (n_lst (a_cons (p_of_n (n_rep (n_lst (a_cons (p_tup (a_cons (p_fld C.f_name (p_var 0) rfl) (a_cons (p_add (b_var 1) (b_of p_int)) a_nil))) a_nil)) (p_topI rfl g_SETTINGS))) (a_cons (p_fn I.h_ended (hr.mono (Nat.le_succ _)) rfl (a_cons (p_topS rfl g_DONE) a_nil)) a_nil))))))
  ss_nil)
  (ss_cons (s_if (t_val (p_isi rfl C.z_isinstance C.i_Row ref_only (b_var 0) (pe_globR rfl C.c_Row)))
  (ss_one (s_ret (p_fn I.h_row_doors (hr.mono (Nat.le_succ _)) rfl (a_cons (p_var 0) (a_cons (p_var 1) a_nil)))))
  ss_nil)
  (ss_cons (s_if (t_val (p_isi rfl C.z_isinstance C.i_Choice ref_only (b_var 0) (pe_globR rfl C.c_Choice)))
  (ss_one (s_ret (p_fn I.h_choice_doors (hr.mono (Nat.le_succ _)) rfl (a_cons (p_var 0) (a_cons (p_var 1) a_nil)))))
  ss_nil)
  (ss_one (s_ret (p_fn I.h_loop_doors (hr.mono (Nat.le_succ _)) rfl (a_cons (p_var 0) (a_cons (p_var 1) a_nil))))))))))
theorem b_ended {P : Program} {w : World} {K : PySem.W.Frag} {mg : Str → Option Value} {base : Bs} {cA : Nat → Addr} {ts : List Addr} {n : Nat} (C : Ct P w K mg base cA ts) (I : AllF P w K mg base cA n) {f : Addr} {cdv : Value} {A : Around} {outer : List Env} {s : Shared} {H : Hp} {E : XK} (hr : Room (2 * n + 4) (A.deeper (PyProof.Rows.envOfC "ended" (defScope s_ended) s.heap.objs.size f cdv))) :
    JSs (cxOf CX0 P w K mg base ["end"] "ended" (defScope s_ended) f cdv A outer s H E).nox (pg cA) (defBody s_ended) (d_ended (gF n)) := by
  obtain ⟨_, g_SETTINGS⟩ := C.e_SETTINGS
  unfold d_ended
  exact (ss_one (s_ret (p_of_n (n_rep (n_lst (a_cons (p_tup (a_cons (p_var 0) (a_cons p_int a_nil))) a_nil)) (p_topI rfl g_SETTINGS)))))
theorem b_row_doors {P : Program} {w : World} {K : PySem.W.Frag} {mg : Str → Option Value} {base : Bs} {cA : Nat → Addr} {ts : List Addr} {n : Nat} (C : Ct P w K mg base cA ts) (I : AllF P w K mg base cA n) {f : Addr} {cdv : Value} {A : Around} {outer : List Env} {s : Shared} {H : Hp} {E : XK} (hr : Room (2 * n + 4) (A.deeper (PyProof.Rows.envOfC "row_doors" (defScope s_row_doors) s.heap.objs.size f cdv))) :
    JSs (cxOf CX0 P w K mg base ["step", "ahead", "head", "tail"] "row_doors" (defScope s_row_doors) f cdv A outer s H E).nox (pg cA) (defBody s_row_doors) (d_row_doors (gF n)) := by
  unfold d_row_doors
  exact (ss_cons (s_set (i := 2) sc_row_doors.nd rfl (Or.inl rfl) (p_fn I.h_doors_of (hr.mono (Nat.le_succ _)) rfl (a_cons (p_fld C.f_head (p_var 0) rfl) (a_cons (p_var 1) a_nil))))
  (ss_cons (s_set (i := 3) sc_row_doors.nd rfl (Or.inr rfl) (p_fn I.h_doors_of (hr.mono (Nat.le_succ _)) rfl (a_cons (p_fld C.f_tail (p_var 0) rfl) (a_cons (p_sub (b_of (p_add (b_var 1) (b_of (p_callB call_len cb_len rfl C.z_len PySem.boot_len (a_consB (b_var 2) a_nil))))) (b_of p_int)) a_nil))))
  (ss_one (s_ret (p_of_n (n_cat (b_of (p_of_n (n_comp (own := ["doors"]) (caps := [("tail", 3)]) ⟨rfl, by decide +kernel, by decide +kernel, ⟨⟨rfl, rfl, Or.inl rfl⟩, True.intro⟩, rfl⟩ rfl (s_list (b_var 2)) (fun _ _ _ _ => (g_name (i := 0) (show (["doors", "tail"] : List Str).Nodup by decide +kernel) rfl (Or.inl rfl))) (fun _ _ _ _ => ts_nil) (fun _ _ _ _ => (p_fn I.h_gone_on (hr.mono (Nat.le_succ _)) rfl (a_cons (p_var 0) (a_cons (p_at (b_var 1) (b_of p_int) (fun _ _ => rfl)) a_nil)))) gk_set))) (b_of (p_of_n (n_cut (b_var 3) (o_some p_int) o_none))) op_catL))))))
theorem b_choice_doors {P : Program} {w : World} {K : PySem.W.Frag} {mg : Str → Option Value} {base : Bs} {cA : Nat → Addr} {ts : List Addr} {n : Nat} (C : Ct P w K mg base cA ts) (I : AllF P w K mg base cA n) {f : Addr} {cdv : Value} {A : Around} {outer : List Env} {s : Shared} {H : Hp} {E : XK} (hr : Room (2 * n + 4) (A.deeper (PyProof.Rows.envOfC "choice_doors" (defScope s_choice_doors) s.heap.objs.size f cdv))) :
    JSs (cxOf CX0 P w K mg base ["step", "ahead", "yes", "no", "begin"] "choice_doors" (defScope s_choice_doors) f cdv A outer s H E).nox (pg cA) (defBody s_choice_doors) (d_choice_doors (gF n)) := by
  obtain ⟨_, g_SETTINGS⟩ := C.e_SETTINGS
  unfold d_choice_doors
  exact (ss_cons (s_set (i := 2) sc_choice_doors.nd rfl (Or.inr rfl) (p_fn I.h_doors_of (hr.mono (Nat.le_succ _)) rfl (a_cons (p_fld C.f_yes (p_var 0) rfl) (a_cons (p_var 1) a_nil))))
  (ss_cons (s_set (i := 3) sc_choice_doors.nd rfl (Or.inr rfl) (p_fn I.h_doors_of (hr.mono (Nat.le_succ _)) rfl (a_cons (p_fld C.f_no (p_var 0) rfl) (a_cons (p_sub (b_of (p_add (b_var 1) (b_of (p_callB call_len cb_len rfl C.z_len PySem.boot_len (a_consB (b_var 2) a_nil))))) (b_of p_int)) a_nil))))
  (ss_cons (s_setC (i := 4) sc_choice_doors.nd rfl (Or.inl rfl) (own := ["setting"]) (caps := [("yes", 2), ("no", 3), ("step", 0)]) ⟨rfl, by decide +kernel, by decide +kernel, ⟨⟨rfl, rfl, Or.inl rfl⟩, ⟨⟨rfl, rfl, Or.inl rfl⟩, ⟨⟨rfl, rfl, Or.inl rfl⟩, True.intro⟩⟩⟩, rfl⟩ rfl (s_of_i (i_rng1 rfl C.z_range (a_cons (p_topI rfl g_SETTINGS) a_nil))) (fun _ _ _ _ => (g_name (i := 0) (show (["setting", "yes", "no", "step"] : List Str).Nodup by decide +kernel) rfl (Or.inl rfl))) (fun _ _ _ _ => ts_nil) (fun _ _ _ _ => (p_ifV (t_val (p_meth I.m_holds (hr.mono (Nat.le_succ _)) (p_fld C.f_test (p_var 3) rfl) (a_cons (p_var 0) a_nil))) (p_at (b_of (p_at (b_var 1) (b_of p_int) (fun _ _ => rfl))) (b_var 0) (fun _ _ => rfl)) (p_at (b_of (p_at (b_var 2) (b_of p_int) (fun _ _ => rfl))) (b_var 0) (fun _ _ => rfl)))) gk_set)
  (ss_one (s_ret (p_of_n (n_cat (b_of (p_of_n (n_cat (b_of (p_of_n (n_lst (a_cons (p_var 4) a_nil)))) (b_of (p_of_n (n_cut (b_var 2) (o_some p_int) o_none))) op_catL))) (b_of (p_of_n (n_cut (b_var 3) (o_some p_int) o_none))) op_catL)))))))
theorem b_loop_doors {P : Program} {w : World} {K : PySem.W.Frag} {mg : Str → Option Value} {base : Bs} {cA : Nat → Addr} {ts : List Addr} {n : Nat} (C : Ct P w K mg base cA ts) (I : AllF P w K mg base cA n) {f : Addr} {cdv : Value} {A : Around} {outer : List Env} {s : Shared} {H : Hp} {E : XK} (hr : Room (2 * n + 4) (A.deeper (PyProof.Rows.envOfC "loop_doors" (defScope s_loop_doors) s.heap.objs.size f cdv))) :
    JSs (cxOf CX0 P w K mg base ["step", "ahead", "body", "begin"] "loop_doors" (defScope s_loop_doors) f cdv A outer s H E).nox (pg cA) (defBody s_loop_doors) (d_loop_doors (gF n)) := by
  obtain ⟨_, g_SETTINGS⟩ := C.e_SETTINGS
  unfold d_loop_doors
  exact (ss_cons (s_set (i := 2) sc_loop_doors.nd rfl (Or.inr rfl) (p_fn I.h_doors_of (hr.mono (Nat.le_succ _)) rfl (a_cons (p_fld C.f_body (p_var 0) rfl) (a_cons (p_var 1) a_nil))))
  (ss_cons (s_set (i := 3) sc_loop_doors.nd rfl (Or.inr rfl) (p_of_n (n_comp (own := ["setting"]) (caps := [("body", 2), ("step", 0)]) ⟨rfl, by decide +kernel, by decide +kernel, ⟨⟨rfl, rfl, Or.inl rfl⟩, ⟨⟨rfl, rfl, Or.inl rfl⟩, True.intro⟩⟩, rfl⟩ rfl (s_of_i (i_rng1 rfl C.z_range (a_cons (p_topI rfl g_SETTINGS) a_nil))) (fun _ _ _ _ => (g_name (i := 0) (show (["setting", "body", "step"] : List Str).Nodup by decide +kernel) rfl (Or.inl rfl))) (fun _ _ _ _ => ts_nil) (fun _ _ _ _ => (p_fn I.h_loop_door (hr.mono (Nat.le_succ _)) rfl (a_cons (p_meth I.m_holds (hr.mono (Nat.le_succ _)) (p_fld C.f_test (p_var 2) rfl) (a_cons (p_var 0) a_nil)) (a_cons (p_at (b_of (p_at (b_var 1) (b_of p_int) (fun _ _ => rfl))) (b_var 0) (fun _ _ => rfl)) a_nil)))) gk_set)))
  (ss_one (s_ret (p_of_n (n_cat (b_of (p_of_n (n_lst (a_cons (p_var 3) a_nil)))) (b_of (p_of_n (n_comp (own := ["doors"]) (caps := [("begin", 3)]) ⟨rfl, by decide +kernel, by decide +kernel, ⟨⟨rfl, rfl, Or.inl rfl⟩, True.intro⟩, rfl⟩ rfl (s_list (b_of (p_of_n (n_cut (b_var 2) (o_some p_int) o_none)))) (fun _ _ _ _ => (g_name (i := 0) (show (["doors", "begin"] : List Str).Nodup by decide +kernel) rfl (Or.inl rfl))) (fun _ _ _ _ => ts_nil) (fun _ _ _ _ => (p_fn I.h_gone_on (hr.mono (Nat.le_succ _)) rfl (a_cons (p_var 0) (a_cons (p_var 1) a_nil)))) gk_set))) op_catL))))))
theorem b_loop_door {P : Program} {w : World} {K : PySem.W.Frag} {mg : Str → Option Value} {base : Bs} {cA : Nat → Addr} {ts : List Addr} {n : Nat} (C : Ct P w K mg base cA ts) (I : AllF P w K mg base cA n) {f : Addr} {cdv : Value} {A : Around} {outer : List Env} {s : Shared} {H : Hp} {E : XK} (hr : Room (2 * n + 4) (A.deeper (PyProof.Rows.envOfC "loop_door" (defScope s_loop_door) s.heap.objs.size f cdv))) :
    JSs (cxOf CX0 P w K mg base ["holds", "door"] "loop_door" (defScope s_loop_door) f cdv A outer s H E).nox (pg cA) (defBody s_loop_door) (d_loop_door (gF n)) := by
  obtain ⟨_, g_DONE⟩ := C.e_DONE
  obtain ⟨_, g_HUNG⟩ := C.e_HUNG
  unfold d_loop_door
  exact (ss_cons (s_if (t_not (t_val (p_var 0)))
  (ss_one (s_ret (p_tup (a_cons (p_topS rfl g_DONE) (a_cons p_int a_nil)))))
  ss_nil)
  (ss_cons (s_if (t_eq hr (b_of (p_at (b_var 1) (b_of p_int) (fun _ _ => rfl))) (b_of (p_topS rfl g_DONE)))
  (ss_one (s_ret (p_tup (a_cons (p_topS rfl g_HUNG) (a_cons p_int a_nil)))))
  ss_nil)
  (ss_one (s_ret (p_var 1)))))
theorem b_gone_on {P : Program} {w : World} {K : PySem.W.Frag} {mg : Str → Option Value} {base : Bs} {cA : Nat → Addr} {ts : List Addr} {n : Nat} (C : Ct P w K mg base cA ts) (I : AllF P w K mg base cA n) {f : Addr} {cdv : Value} {A : Around} {outer : List Env} {s : Shared} {H : Hp} {E : XK} (hr : Room (2 * n + 4) (A.deeper (PyProof.Rows.envOfC "gone_on" (defScope s_gone_on) s.heap.objs.size f cdv))) :
    JSs (cxOf CX0 P w K mg base ["doors", "later"] "gone_on" (defScope s_gone_on) f cdv A outer s H E).nox (pg cA) (defBody s_gone_on) (d_gone_on (gF n)) := by
  obtain ⟨_, g_DONE⟩ := C.e_DONE
  obtain ⟨_, g_SETTINGS⟩ := C.e_SETTINGS
  unfold d_gone_on
  exact (ss_one (s_ret (p_of_n (n_comp (own := ["setting"]) (caps := [("later", 1), ("doors", 0)]) ⟨rfl, by decide +kernel, by decide +kernel, ⟨⟨rfl, rfl, Or.inl rfl⟩, ⟨⟨rfl, rfl, Or.inl rfl⟩, True.intro⟩⟩, rfl⟩ rfl (s_of_i (i_rng1 rfl C.z_range (a_cons (p_topI rfl g_SETTINGS) a_nil))) (fun _ _ _ _ => (g_name (i := 0) (show (["setting", "later", "doors"] : List Str).Nodup by decide +kernel) rfl (Or.inl rfl))) (fun _ _ _ _ => ts_nil) (fun _ _ _ _ => (p_ifV (t_eq hr (b_of (p_at (b_of (p_at (b_var 2) (b_var 0) (fun _ _ => rfl))) (b_of p_int) (fun _ _ => rfl))) (b_of (p_topS rfl g_DONE))) (p_at (b_var 1) (b_var 0) (fun _ _ => rfl)) (p_at (b_var 2) (b_var 0) (fun _ _ => rfl)))) gk_set))))
theorem b_l_cell_at {P : Program} {w : World} {K : PySem.W.Frag} {mg : Str → Option Value} {base : Bs} {cA : Nat → Addr} {ts : List Addr} {n : Nat} (C : Ct P w K mg base cA ts) (I : AllF P w K mg base cA n) {f : Addr} {cdv : Value} {A : Around} {outer : List Env} {s : Shared} {H : Hp} {E : XK} (hr : Room (2 * n + 4) (A.deeper (PyProof.Rows.envOfC "_law_cell_at" (defScope s_l_cell_at) s.heap.objs.size f cdv))) :
    JSs (cxOf CX0 P w K mg base ["_law_script", "_law_k"] "_law_cell_at" (defScope s_l_cell_at) f cdv A outer s H E).nox (pg cA) (defBody s_l_cell_at) (d_l_cell_at (gF n)) := by
  unfold d_l_cell_at
  exact (ss_cons (s_if (t_lt (b_var 1) (b_of (p_callB call_len cb_len rfl C.z_len PySem.boot_len (a_consB (b_var 0) a_nil))))
  (ss_one (s_ret (p_at (b_var 0) (b_var 1) (fun _ _ => rfl))))
  ss_nil)
  (ss_one (s_ret p_int)))
theorem b_l_draw {P : Program} {w : World} {K : PySem.W.Frag} {mg : Str → Option Value} {base : Bs} {cA : Nat → Addr} {ts : List Addr} {n : Nat} (C : Ct P w K mg base cA ts) (I : AllF P w K mg base cA n) {f : Addr} {cdv : Value} {A : Around} {outer : List Env} {s : Shared} {H : Hp} {E : XK} (hr : Room (2 * n + 4) (A.deeper (PyProof.Rows.envOfC "_law_draw" (defScope s_l_draw) s.heap.objs.size f cdv))) :
    JSs (cxOf CX0 P w K mg base ["_law_cell", "_law_k", "_law_number"] "_law_draw" (defScope s_l_draw) f cdv A outer s H E).nox (pg cA) (defBody s_l_draw) (d_l_draw (gF n)) := by
  unfold d_l_draw
  exact (ss_cons (s_set (i := 2) sc_l_draw.nd rfl (Or.inl rfl) (p_mod (b_of (p_mul (b_of (p_add (b_of (p_add (b_var 0) (b_of (p_mul (b_of p_int) (b_var 1))))) (b_of p_int))) (b_of p_int))) (b_of p_int)))
  (ss_one (s_ret (p_mod (b_of (p_mul (b_var 2) (b_of (p_add (b_of (p_div (b_var 2) (b_of p_int))) (b_of p_int))))) (b_of p_int)))))
theorem b_l_sign {P : Program} {w : World} {K : PySem.W.Frag} {mg : Str → Option Value} {base : Bs} {cA : Nat → Addr} {ts : List Addr} {n : Nat} (C : Ct P w K mg base cA ts) (I : AllF P w K mg base cA n) {f : Addr} {cdv : Value} {A : Around} {outer : List Env} {s : Shared} {H : Hp} {E : XK} (hr : Room (2 * n + 4) (A.deeper (PyProof.Rows.envOfC "_law_sign" (defScope s_l_sign) s.heap.objs.size f cdv))) :
    JSs (cxOf CX0 P w K mg base ["_law_test_here", "_law_one", "_law_two", "_law_kind", "_law_i", "_law_j"] "_law_sign" (defScope s_l_sign) f cdv A outer s H E).nox (pg cA) (defBody s_l_sign) (d_l_sign (gF n)) := by
  unfold d_l_sign
  exact (ss_cons (s_asg (p_var 0) (g_tup rfl (gs_cons (g_name (i := 3) sc_l_sign.nd rfl (Or.inl rfl)) (gs_cons (g_name (i := 4) sc_l_sign.nd rfl (Or.inl rfl)) (gs_cons (g_name (i := 5) sc_l_sign.nd rfl (Or.inl rfl)) gs_nil)))))
  (ss_cons (s_set (i := 1) sc_l_sign.nd rfl (Or.inl rfl) (p_new (k := 2 * n + 2) C.n_Named hr rfl (a_cons (p_at (b_of p_str) (b_var 4) (fun _ _ => rfl)) a_nil) rfl))
  (ss_cons (s_set (i := 2) sc_l_sign.nd rfl (Or.inl rfl) (p_new (k := 2 * n + 2) C.n_Named hr rfl (a_cons (p_at (b_of p_str) (b_var 5) (fun _ _ => rfl)) a_nil) rfl))
  (ss_cons (s_if (t_eq hr (b_var 3) (b_of p_int))
  (ss_one (s_ret (p_new (k := 2 * n + 2) C.n_Not hr rfl (a_cons (p_var 1) a_nil) rfl)))
  ss_nil)
  (ss_cons (s_if (t_eq hr (b_var 3) (b_of p_int))
  (ss_one (s_ret (p_new (k := 2 * n + 2) C.n_Both hr rfl (a_cons (p_var 1) (a_cons (p_var 2) a_nil)) rfl)))
  ss_nil)
  (ss_cons (s_if (t_eq hr (b_var 3) (b_of p_int))
  (ss_one (s_ret (p_new (k := 2 * n + 2) C.n_Either hr rfl (a_cons (p_var 1) (a_cons (p_new (k := 2 * n + 2) C.n_Not hr rfl (a_cons (p_var 2) a_nil) rfl) a_nil)) rfl)))
  ss_nil)
  (ss_cons (s_if (t_eq hr (b_var 3) (b_of p_int))
  (ss_one (s_ret (p_new0 C.k_Yes rfl rfl C.c_Yes)))
  ss_nil)
  (ss_cons (s_if (t_eq hr (b_var 3) (b_of p_int))
  (ss_one (s_ret (p_new (k := 2 * n + 2) C.n_Both hr rfl (a_cons (p_var 1) (a_cons (p_new (k := 2 * n + 2) C.n_Not hr rfl (a_cons (p_var 2) a_nil) rfl) a_nil)) rfl)))
  ss_nil)
  (ss_one (s_ret (p_var 1)))))))))))
theorem b_l_holds {P : Program} {w : World} {K : PySem.W.Frag} {mg : Str → Option Value} {base : Bs} {cA : Nat → Addr} {ts : List Addr} {n : Nat} (C : Ct P w K mg base cA ts) (I : AllF P w K mg base cA n) {f : Addr} {cdv : Value} {A : Around} {outer : List Env} {s : Shared} {H : Hp} {E : XK} (hr : Room (2 * n + 4) (A.deeper (PyProof.Rows.envOfC "_law_holds" (defScope s_l_holds) s.heap.objs.size f cdv))) :
    JSs (cxOf CX0 P w K mg base ["_law_test_here", "_law_s", "_law_one", "_law_two", "_law_kind", "_law_i", "_law_j"] "_law_holds" (defScope s_l_holds) f cdv A outer s H E).nox (pg cA) (defBody s_l_holds) (d_l_holds (gF n)) := by
  unfold d_l_holds
  exact (ss_cons (s_asg (p_var 0) (g_tup rfl (gs_cons (g_name (i := 4) sc_l_holds.nd rfl (Or.inl rfl)) (gs_cons (g_name (i := 5) sc_l_holds.nd rfl (Or.inl rfl)) (gs_cons (g_name (i := 6) sc_l_holds.nd rfl (Or.inl rfl)) gs_nil)))))
  (ss_cons (s_set (i := 2) sc_l_holds.nd rfl (Or.inl rfl) (p_eq hr (b_of (p_and (b_of (p_shr (b_var 1) (b_var 5))) (b_of p_int))) (b_of p_int)))
  (ss_cons (s_set (i := 3) sc_l_holds.nd rfl (Or.inl rfl) (p_eq hr (b_of (p_and (b_of (p_shr (b_var 1) (b_var 6))) (b_of p_int))) (b_of p_int)))
  (ss_one (s_ret (p_at (b_of (p_of_n (n_lst (a_cons (p_var 2) (a_cons (p_notV (p_var 2)) (a_cons (p_andV (p_var 2) (p_one (p_var 3))) (a_cons (p_orV (p_var 2) (p_one (p_notV (p_var 3)))) (a_cons p_bl (a_cons (p_andV (p_var 2) (p_one (p_notV (p_var 3)))) a_nil))))))))) (b_var 4) (fun _ _ => rfl)))))))
theorem b_l_test {P : Program} {w : World} {K : PySem.W.Frag} {mg : Str → Option Value} {base : Bs} {cA : Nat → Addr} {ts : List Addr} {n : Nat} (C : Ct P w K mg base cA ts) (I : AllF P w K mg base cA n) {f : Addr} {cdv : Value} {A : Around} {outer : List Env} {s : Shared} {H : Hp} {E : XK} (hr : Room (2 * n + 4) (A.deeper (PyProof.Rows.envOfC "_law_test" (defScope s_l_test) s.heap.objs.size f cdv))) :
    JSs (cxOf CX0 P w K mg base ["_law_cell"] "_law_test" (defScope s_l_test) f cdv A outer s H E).nox (pg cA) (defBody s_l_test) (d_l_test (gF n)) := by
  unfold d_l_test
  exact (ss_one (s_ret (p_tup (a_cons (p_mod (b_var 0) (b_of p_int)) (a_cons (p_mod (b_of (p_div (b_var 0) (b_of p_int))) (b_of p_int)) (a_cons (p_mod (b_of (p_div (b_var 0) (b_of p_int))) (b_of p_int)) a_nil))))))
theorem b_l_grown {P : Program} {w : World} {K : PySem.W.Frag} {mg : Str → Option Value} {base : Bs} {cA : Nat → Addr} {ts : List Addr} {n : Nat} (C : Ct P w K mg base cA ts) (I : AllF P w K mg base cA n) {f : Addr} {cdv : Value} {A : Around} {outer : List Env} {s : Shared} {H : Hp} {E : XK} (hr : Room (2 * n + 4) (A.deeper (PyProof.Rows.envOfC "_law_grown" (defScope s_l_grown) s.heap.objs.size f cdv))) :
    JSs (cxOf CX0 P w K mg base ["_law_prog_here", "_law_cell", "_law_way", "_law_deed", "_law_test_here"] "_law_grown" (defScope s_l_grown) f cdv A outer s H E).nox (pg cA) (defBody s_l_grown) (d_l_grown (gF n)) := by
  unfold d_l_grown
  exact (ss_cons (s_set (i := 2) sc_l_grown.nd rfl (Or.inl rfl) (p_mod (b_of (p_fn I.h__law_draw (hr.mono (Nat.le_succ _)) rfl (a_cons (p_var 1) (a_cons p_int a_nil)))) (b_of p_int)))
  (ss_cons (s_set (i := 3) sc_l_grown.nd rfl (Or.inl rfl) (p_tup (a_cons p_str (a_cons (p_at (b_of p_str) (b_of (p_mod (b_of (p_fn I.h__law_draw (hr.mono (Nat.le_succ _)) rfl (a_cons (p_var 1) (a_cons p_int a_nil)))) (b_of p_int))) (fun _ _ => rfl)) a_nil))))
  (ss_cons (s_set (i := 4) sc_l_grown.nd rfl (Or.inl rfl) (p_fn I.h__law_test (hr.mono (Nat.le_succ _)) rfl (a_cons (p_fn I.h__law_draw (hr.mono (Nat.le_succ _)) rfl (a_cons (p_var 1) (a_cons p_int a_nil))) a_nil)))
  (ss_cons (s_if (t_eq hr (b_var 2) (b_of p_int))
  (ss_one (s_ret (p_tup (a_cons p_str (a_cons (p_var 0) (a_cons (p_var 3) a_nil))))))
  ss_nil)
  (ss_cons (s_if (t_eq hr (b_var 2) (b_of p_int))
  (ss_one (s_ret (p_tup (a_cons p_str (a_cons (p_var 3) (a_cons (p_var 0) a_nil))))))
  ss_nil)
  (ss_cons (s_if (t_eq hr (b_var 2) (b_of p_int))
  (ss_one (s_ret (p_tup (a_cons p_str (a_cons (p_var 4) (a_cons (p_var 0) a_nil))))))
  ss_nil)
  (ss_cons (s_if (t_eq hr (b_var 2) (b_of p_int))
  (ss_one (s_ret (p_tup (a_cons p_str (a_cons (p_var 4) (a_cons (p_var 0) (a_cons (p_var 3) a_nil)))))))
  ss_nil)
  (ss_cons (s_if (t_eq hr (b_var 2) (b_of p_int))
  (ss_one (s_ret (p_tup (a_cons p_str (a_cons (p_var 4) (a_cons (p_var 3) (a_cons (p_var 0) a_nil)))))))
  ss_nil)
  (ss_cons (s_if (t_eq hr (b_var 2) (b_of p_int))
  (ss_one (s_ret (p_tup (a_cons p_str (a_cons (p_var 0) (a_cons (p_tup (a_cons p_str (a_cons (p_var 4) (a_cons (p_tup (a_cons p_str a_nil)) (a_cons (p_tup (a_cons p_str a_nil)) a_nil))))) a_nil))))))
  ss_nil)
  (ss_cons (s_if (t_eq hr (b_var 2) (b_of p_int))
  (ss_one (s_ret (p_tup (a_cons p_str (a_cons (p_tup (a_cons p_str (a_cons (p_var 4) (a_cons (p_var 3) a_nil)))) (a_cons (p_var 0) a_nil))))))
  ss_nil)
  (ss_one (s_ret (p_tup (a_cons p_str (a_cons (p_var 4) (a_cons (p_tup (a_cons p_str a_nil)) (a_cons (p_var 0) a_nil)))))))))))))))))
theorem b_l_prog {P : Program} {w : World} {K : PySem.W.Frag} {mg : Str → Option Value} {base : Bs} {cA : Nat → Addr} {ts : List Addr} {n : Nat} (C : Ct P w K mg base cA ts) (I : AllF P w K mg base cA n) {f : Addr} {cdv : Value} {A : Around} {outer : List Env} {s : Shared} {H : Hp} {E : XK} (hr : Room (2 * n + 4) (A.deeper (PyProof.Rows.envOfC "_law_prog" (defScope s_l_prog) s.heap.objs.size f cdv))) :
    JSs (cxOf CX0 P w K mg base ["_law_cell", "_law_cells", "_law_prog_here", "_law_one"] "_law_prog" (defScope s_l_prog) f cdv A outer s H E).nox (pg cA) (defBody s_l_prog) (d_l_prog (gF n)) := by
  unfold d_l_prog
  exact (ss_cons (s_set (i := 2) sc_l_prog.nd rfl (Or.inl rfl) (p_at (b_of (p_of_n (n_lst (a_cons (p_tup (a_cons p_str (a_cons (p_at (b_of p_str) (b_of (p_mod (b_of (p_div (b_var 0) (b_of p_int))) (b_of p_int))) (fun _ _ => rfl)) a_nil))) (a_cons (p_tup (a_cons p_str a_nil)) (a_cons (p_tup (a_cons p_str a_nil)) (a_cons (p_tup (a_cons p_str (a_cons p_str a_nil))) a_nil))))))) (b_of (p_mod (b_var 0) (b_of p_int))) (fun _ _ => rfl)))
  (ss_cons (s_for PassesOwn.never rfl (DN.i_list (p_var 1)) (g_name (i := 3) sc_l_prog.nd rfl (Or.inl rfl))
  (ss_one (s_set (i := 2) sc_l_prog.nd rfl (Or.inl rfl) (p_fn I.h__law_grown (hr.mono (Nat.le_succ _)) rfl (a_cons (p_var 2) (a_cons (p_var 3) a_nil))))))
  (ss_one (s_ret (p_var 2)))))
theorem b_l_built {P : Program} {w : World} {K : PySem.W.Frag} {mg : Str → Option Value} {base : Bs} {cA : Nat → Addr} {ts : List Addr} {n : Nat} (C : Ct P w K mg base cA ts) (I : AllF P w K mg base cA n) {f : Addr} {cdv : Value} {A : Around} {outer : List Env} {s : Shared} {H : Hp} {E : XK} (hr : Room (2 * n + 4) (A.deeper (PyProof.Rows.envOfC "_law_built" (defScope s_l_built) s.heap.objs.size f cdv))) :
    JSs (cxOf CX0 P w K mg base ["_law_prog_here"] "_law_built" (defScope s_l_built) f cdv A outer s H E).nox (pg cA) (defBody s_l_built) (d_l_built (gF n)) := by
  unfold d_l_built
  exact (ss_cons (s_if (t_eq hr (b_of (p_at (b_var 0) (b_of p_int) (fun _ _ => rfl))) (b_of p_str))
  (ss_one (s_ret (p_new (k := 2 * n + 2) C.n_Deed hr rfl (a_cons (p_at (b_var 0) (b_of p_int) (fun _ _ => rfl)) a_nil) rfl)))
  ss_nil)
  (ss_cons (s_if (t_eq hr (b_of (p_at (b_var 0) (b_of p_int) (fun _ _ => rfl))) (b_of p_str))
  (ss_one (s_ret (p_new (k := 2 * n + 2) C.n_Row hr rfl (a_cons (p_fn I.h__law_built (hr.mono (Nat.le_succ _)) rfl (a_cons (p_at (b_var 0) (b_of p_int) (fun _ _ => rfl)) a_nil)) (a_cons (p_fn I.h__law_built (hr.mono (Nat.le_succ _)) rfl (a_cons (p_at (b_var 0) (b_of p_int) (fun _ _ => rfl)) a_nil)) a_nil)) rfl)))
  ss_nil)
  (ss_cons (s_if (t_eq hr (b_of (p_at (b_var 0) (b_of p_int) (fun _ _ => rfl))) (b_of p_str))
  (ss_one (s_ret (p_new (k := 2 * n + 2) C.n_Choice hr rfl (a_cons (p_fn I.h__law_sign (hr.mono (Nat.le_succ _)) rfl (a_cons (p_at (b_var 0) (b_of p_int) (fun _ _ => rfl)) a_nil)) (a_cons (p_fn I.h__law_built (hr.mono (Nat.le_succ _)) rfl (a_cons (p_at (b_var 0) (b_of p_int) (fun _ _ => rfl)) a_nil)) (a_cons (p_fn I.h__law_built (hr.mono (Nat.le_succ _)) rfl (a_cons (p_at (b_var 0) (b_of p_int) (fun _ _ => rfl)) a_nil)) a_nil))) rfl)))
  ss_nil)
  (ss_cons (s_if (t_eq hr (b_of (p_at (b_var 0) (b_of p_int) (fun _ _ => rfl))) (b_of p_str))
  (ss_one (s_ret (p_new (k := 2 * n + 2) C.n_Loop hr rfl (a_cons (p_fn I.h__law_sign (hr.mono (Nat.le_succ _)) rfl (a_cons (p_at (b_var 0) (b_of p_int) (fun _ _ => rfl)) a_nil)) (a_cons (p_fn I.h__law_built (hr.mono (Nat.le_succ _)) rfl (a_cons (p_at (b_var 0) (b_of p_int) (fun _ _ => rfl)) a_nil)) a_nil)) rfl)))
  ss_nil)
  (ss_cons (s_if (t_eq hr (b_of (p_at (b_var 0) (b_of p_int) (fun _ _ => rfl))) (b_of p_str))
  (ss_one (s_ret (p_new0 C.k_Stop rfl rfl C.c_Stop)))
  ss_nil)
  (ss_one (s_ret (p_new0 C.k_Skip rfl rfl C.c_Skip))))))))
theorem b_l_first {P : Program} {w : World} {K : PySem.W.Frag} {mg : Str → Option Value} {base : Bs} {cA : Nat → Addr} {ts : List Addr} {n : Nat} (C : Ct P w K mg base cA ts) (I : AllF P w K mg base cA n) {f : Addr} {cdv : Value} {A : Around} {outer : List Env} {s : Shared} {H : Hp} {E : XK} (hr : Room (2 * n + 4) (A.deeper (PyProof.Rows.envOfC "_law_first" (defScope s_l_first) s.heap.objs.size f cdv))) :
    JSs (cxOf CX0 P w K mg base ["_law_prog_here", "_law_s", "_law_what", "_law_left"] "_law_first" (defScope s_l_first) f cdv A outer s H E).nox (pg cA) (defBody s_l_first) (d_l_first (gF n)) := by
  unfold d_l_first
  exact (ss_cons (s_if (t_eq hr (b_of (p_at (b_var 0) (b_of p_int) (fun _ _ => rfl))) (b_of p_str))
  (ss_one (s_ret (p_tup (a_cons (p_at (b_var 0) (b_of p_int) (fun _ _ => rfl)) (a_cons (p_tup (a_cons p_str a_nil)) a_nil)))))
  ss_nil)
  (ss_cons (s_if (t_eq hr (b_of (p_at (b_var 0) (b_of p_int) (fun _ _ => rfl))) (b_of p_str))
  (ss_one (s_ret (p_fn I.h__law_first (hr.mono (Nat.le_succ _)) rfl (a_cons (p_at (b_var 0) (b_of (p_add (b_of p_int) (b_of (p_callTy call_int1 cb_int rfl C.z_int boot_int (a_consB (b_of (p_notV (p_fn I.h__law_holds (hr.mono (Nat.le_succ _)) rfl (a_cons (p_at (b_var 0) (b_of p_int) (fun _ _ => rfl)) (a_cons (p_var 1) a_nil))))) a_nil))))) (fun _ _ => rfl)) (a_cons (p_var 1) a_nil)))))
  ss_nil)
  (ss_cons (s_if (t_eq hr (b_of (p_at (b_var 0) (b_of p_int) (fun _ _ => rfl))) (b_of p_str))
  (ss_cons (s_asg (p_fn I.h__law_first (hr.mono (Nat.le_succ _)) rfl (a_cons (p_at (b_var 0) (b_of p_int) (fun _ _ => rfl)) (a_cons (p_var 1) a_nil))) (g_tup rfl (gs_cons (g_name (i := 2) sc_l_first.nd rfl (Or.inl rfl)) (gs_cons (g_name (i := 3) sc_l_first.nd rfl (Or.inl rfl)) gs_nil))))
  (ss_cons (s_if (t_eq hr (b_var 2) (b_of p_str))
  (ss_one (s_ret (p_fn I.h__law_first (hr.mono (Nat.le_succ _)) rfl (a_cons (p_at (b_var 0) (b_of p_int) (fun _ _ => rfl)) (a_cons (p_var 1) a_nil)))))
  ss_nil)
  (ss_cons (s_if (t_isN (b_var 3))
  (ss_one (s_ret (p_tup (a_cons (p_var 2) (a_cons p_non a_nil)))))
  ss_nil)
  (ss_one (s_ret (p_tup (a_cons (p_var 2) (a_cons (p_tup (a_cons p_str (a_cons (p_var 3) (a_cons (p_at (b_var 0) (b_of p_int) (fun _ _ => rfl)) a_nil)))) a_nil))))))))
  ss_nil)
  (ss_cons (s_if (t_w (w_and (t_eq hr (b_of (p_at (b_var 0) (b_of p_int) (fun _ _ => rfl))) (b_of p_str)) (w_and1 (t_val (p_fn I.h__law_holds (hr.mono (Nat.le_succ _)) rfl (a_cons (p_at (b_var 0) (b_of p_int) (fun _ _ => rfl)) (a_cons (p_var 1) a_nil)))))))
  (ss_cons (s_asg (p_fn I.h__law_first (hr.mono (Nat.le_succ _)) rfl (a_cons (p_at (b_var 0) (b_of p_int) (fun _ _ => rfl)) (a_cons (p_var 1) a_nil))) (g_tup rfl (gs_cons (g_name (i := 2) sc_l_first.nd rfl (Or.inl rfl)) (gs_cons (g_name (i := 3) sc_l_first.nd rfl (Or.inl rfl)) gs_nil))))
  (ss_cons (s_if (t_eq hr (b_var 2) (b_of p_str))
  (ss_one (s_ret (p_tup (a_cons p_str (a_cons p_non a_nil)))))
  ss_nil)
  (ss_cons (s_if (t_isN (b_var 3))
  (ss_one (s_ret (p_tup (a_cons (p_var 2) (a_cons p_non a_nil)))))
  ss_nil)
  (ss_one (s_ret (p_tup (a_cons (p_var 2) (a_cons (p_tup (a_cons p_str (a_cons (p_var 3) (a_cons (p_var 0) a_nil)))) a_nil))))))))
  ss_nil)
  (ss_cons (s_if (t_eq hr (b_of (p_at (b_var 0) (b_of p_int) (fun _ _ => rfl))) (b_of p_str))
  (ss_one (s_ret (p_tup (a_cons p_str (a_cons p_non a_nil)))))
  ss_nil)
  (ss_one (s_ret (p_tup (a_cons p_str (a_cons p_non a_nil))))))))))
theorem b_l_led {P : Program} {w : World} {K : PySem.W.Frag} {mg : Str → Option Value} {base : Bs} {cA : Nat → Addr} {ts : List Addr} {n : Nat} (C : Ct P w K mg base cA ts) (I : AllF P w K mg base cA n) {f : Addr} {cdv : Value} {A : Around} {outer : List Env} {s : Shared} {H : Hp} {E : XK} (hr : Room (2 * n + 4) (A.deeper (PyProof.Rows.envOfC "_law_led" (defScope s_l_led) s.heap.objs.size f cdv))) :
    JSs (cxOf CX0 P w K mg base ["_law_offsets", "_law_deed", "_law_state"] "_law_led" (defScope s_l_led) f cdv A outer s H E).nox (pg cA) (defBody s_l_led) (d_l_led (gF n)) := by
  unfold d_l_led
  exact (ss_one (s_ret (p_add (b_of (p_div (b_var 2) (b_of p_int))) (b_of (p_at (b_var 0) (b_of (p_indexS p_str (p_var 1))) (fun _ _ => rfl))))))
theorem b_l_run {P : Program} {w : World} {K : PySem.W.Frag} {mg : Str → Option Value} {base : Bs} {cA : Nat → Addr} {ts : List Addr} {n : Nat} (C : Ct P w K mg base cA ts) (I : AllF P w K mg base cA n) {f : Addr} {cdv : Value} {A : Around} {outer : List Env} {s : Shared} {H : Hp} {E : XK} (hr : Room (2 * n + 4) (A.deeper (PyProof.Rows.envOfC "_law_run" (defScope s_l_run) s.heap.objs.size f cdv))) :
    JSs (cxOf CX0 P w K mg base ["_law_prog_here", "_law_offsets", "_law_state", "_law_most", "_law_deeds", "_law_what", "_law_left"] "_law_run" (defScope s_l_run) f cdv A outer s H E).nox (pg cA) (defBody s_l_run) (d_l_run (gF n)) := by
  unfold d_l_run
  exact (ss_cons (s_set (i := 4) sc_l_run.nd rfl (Or.inl rfl) p_str)
  (ss_cons (s_asg (p_fn I.h__law_first (hr.mono (Nat.le_succ _)) rfl (a_cons (p_var 0) (a_cons (p_mod (b_var 2) (b_of p_int)) a_nil))) (g_tup rfl (gs_cons (g_name (i := 5) sc_l_run.nd rfl (Or.inl rfl)) (gs_cons (g_name (i := 6) sc_l_run.nd rfl (Or.inl rfl)) gs_nil))))
  (ss_cons (s_whileM PassesOwn.never (tm_of (t_notN (b_var 6)))
  (ss_cons (s_if (t_eq hr (b_of (p_callB call_len cb_len rfl C.z_len PySem.boot_len (a_consB (b_var 4) a_nil))) (b_var 3))
  (ss_one (s_ret (p_tup (a_cons (p_var 4) (a_cons p_str (a_cons (p_var 2) a_nil))))))
  ss_nil)
  (ss_cons (s_set (i := 4) sc_l_run.nd rfl (Or.inl rfl) (p_catS (b_var 4) (b_var 5)))
  (ss_cons (s_set (i := 2) sc_l_run.nd rfl (Or.inl rfl) (p_fn I.h__law_led (hr.mono (Nat.le_succ _)) rfl (a_cons (p_var 1) (a_cons (p_var 5) (a_cons (p_var 2) a_nil)))))
  (ss_one (s_asg (p_fn I.h__law_first (hr.mono (Nat.le_succ _)) rfl (a_cons (p_var 6) (a_cons (p_mod (b_var 2) (b_of p_int)) a_nil))) (g_tup rfl (gs_cons (g_name (i := 5) sc_l_run.nd rfl (Or.inl rfl)) (gs_cons (g_name (i := 6) sc_l_run.nd rfl (Or.inl rfl)) gs_nil)))))))))
  (ss_one (s_ret (p_tup (a_cons (p_var 4) (a_cons (p_var 5) (a_cons (p_var 2) a_nil)))))))))
theorem b_l_alike {P : Program} {w : World} {K : PySem.W.Frag} {mg : Str → Option Value} {base : Bs} {cA : Nat → Addr} {ts : List Addr} {n : Nat} (C : Ct P w K mg base cA ts) (I : AllF P w K mg base cA n) {f : Addr} {cdv : Value} {A : Around} {outer : List Env} {s : Shared} {H : Hp} {E : XK} (hr : Room (2 * n + 4) (A.deeper (PyProof.Rows.envOfC "_law_alike" (defScope s_l_alike) s.heap.objs.size f cdv))) :
    JSs (cxOf CX0 P w K mg base ["_law_found", "_law_due"] "_law_alike" (defScope s_l_alike) f cdv A outer s H E).nox (pg cA) (defBody s_l_alike) (d_l_alike (gF n)) := by
  unfold d_l_alike
  exact (ss_cons (s_if (t_w (w_or (t_not (t_val (p_isi rfl C.z_isinstance C.i_tuple ty_only (b_var 0) (pe_type rfl C.z_tuple boot_tuple)))) (w_or (t_ne hr (b_of (p_callB call_len cb_len rfl C.z_len PySem.boot_len (a_consB (b_var 0) a_nil))) (b_of p_int)) (w_or1 (t_val (p_isi rfl C.z_isinstance C.i_bool ty_only (b_of (p_at (b_var 0) (b_of p_int) (fun _ _ => rfl))) (pe_type rfl C.z_bool boot_bool)))))))
  (ss_one (s_ret p_bl))
  ss_nil)
  (ss_one (s_ret (p_eq hr (b_var 0) (b_var 1)))))
theorem b_law {P : Program} {w : World} {K : PySem.W.Frag} {mg : Str → Option Value} {base : Bs} {cA : Nat → Addr} {ts : List Addr} {n : Nat} (C : Ct P w K mg base cA ts) (I : AllF P w K mg base cA n) {f c Pt : Addr} {A : Around} {outer : List Env} {s : Shared} {H : Hp} {E : XK} (hr : Room (2 * n + 4) (A.deeper (PyProof.Rows.envOfC "law" (defScope s_law) s.heap.objs.size f (.ref c)))) (mk : MkX (cxOf CX0 P w K mg base ["_law_script", "_law_prog_here", "_law_offsets", "_law_start", "_law_most", "_law_step", "_law_world", "_law_told", "_law_found", "_law_fewer", "_law_head"] "law" (defScope s_law) f (.ref c) A outer s H E).nox c Pt) :
    JSs (cxOf CX0 P w K mg base ["_law_script", "_law_prog_here", "_law_offsets", "_law_start", "_law_most", "_law_step", "_law_world", "_law_told", "_law_found", "_law_fewer", "_law_head"] "law" (defScope s_law) f (.ref c) A outer s H E).nox (pg cA) (defBody s_law) (d_law (gF n)) := by
  unfold d_law
  exact (ss_cons (s_set (i := 1) sc_law.nd rfl (Or.inl rfl) (p_fn I.h__law_prog (hr.mono (Nat.le_succ _)) rfl (a_cons (p_fn I.h__law_cell_at (hr.mono (Nat.le_succ _)) rfl (a_cons (p_var 0) (a_cons p_int a_nil))) (a_cons (p_of_n (n_cut (b_var 0) (o_some p_int) (o_some p_int))) a_nil))))
  (ss_cons (s_set (i := 2) sc_law.nd rfl (Or.inr rfl) (p_of_n (n_comp (own := ["_law_k"]) (caps := [("_law_script", 0)]) ⟨rfl, by decide +kernel, by decide +kernel, ⟨⟨rfl, rfl, Or.inl rfl⟩, True.intro⟩, rfl⟩ rfl (s_of_i (i_rng1 rfl C.z_range (a_cons p_int a_nil))) (fun _ _ _ _ => (g_name (i := 0) (show (["_law_k", "_law_script"] : List Str).Nodup by decide +kernel) rfl (Or.inl rfl))) (fun _ _ _ _ => ts_nil) (fun _ _ _ _ => (p_mod (b_of (p_fn I.h__law_draw (hr.mono (Nat.le_succ _)) rfl (a_cons (p_fn I.h__law_cell_at (hr.mono (Nat.le_succ _)) rfl (a_cons (p_var 1) (a_cons p_int a_nil))) (a_cons (p_var 0) a_nil)))) (b_of p_int))) gk_set)))
  (ss_cons (s_set (i := 3) sc_law.nd rfl (Or.inl rfl) (p_fn I.h__law_cell_at (hr.mono (Nat.le_succ _)) rfl (a_cons (p_var 0) (a_cons p_int a_nil))))
  (ss_cons (s_set (i := 4) sc_law.nd rfl (Or.inl rfl) (p_mod (b_of (p_fn I.h__law_cell_at (hr.mono (Nat.le_succ _)) rfl (a_cons (p_var 0) (a_cons p_int a_nil)))) (b_of p_int)))
  (ss_cons (s_if (t_eq hr (b_of (p_mod (b_of (p_div (b_of (p_fn I.h__law_cell_at (hr.mono (Nat.le_succ _)) rfl (a_cons (p_var 0) (a_cons p_int a_nil)))) (b_of p_int))) (b_of p_int))) (b_of p_int))
  (ss_one (s_set (i := 4) sc_law.nd rfl (Or.inl rfl) (p_add (b_of p_int) (b_of (p_mod (b_of (p_div (b_of (p_fn I.h__law_cell_at (hr.mono (Nat.le_succ _)) rfl (a_cons (p_var 0) (a_cons p_int a_nil)))) (b_of p_int))) (b_of p_int))))))
  ss_nil)
  (ss_cons (s_if (t_eq hr (b_of (p_mod (b_of (p_div (b_of (p_fn I.h__law_cell_at (hr.mono (Nat.le_succ _)) rfl (a_cons (p_var 0) (a_cons p_int a_nil)))) (b_of p_int))) (b_of p_int))) (b_of p_int))
  (ss_one (s_set (i := 4) sc_law.nd rfl (Or.inl rfl) (p_add (b_of p_int) (b_of (p_mod (b_of (p_div (b_of (p_fn I.h__law_cell_at (hr.mono (Nat.le_succ _)) rfl (a_cons (p_var 0) (a_cons p_int a_nil)))) (b_of p_int))) (b_of p_int))))))
  ss_nil)
  (ss_cons (s_set (i := 5) sc_law.nd rfl (Or.inl rfl) (p_fn I.h__law_built (hr.mono (Nat.le_succ _)) rfl (a_cons (p_var 1) a_nil)))
  (ss_seal ["_law_offsets"]
  (ss_cons (s_set (i := 6) sc_law.nd rfl (Or.inl rfl) (p_new (k := 2 * n + 2) C.n_World hr rfl (a_cons (p_lam 38 rfl ⟨mk.code, mk.hd, mk.tab⟩ (takes_mk (js := []) rfl rfl rfl)) (a_cons (p_lam 39 rfl ⟨mk.code, mk.hd, mk.tab⟩ (takes_mk (js := [2]) rfl rfl rfl)) a_nil)) rfl))
  (ss_cons (s_set (i := 7) sc_law.nd rfl (Or.inl rfl) (p_newI I.n_Rooms hr rfl (a_cons (p_var 5) a_nil) (j_Rooms _)))
  (ss_cons (s_set (i := 8) sc_law.nd rfl (Or.inl rfl) (p_meth I.m_run (hr.mono (Nat.le_succ _)) (p_var 7) (a_cons (p_var 6) (a_cons (p_var 3) (a_cons (p_var 4) a_nil)))))
  (ss_cons (s_if (t_w (w_and (t_le (b_var 4) (b_of p_int)) (w_and1 (t_not (t_val (p_fn I.h__law_alike (hr.mono (Nat.le_succ _)) rfl (a_cons (p_var 8) (a_cons (p_fn I.h__law_run (hr.mono (Nat.le_succ _)) rfl (a_cons (p_var 1) (a_cons (p_var 2) (a_cons (p_var 3) (a_cons (p_var 4) a_nil))))) a_nil))))))))
  (ss_one (s_ret p_bl))
  ss_nil)
  (ss_cons (s_if (t_ne hr (b_var 8) (b_of (p_fn I.h_run_from (hr.mono (Nat.le_succ _)) rfl (a_cons (p_var 5) (a_cons (p_var 6) (a_cons (p_var 3) (a_cons (p_var 4) a_nil)))))))
  (ss_one (s_ret p_bl))
  ss_nil)
  (ss_cons (s_set (i := 9) sc_law.nd rfl (Or.inl rfl) (p_div (b_var 4) (b_of p_int)))
  (ss_cons (s_set (i := 10) sc_law.nd rfl (Or.inl rfl) (p_meth I.m_run (hr.mono (Nat.le_succ _)) (p_var 7) (a_cons (p_var 6) (a_cons (p_var 3) (a_cons (p_var 9) a_nil)))))
  (ss_cons (s_if (t_w (w_or (t_not (t_val (p_starts (p_at (b_var 8) (b_of p_int) (fun _ _ => rfl)) (p_at (b_var 10) (b_of p_int) (fun _ _ => rfl))))) (w_or1 (t_ne hr (b_of (p_callB call_len cb_len rfl C.z_len PySem.boot_len (a_consB (b_of (p_at (b_var 10) (b_of p_int) (fun _ _ => rfl))) a_nil))) (b_of (p_callB (call_min2 rfl) cb_min2 rfl C.z_min boot_min (a_cons (p_var 9) (a_cons (p_callB call_len cb_len rfl C.z_len PySem.boot_len (a_consB (b_of (p_at (b_var 8) (b_of p_int) (fun _ _ => rfl))) a_nil)) a_nil))))))))
  (ss_one (s_ret p_bl))
  ss_nil)
  (ss_cons (s_if (t_gt (b_var 4) (b_of p_int))
  (ss_one (s_ret p_bl))
  ss_nil)
  (ss_one (s_ret (p_andV (p_eq hr (b_var 10) (b_of (p_fn I.h_run_from (hr.mono (Nat.le_succ _)) rfl (a_cons (p_var 5) (a_cons (p_var 6) (a_cons (p_var 3) (a_cons (p_var 9) a_nil))))))) (p_one (p_eq hr (b_of (p_meth I.m_run (hr.mono (Nat.le_succ _)) (p_var 7) (a_cons (p_var 6) (a_cons (p_var 3) (a_cons (p_var 4) a_nil))))) (b_var 8)))))))))))))))))))))))
theorem b_Skip_first {P : Program} {w : World} {K : PySem.W.Frag} {mg : Str → Option Value} {base : Bs} {cA : Nat → Addr} {ts : List Addr} {n : Nat} (C : Ct P w K mg base cA ts) (I : AllF P w K mg base cA n) {f : Addr} {cdv : Value} {A : Around} {outer : List Env} {s : Shared} {H : Hp} {E : XK} (hr : Room (2 * n + 4) (A.deeper (PyProof.Rows.envOfC "Skip.first" (defScope s_Skip_first) s.heap.objs.size f cdv))) :
    JSs (cxOf CX0 P w K mg base ["self", "setting"] "Skip.first" (defScope s_Skip_first) f cdv A outer s H E).nox (pg cA) (defBody s_Skip_first) (d_Skip_first (gF n)) := by
  obtain ⟨_, g_DONE⟩ := C.e_DONE
  unfold d_Skip_first
  exact (ss_one (s_ret (p_tup (a_cons (p_topS rfl g_DONE) (a_cons p_non a_nil)))))
theorem b_Stop_first {P : Program} {w : World} {K : PySem.W.Frag} {mg : Str → Option Value} {base : Bs} {cA : Nat → Addr} {ts : List Addr} {n : Nat} (C : Ct P w K mg base cA ts) (I : AllF P w K mg base cA n) {f : Addr} {cdv : Value} {A : Around} {outer : List Env} {s : Shared} {H : Hp} {E : XK} (hr : Room (2 * n + 4) (A.deeper (PyProof.Rows.envOfC "Stop.first" (defScope s_Stop_first) s.heap.objs.size f cdv))) :
    JSs (cxOf CX0 P w K mg base ["self", "setting"] "Stop.first" (defScope s_Stop_first) f cdv A outer s H E).nox (pg cA) (defBody s_Stop_first) (d_Stop_first (gF n)) := by
  obtain ⟨_, g_STOPPED⟩ := C.e_STOPPED
  unfold d_Stop_first
  exact (ss_one (s_ret (p_tup (a_cons (p_topS rfl g_STOPPED) (a_cons p_non a_nil)))))
theorem b_Deed_first {P : Program} {w : World} {K : PySem.W.Frag} {mg : Str → Option Value} {base : Bs} {cA : Nat → Addr} {ts : List Addr} {n : Nat} (C : Ct P w K mg base cA ts) (I : AllF P w K mg base cA n) {f : Addr} {cdv : Value} {A : Around} {outer : List Env} {s : Shared} {H : Hp} {E : XK} (hr : Room (2 * n + 4) (A.deeper (PyProof.Rows.envOfC "Deed.first" (defScope s_Deed_first) s.heap.objs.size f cdv))) :
    JSs (cxOf CX0 P w K mg base ["self", "setting"] "Deed.first" (defScope s_Deed_first) f cdv A outer s H E).nox (pg cA) (defBody s_Deed_first) (d_Deed_first (gF n)) := by
  unfold d_Deed_first
  exact (ss_one (s_ret (p_tup (a_cons (p_fld C.f_name (p_var 0) rfl) (a_cons (p_new0 C.k_Skip rfl rfl C.c_Skip) a_nil)))))
theorem b_Row_first {P : Program} {w : World} {K : PySem.W.Frag} {mg : Str → Option Value} {base : Bs} {cA : Nat → Addr} {ts : List Addr} {n : Nat} (C : Ct P w K mg base cA ts) (I : AllF P w K mg base cA n) {f : Addr} {cdv : Value} {A : Around} {outer : List Env} {s : Shared} {H : Hp} {E : XK} (hr : Room (2 * n + 4) (A.deeper (PyProof.Rows.envOfC "Row.first" (defScope s_Row_first) s.heap.objs.size f cdv))) :
    JSs (cxOf CX0 P w K mg base ["self", "setting", "begun"] "Row.first" (defScope s_Row_first) f cdv A outer s H E).nox (pg cA) (defBody s_Row_first) (d_Row_first (gF n)) := by
  obtain ⟨_, g_DONE⟩ := C.e_DONE
  unfold d_Row_first
  exact (ss_cons (s_set (i := 2) sc_Row_first.nd rfl (Or.inl rfl) (p_meth I.m_first (hr.mono (Nat.le_succ _)) (p_fld C.f_head (p_var 0) rfl) (a_cons (p_var 1) a_nil)))
  (ss_cons (s_if (t_eq hr (b_of (p_at (b_var 2) (b_of p_int) (fun _ _ => rfl))) (b_of (p_topS rfl g_DONE)))
  (ss_one (s_ret (p_meth I.m_first (hr.mono (Nat.le_succ _)) (p_fld C.f_tail (p_var 0) rfl) (a_cons (p_var 1) a_nil))))
  ss_nil)
  (ss_cons (s_if (t_isN (b_of (p_at (b_var 2) (b_of p_int) (fun _ _ => rfl))))
  (ss_one (s_ret (p_var 2)))
  ss_nil)
  (ss_one (s_ret (p_tup (a_cons (p_at (b_var 2) (b_of p_int) (fun _ _ => rfl)) (a_cons (p_new (k := 2 * n + 2) C.n_Row hr rfl (a_cons (p_at (b_var 2) (b_of p_int) (fun _ _ => rfl)) (a_cons (p_fld C.f_tail (p_var 0) rfl) a_nil)) rfl) a_nil))))))))
theorem b_Choice_first {P : Program} {w : World} {K : PySem.W.Frag} {mg : Str → Option Value} {base : Bs} {cA : Nat → Addr} {ts : List Addr} {n : Nat} (C : Ct P w K mg base cA ts) (I : AllF P w K mg base cA n) {f : Addr} {cdv : Value} {A : Around} {outer : List Env} {s : Shared} {H : Hp} {E : XK} (hr : Room (2 * n + 4) (A.deeper (PyProof.Rows.envOfC "Choice.first" (defScope s_Choice_first) s.heap.objs.size f cdv))) :
    JSs (cxOf CX0 P w K mg base ["self", "setting"] "Choice.first" (defScope s_Choice_first) f cdv A outer s H E).nox (pg cA) (defBody s_Choice_first) (d_Choice_first (gF n)) := by
  unfold d_Choice_first
  exact (ss_cons (s_if (t_val (p_meth I.m_holds (hr.mono (Nat.le_succ _)) (p_fld C.f_test (p_var 0) rfl) (a_cons (p_var 1) a_nil)))
  (ss_one (s_ret (p_meth I.m_first (hr.mono (Nat.le_succ _)) (p_fld C.f_yes (p_var 0) rfl) (a_cons (p_var 1) a_nil))))
  ss_nil)
  (ss_one (s_ret (p_meth I.m_first (hr.mono (Nat.le_succ _)) (p_fld C.f_no (p_var 0) rfl) (a_cons (p_var 1) a_nil)))))
theorem b_Loop_first {P : Program} {w : World} {K : PySem.W.Frag} {mg : Str → Option Value} {base : Bs} {cA : Nat → Addr} {ts : List Addr} {n : Nat} (C : Ct P w K mg base cA ts) (I : AllF P w K mg base cA n) {f : Addr} {cdv : Value} {A : Around} {outer : List Env} {s : Shared} {H : Hp} {E : XK} (hr : Room (2 * n + 4) (A.deeper (PyProof.Rows.envOfC "Loop.first" (defScope s_Loop_first) s.heap.objs.size f cdv))) :
    JSs (cxOf CX0 P w K mg base ["self", "setting", "begun"] "Loop.first" (defScope s_Loop_first) f cdv A outer s H E).nox (pg cA) (defBody s_Loop_first) (d_Loop_first (gF n)) := by
  obtain ⟨_, g_DONE⟩ := C.e_DONE
  obtain ⟨_, g_HUNG⟩ := C.e_HUNG
  unfold d_Loop_first
  exact (ss_cons (s_if (t_not (t_val (p_meth I.m_holds (hr.mono (Nat.le_succ _)) (p_fld C.f_test (p_var 0) rfl) (a_cons (p_var 1) a_nil))))
  (ss_one (s_ret (p_tup (a_cons (p_topS rfl g_DONE) (a_cons p_non a_nil)))))
  ss_nil)
  (ss_cons (s_set (i := 2) sc_Loop_first.nd rfl (Or.inl rfl) (p_meth I.m_first (hr.mono (Nat.le_succ _)) (p_fld C.f_body (p_var 0) rfl) (a_cons (p_var 1) a_nil)))
  (ss_cons (s_if (t_eq hr (b_of (p_at (b_var 2) (b_of p_int) (fun _ _ => rfl))) (b_of (p_topS rfl g_DONE)))
  (ss_one (s_ret (p_tup (a_cons (p_topS rfl g_HUNG) (a_cons p_non a_nil)))))
  ss_nil)
  (ss_cons (s_if (t_isN (b_of (p_at (b_var 2) (b_of p_int) (fun _ _ => rfl))))
  (ss_one (s_ret (p_var 2)))
  ss_nil)
  (ss_one (s_ret (p_tup (a_cons (p_at (b_var 2) (b_of p_int) (fun _ _ => rfl)) (a_cons (p_new (k := 2 * n + 2) C.n_Row hr rfl (a_cons (p_at (b_var 2) (b_of p_int) (fun _ _ => rfl)) (a_cons (p_var 0) a_nil)) rfl) a_nil)))))))))
theorem b_Yes_holds {P : Program} {w : World} {K : PySem.W.Frag} {mg : Str → Option Value} {base : Bs} {cA : Nat → Addr} {ts : List Addr} {n : Nat} (C : Ct P w K mg base cA ts) (I : AllF P w K mg base cA n) {f : Addr} {cdv : Value} {A : Around} {outer : List Env} {s : Shared} {H : Hp} {E : XK} (hr : Room (2 * n + 4) (A.deeper (PyProof.Rows.envOfC "Yes.holds" (defScope s_Yes_holds) s.heap.objs.size f cdv))) :
    JSs (cxOf CX0 P w K mg base ["self", "setting"] "Yes.holds" (defScope s_Yes_holds) f cdv A outer s H E).nox (pg cA) (defBody s_Yes_holds) (d_Yes_holds (gF n)) := by
  unfold d_Yes_holds
  exact (ss_one (s_ret p_bl))
theorem b_Named_holds {P : Program} {w : World} {K : PySem.W.Frag} {mg : Str → Option Value} {base : Bs} {cA : Nat → Addr} {ts : List Addr} {n : Nat} (C : Ct P w K mg base cA ts) (I : AllF P w K mg base cA n) {f : Addr} {cdv : Value} {A : Around} {outer : List Env} {s : Shared} {H : Hp} {E : XK} (hr : Room (2 * n + 4) (A.deeper (PyProof.Rows.envOfC "Named.holds" (defScope s_Named_holds) s.heap.objs.size f cdv))) :
    JSs (cxOf CX0 P w K mg base ["self", "setting"] "Named.holds" (defScope s_Named_holds) f cdv A outer s H E).nox (pg cA) (defBody s_Named_holds) (d_Named_holds (gF n)) := by
  obtain ⟨_, g_LETTERS, t_LETTERS⟩ := C.e_LETTERS
  unfold d_Named_holds
  exact (ss_one (s_ret (p_eq hr (b_of (p_and (b_of (p_shr (b_var 1) (b_of (p_index (ws := c_LETTERS) t_LETTERS rfl g_LETTERS (fun _ _ => ⟨_, _, rfl, rfl, ⟨_, _, rfl, rfl, ⟨_, _, rfl, rfl, ⟨_, _, rfl, rfl, rfl⟩⟩⟩⟩) rfl (p_fld C.f_name (p_var 0) rfl))))) (b_of p_int))) (b_of p_int))))
theorem b_Not_holds {P : Program} {w : World} {K : PySem.W.Frag} {mg : Str → Option Value} {base : Bs} {cA : Nat → Addr} {ts : List Addr} {n : Nat} (C : Ct P w K mg base cA ts) (I : AllF P w K mg base cA n) {f : Addr} {cdv : Value} {A : Around} {outer : List Env} {s : Shared} {H : Hp} {E : XK} (hr : Room (2 * n + 4) (A.deeper (PyProof.Rows.envOfC "Not.holds" (defScope s_Not_holds) s.heap.objs.size f cdv))) :
    JSs (cxOf CX0 P w K mg base ["self", "setting"] "Not.holds" (defScope s_Not_holds) f cdv A outer s H E).nox (pg cA) (defBody s_Not_holds) (d_Not_holds (gF n)) := by
  unfold d_Not_holds
  exact (ss_one (s_ret (p_notV (p_meth I.m_holds (hr.mono (Nat.le_succ _)) (p_fld C.f_inner (p_var 0) rfl) (a_cons (p_var 1) a_nil)))))
theorem b_Both_holds {P : Program} {w : World} {K : PySem.W.Frag} {mg : Str → Option Value} {base : Bs} {cA : Nat → Addr} {ts : List Addr} {n : Nat} (C : Ct P w K mg base cA ts) (I : AllF P w K mg base cA n) {f : Addr} {cdv : Value} {A : Around} {outer : List Env} {s : Shared} {H : Hp} {E : XK} (hr : Room (2 * n + 4) (A.deeper (PyProof.Rows.envOfC "Both.holds" (defScope s_Both_holds) s.heap.objs.size f cdv))) :
    JSs (cxOf CX0 P w K mg base ["self", "setting"] "Both.holds" (defScope s_Both_holds) f cdv A outer s H E).nox (pg cA) (defBody s_Both_holds) (d_Both_holds (gF n)) := by
  unfold d_Both_holds
  exact (ss_one (s_ret (p_andV (p_meth I.m_holds (hr.mono (Nat.le_succ _)) (p_fld C.f_left (p_var 0) rfl) (a_cons (p_var 1) a_nil)) (p_one (p_meth I.m_holds (hr.mono (Nat.le_succ _)) (p_fld C.f_right (p_var 0) rfl) (a_cons (p_var 1) a_nil))))))
theorem b_Either_holds {P : Program} {w : World} {K : PySem.W.Frag} {mg : Str → Option Value} {base : Bs} {cA : Nat → Addr} {ts : List Addr} {n : Nat} (C : Ct P w K mg base cA ts) (I : AllF P w K mg base cA n) {f : Addr} {cdv : Value} {A : Around} {outer : List Env} {s : Shared} {H : Hp} {E : XK} (hr : Room (2 * n + 4) (A.deeper (PyProof.Rows.envOfC "Either.holds" (defScope s_Either_holds) s.heap.objs.size f cdv))) :
    JSs (cxOf CX0 P w K mg base ["self", "setting"] "Either.holds" (defScope s_Either_holds) f cdv A outer s H E).nox (pg cA) (defBody s_Either_holds) (d_Either_holds (gF n)) := by
  unfold d_Either_holds
  exact (ss_one (s_ret (p_orV (p_meth I.m_holds (hr.mono (Nat.le_succ _)) (p_fld C.f_left (p_var 0) rfl) (a_cons (p_var 1) a_nil)) (p_one (p_meth I.m_holds (hr.mono (Nat.le_succ _)) (p_fld C.f_right (p_var 0) rfl) (a_cons (p_var 1) a_nil))))))
theorem b_Rooms_run {P : Program} {w : World} {K : PySem.W.Frag} {mg : Str → Option Value} {base : Bs} {cA : Nat → Addr} {ts : List Addr} {n : Nat} (C : Ct P w K mg base cA ts) (I : AllF P w K mg base cA n) {f c Pt : Addr} {A : Around} {outer : List Env} {s : Shared} {H : Hp} {E : XK} (hr : Room (2 * n + 4) (A.deeper (PyProof.Rows.envOfC "Rooms.run" (defScope s_Rooms_run) s.heap.objs.size f (.ref c)))) (mk : MkX (cxOf CX0 P w K mg base ["self", "world", "state", "most"] "Rooms.run" (defScope s_Rooms_run) f (.ref c) A outer s H E).nox c Pt) :
    JSs (cxOf CX0 P w K mg base ["self", "world", "state", "most"] "Rooms.run" (defScope s_Rooms_run) f (.ref c) A outer s H E).nox (pg cA) (defBody s_Rooms_run) (d_Rooms_run (gF n)) := by
  unfold d_Rooms_run
  exact (ss_seal ["self"]
  (ss_one (s_ret (p_fn I.h_run_along (hr.mono (Nat.le_succ _)) rfl (a_cons p_int (a_cons (p_lam 40 rfl ⟨mk.code, mk.hd, mk.tab⟩ (takes_mk (js := [0]) rfl rfl rfl)) (a_cons (p_var 1) (a_cons (p_var 2) (a_cons (p_var 3) a_nil)))))))))
theorem b_World_setting {P : Program} {w : World} {K : PySem.W.Frag} {mg : Str → Option Value} {base : Bs} {cA : Nat → Addr} {ts : List Addr} {n : Nat} (C : Ct P w K mg base cA ts) (I : AllF P w K mg base cA n) {f : Addr} {cdv : Value} {A : Around} {outer : List Env} {s : Shared} {H : Hp} {E : XK} (hr : Room (2 * n + 4) (A.deeper (PyProof.Rows.envOfC "World.setting" (defScope s_World_setting) s.heap.objs.size f cdv))) :
    JSs (cxOf CX0 P w K mg base ["self", "state"] "World.setting" (defScope s_World_setting) f cdv A outer s H E).nox (pg cA) (defBody s_World_setting) (d_World_setting (gF n)) := by
  unfold d_World_setting
  exact (ss_one (s_ret (p_callA C.f_says (p_var 0) I.cl (hr.mono (Nat.le_succ _)) (a_cons (p_var 1) a_nil))))
theorem b_World_led {P : Program} {w : World} {K : PySem.W.Frag} {mg : Str → Option Value} {base : Bs} {cA : Nat → Addr} {ts : List Addr} {n : Nat} (C : Ct P w K mg base cA ts) (I : AllF P w K mg base cA n) {f : Addr} {cdv : Value} {A : Around} {outer : List Env} {s : Shared} {H : Hp} {E : XK} (hr : Room (2 * n + 4) (A.deeper (PyProof.Rows.envOfC "World.led" (defScope s_World_led) s.heap.objs.size f cdv))) :
    JSs (cxOf CX0 P w K mg base ["self", "deed", "state"] "World.led" (defScope s_World_led) f cdv A outer s H E).nox (pg cA) (defBody s_World_led) (d_World_led (gF n)) := by
  unfold d_World_led
  exact (ss_one (s_ret (p_callA C.f_leads (p_var 0) I.cl (hr.mono (Nat.le_succ _)) (a_cons (p_var 1) (a_cons (p_var 2) a_nil)))))
theorem b_Rooms_init {P : Program} {w : World} {K : PySem.W.Frag} {mg : Str → Option Value} {base : Bs} {cA : Nat → Addr} {ts : List Addr} {n : Nat} (C : Ct P w K mg base cA ts) (I : AllF P w K mg base cA n) {f : Addr} {cdv : Value} {A : Around} {outer : List Env} {s : Shared} {H : Hp} {E : XK} (hr : Room (2 * n + 4) (A.deeper (PyProof.Rows.envOfC "Rooms.__init__" (defScope s_Rooms_init) s.heap.objs.size f cdv))) :
    JSs (cxOf CX0 P w K mg base ["self", "step"] "Rooms.__init__" (defScope s_Rooms_init) f cdv A outer s H E).nox (pg cA) (defBody s_Rooms_init) (d_Rooms_init (gF n)) := by
  unfold d_Rooms_init
  exact (ss_cons (s_ini (j := 0) 13 C.l_Rooms.cls C.x_Rooms_step (show (fN 13).Nodup by decide +kernel) rfl (show (fN 13).length < 1000 by decide) (p_var 1))
  (ss_one (s_ini (j := 1) 13 C.l_Rooms.cls C.x_Rooms_doors (show (fN 13).Nodup by decide +kernel) rfl (show (fN 13).length < 1000 by decide) (p_fn I.h_doors_of (hr.mono (Nat.le_succ _)) rfl (a_cons (p_var 1) (a_cons p_int a_nil))))))
theorem b_run_from_n1 {P : Program} {w : World} {K : PySem.W.Frag} {mg : Str → Option Value} {base : Bs} {cA : Nat → Addr} {ts : List Addr} {n : Nat} (C : Ct P w K mg base cA ts) (I : AllF P w K mg base cA n) {qual : Str} {cd : Value} {cl : List (Str × Addr)} {f : Addr} {A : Around} {outer : List Env} {s : Shared} {H : Hp} {E : XK} (hr : Room (2 * n + 4) (A.deeper (PySem.W.envX qual n_run_from_n1.scope s.heap.objs.size f cd cl))) :
    JP (cxN CX0 P w K mg base ["left", "setting"] qual n_run_from_n1.scope f cd cl A outer s H E).nox (pg cA) (nstE n_run_from_n1) (d_run_from_n1 (gF n)) := by
  unfold d_run_from_n1
  exact (p_meth I.m_first (hr.mono (Nat.le_succ _)) (p_var 0) (a_cons (p_var 1) a_nil))
theorem b_law_n1 {P : Program} {w : World} {K : PySem.W.Frag} {mg : Str → Option Value} {base : Bs} {cA : Nat → Addr} {ts : List Addr} {n : Nat} (C : Ct P w K mg base cA ts) (I : AllF P w K mg base cA n) {qual : Str} {cd : Value} {cl : List (Str × Addr)} {f : Addr} {A : Around} {outer : List Env} {s : Shared} {H : Hp} {E : XK} (hr : Room (2 * n + 4) (A.deeper (PySem.W.envX qual n_law_n1.scope s.heap.objs.size f cd cl))) :
    JP (cxN CX0 P w K mg base ["_law_state"] qual n_law_n1.scope f cd cl A outer s H E).nox (pg cA) (nstE n_law_n1) (d_law_n1 (gF n)) := by
  unfold d_law_n1
  exact (p_mod (b_var 0) (b_of p_int))
theorem b_law_n2 {P : Program} {w : World} {K : PySem.W.Frag} {mg : Str → Option Value} {base : Bs} {cA : Nat → Addr} {ts : List Addr} {n : Nat} (C : Ct P w K mg base cA ts) (I : AllF P w K mg base cA n) {qual : Str} {cd : Value} {cl : List (Str × Addr)} {f : Addr} {A : Around} {outer : List Env} {s : Shared} {H : Hp} {E : XK} (hr : Room (2 * n + 4) (A.deeper (PySem.W.envX qual n_law_n2.scope s.heap.objs.size f cd cl))) :
    JP (cxN CX0 P w K mg base ["_law_deed", "_law_state", "_law_offsets"] qual n_law_n2.scope f cd cl A outer s H E).nox (pg cA) (nstE n_law_n2) (d_law_n2 (gF n)) := by
  unfold d_law_n2
  exact (p_fn I.h__law_led (hr.mono (Nat.le_succ _)) rfl (a_cons (p_var 2) (a_cons (p_var 0) (a_cons (p_var 1) a_nil))))
theorem b_Rooms_run_n1 {P : Program} {w : World} {K : PySem.W.Frag} {mg : Str → Option Value} {base : Bs} {cA : Nat → Addr} {ts : List Addr} {n : Nat} (C : Ct P w K mg base cA ts) (I : AllF P w K mg base cA n) {qual : Str} {cd : Value} {cl : List (Str × Addr)} {f : Addr} {A : Around} {outer : List Env} {s : Shared} {H : Hp} {E : XK} (hr : Room (2 * n + 4) (A.deeper (PySem.W.envX qual n_Rooms_run_n1.scope s.heap.objs.size f cd cl))) :
    JP (cxN CX0 P w K mg base ["room", "setting", "self"] qual n_Rooms_run_n1.scope f cd cl A outer s H E).nox (pg cA) (nstE n_Rooms_run_n1) (d_Rooms_run_n1 (gF n)) := by
  unfold d_Rooms_run_n1
  exact (p_at (b_of (p_at (b_of (p_fld C.f_doors (p_var 2) rfl)) (b_var 0) (fun _ _ => rfl))) (b_var 1) (fun _ _ => rfl))
structure Fs (K : PySem.W.Frag) (mg : Str → Option Value) (cA : Nat → Addr) (ts : List Addr) : Prop where
  F_run_from : ∃ f fd c P, DefF K mg "run_from" s_run_from ["step", "world", "state", "most"] f fd ∧ FunT K fd c P ts
  F_run_along : ∃ f fd, DefF K mg "run_along" s_run_along ["begin", "door", "world", "state", "most"] f fd
  F_doors_of : ∃ f fd, DefF K mg "doors_of" s_doors_of ["step", "ahead"] f fd
  F_ended : ∃ f fd, DefF K mg "ended" s_ended ["end"] f fd
  F_row_doors : ∃ f fd, DefF K mg "row_doors" s_row_doors ["step", "ahead"] f fd
  F_choice_doors : ∃ f fd, DefF K mg "choice_doors" s_choice_doors ["step", "ahead"] f fd
  F_loop_doors : ∃ f fd, DefF K mg "loop_doors" s_loop_doors ["step", "ahead"] f fd
  F_loop_door : ∃ f fd, DefF K mg "loop_door" s_loop_door ["holds", "door"] f fd
  F_gone_on : ∃ f fd, DefF K mg "gone_on" s_gone_on ["doors", "later"] f fd
  F_l_cell_at : ∃ f fd, DefF K mg "_law_cell_at" s_l_cell_at ["_law_script", "_law_k"] f fd
  F_l_draw : ∃ f fd, DefF K mg "_law_draw" s_l_draw ["_law_cell", "_law_k"] f fd
  F_l_sign : ∃ f fd, DefF K mg "_law_sign" s_l_sign ["_law_test_here"] f fd
  F_l_holds : ∃ f fd, DefF K mg "_law_holds" s_l_holds ["_law_test_here", "_law_s"] f fd
  F_l_test : ∃ f fd, DefF K mg "_law_test" s_l_test ["_law_cell"] f fd
  F_l_grown : ∃ f fd, DefF K mg "_law_grown" s_l_grown ["_law_prog_here", "_law_cell"] f fd
  F_l_prog : ∃ f fd, DefF K mg "_law_prog" s_l_prog ["_law_cell", "_law_cells"] f fd
  F_l_built : ∃ f fd, DefF K mg "_law_built" s_l_built ["_law_prog_here"] f fd
  F_l_first : ∃ f fd, DefF K mg "_law_first" s_l_first ["_law_prog_here", "_law_s"] f fd
  F_l_led : ∃ f fd, DefF K mg "_law_led" s_l_led ["_law_offsets", "_law_deed", "_law_state"] f fd
  F_l_run : ∃ f fd, DefF K mg "_law_run" s_l_run ["_law_prog_here", "_law_offsets", "_law_state", "_law_most"] f fd
  F_l_alike : ∃ f fd, DefF K mg "_law_alike" s_l_alike ["_law_found", "_law_due"] f fd
  F_law : ∃ f fd c P, DefF K mg "law" s_law ["_law_script"] f fd ∧ FunT K fd c P ts
  F_Skip_first : ∃ f fd, Fun K "first" "Skip.first" s_Skip_first f fd ∧ Binds K fd ["self", "setting"] [] ∧ Meth K ((pg cA).cA 1) "first" f
  F_Stop_first : ∃ f fd, Fun K "first" "Stop.first" s_Stop_first f fd ∧ Binds K fd ["self", "setting"] [] ∧ Meth K ((pg cA).cA 2) "first" f
  F_Deed_first : ∃ f fd, Fun K "first" "Deed.first" s_Deed_first f fd ∧ Binds K fd ["self", "setting"] [] ∧ Meth K ((pg cA).cA 3) "first" f
  F_Row_first : ∃ f fd, Fun K "first" "Row.first" s_Row_first f fd ∧ Binds K fd ["self", "setting"] [] ∧ Meth K ((pg cA).cA 4) "first" f
  F_Choice_first : ∃ f fd, Fun K "first" "Choice.first" s_Choice_first f fd ∧ Binds K fd ["self", "setting"] [] ∧ Meth K ((pg cA).cA 5) "first" f
  F_Loop_first : ∃ f fd, Fun K "first" "Loop.first" s_Loop_first f fd ∧ Binds K fd ["self", "setting"] [] ∧ Meth K ((pg cA).cA 6) "first" f
  F_Yes_holds : ∃ f fd, Fun K "holds" "Yes.holds" s_Yes_holds f fd ∧ Binds K fd ["self", "setting"] [] ∧ Meth K ((pg cA).cA 8) "holds" f
  F_Named_holds : ∃ f fd, Fun K "holds" "Named.holds" s_Named_holds f fd ∧ Binds K fd ["self", "setting"] [] ∧ Meth K ((pg cA).cA 9) "holds" f
  F_Not_holds : ∃ f fd, Fun K "holds" "Not.holds" s_Not_holds f fd ∧ Binds K fd ["self", "setting"] [] ∧ Meth K ((pg cA).cA 10) "holds" f
  F_Both_holds : ∃ f fd, Fun K "holds" "Both.holds" s_Both_holds f fd ∧ Binds K fd ["self", "setting"] [] ∧ Meth K ((pg cA).cA 11) "holds" f
  F_Either_holds : ∃ f fd, Fun K "holds" "Either.holds" s_Either_holds f fd ∧ Binds K fd ["self", "setting"] [] ∧ Meth K ((pg cA).cA 12) "holds" f
  F_Rooms_run : ∃ f fd c P, FunT K fd c P ts ∧ Fun K "run" "Rooms.run" s_Rooms_run f fd ∧ Binds K fd ["self", "world", "state", "most"] [] ∧ Meth K ((pg cA).cA 13) "run" f
  F_World_setting : ∃ f fd, Fun K "setting" "World.setting" s_World_setting f fd ∧ Binds K fd ["self", "state"] [] ∧ Meth K ((pg cA).cA 14) "setting" f
  F_World_led : ∃ f fd, Fun K "led" "World.led" s_World_led f fd ∧ Binds K fd ["self", "deed", "state"] [] ∧ Meth K ((pg cA).cA 14) "led" f
  F_Rooms_init : ∃ f fd, Fun K "__init__" "Rooms.__init__" s_Rooms_init f fd ∧ Binds K fd ["self", "step"] [] ∧ Mk K ((pg cA).cA 13) f
theorem all_fn {P : Program} {w : World} {K : PySem.W.Frag} {mg : Str → Option Value} {base : Bs} {cA : Nat → Addr} {ts : List Addr} (C : Ct P w K mg base cA ts) (F : Fs K mg cA ts) : ∀ n, AllF P w K mg base cA n
  | 0 => by
    obtain ⟨f_run_from, fd_run_from, c_run_from, p_run_from, E_run_from, T_run_from⟩ := F.F_run_from
    obtain ⟨f_run_along, fd_run_along, E_run_along⟩ := F.F_run_along
    obtain ⟨f_doors_of, fd_doors_of, E_doors_of⟩ := F.F_doors_of
    obtain ⟨f_ended, fd_ended, E_ended⟩ := F.F_ended
    obtain ⟨f_row_doors, fd_row_doors, E_row_doors⟩ := F.F_row_doors
    obtain ⟨f_choice_doors, fd_choice_doors, E_choice_doors⟩ := F.F_choice_doors
    obtain ⟨f_loop_doors, fd_loop_doors, E_loop_doors⟩ := F.F_loop_doors
    obtain ⟨f_loop_door, fd_loop_door, E_loop_door⟩ := F.F_loop_door
    obtain ⟨f_gone_on, fd_gone_on, E_gone_on⟩ := F.F_gone_on
    obtain ⟨f_l_cell_at, fd_l_cell_at, E_l_cell_at⟩ := F.F_l_cell_at
    obtain ⟨f_l_draw, fd_l_draw, E_l_draw⟩ := F.F_l_draw
    obtain ⟨f_l_sign, fd_l_sign, E_l_sign⟩ := F.F_l_sign
    obtain ⟨f_l_holds, fd_l_holds, E_l_holds⟩ := F.F_l_holds
    obtain ⟨f_l_test, fd_l_test, E_l_test⟩ := F.F_l_test
    obtain ⟨f_l_grown, fd_l_grown, E_l_grown⟩ := F.F_l_grown
    obtain ⟨f_l_prog, fd_l_prog, E_l_prog⟩ := F.F_l_prog
    obtain ⟨f_l_built, fd_l_built, E_l_built⟩ := F.F_l_built
    obtain ⟨f_l_first, fd_l_first, E_l_first⟩ := F.F_l_first
    obtain ⟨f_l_led, fd_l_led, E_l_led⟩ := F.F_l_led
    obtain ⟨f_l_run, fd_l_run, E_l_run⟩ := F.F_l_run
    obtain ⟨f_l_alike, fd_l_alike, E_l_alike⟩ := F.F_l_alike
    obtain ⟨f_law, fd_law, c_law, p_law, E_law, T_law⟩ := F.F_law
    obtain ⟨f_Skip_first, fd_Skip_first, F_Skip_first, B_Skip_first, M_Skip_first_1⟩ := F.F_Skip_first
    obtain ⟨f_Stop_first, fd_Stop_first, F_Stop_first, B_Stop_first, M_Stop_first_2⟩ := F.F_Stop_first
    obtain ⟨f_Deed_first, fd_Deed_first, F_Deed_first, B_Deed_first, M_Deed_first_3⟩ := F.F_Deed_first
    obtain ⟨f_Row_first, fd_Row_first, F_Row_first, B_Row_first, M_Row_first_4⟩ := F.F_Row_first
    obtain ⟨f_Choice_first, fd_Choice_first, F_Choice_first, B_Choice_first, M_Choice_first_5⟩ := F.F_Choice_first
    obtain ⟨f_Loop_first, fd_Loop_first, F_Loop_first, B_Loop_first, M_Loop_first_6⟩ := F.F_Loop_first
    obtain ⟨f_Yes_holds, fd_Yes_holds, F_Yes_holds, B_Yes_holds, M_Yes_holds_8⟩ := F.F_Yes_holds
    obtain ⟨f_Named_holds, fd_Named_holds, F_Named_holds, B_Named_holds, M_Named_holds_9⟩ := F.F_Named_holds
    obtain ⟨f_Not_holds, fd_Not_holds, F_Not_holds, B_Not_holds, M_Not_holds_10⟩ := F.F_Not_holds
    obtain ⟨f_Both_holds, fd_Both_holds, F_Both_holds, B_Both_holds, M_Both_holds_11⟩ := F.F_Both_holds
    obtain ⟨f_Either_holds, fd_Either_holds, F_Either_holds, B_Either_holds, M_Either_holds_12⟩ := F.F_Either_holds
    obtain ⟨f_Rooms_run, fd_Rooms_run, c_Rooms_run, p_Rooms_run, T_Rooms_run, F_Rooms_run, B_Rooms_run, M_Rooms_run_13⟩ := F.F_Rooms_run
    obtain ⟨f_World_setting, fd_World_setting, F_World_setting, B_World_setting, M_World_setting_14⟩ := F.F_World_setting
    obtain ⟨f_World_led, fd_World_led, F_World_led, B_World_led, M_World_led_14⟩ := F.F_World_led
    obtain ⟨f_Rooms_init, fd_Rooms_init, F_Rooms_init, B_Rooms_init, M_Rooms_init⟩ := F.F_Rooms_init
    exact {
      cl := (ca_cons (clo_none fun _ => rfl) (ca_cons (clo_none fun _ => rfl) (ca_cons (clo_none fun _ => rfl) (ca_cons (clo_none fun _ => rfl) ca_nil))))
      h_run_from := E_run_from.at (spG_none fun _ => rfl)
      h_run_along := E_run_along.at (spG_none fun _ => rfl)
      h_doors_of := E_doors_of.at (spG_none fun _ => rfl)
      h_ended := E_ended.at (spG_none fun _ => rfl)
      h_row_doors := E_row_doors.at (spG_none fun _ => rfl)
      h_choice_doors := E_choice_doors.at (spG_none fun _ => rfl)
      h_loop_doors := E_loop_doors.at (spG_none fun _ => rfl)
      h_loop_door := E_loop_door.at (spG_none fun _ => rfl)
      h_gone_on := E_gone_on.at (spG_none fun _ => rfl)
      h__law_cell_at := E_l_cell_at.at (spG_none fun _ => rfl)
      h__law_draw := E_l_draw.at (spG_none fun _ => rfl)
      h__law_sign := E_l_sign.at (spG_none fun _ => rfl)
      h__law_holds := E_l_holds.at (spG_none fun _ => rfl)
      h__law_test := E_l_test.at (spG_none fun _ => rfl)
      h__law_grown := E_l_grown.at (spG_none fun _ => rfl)
      h__law_prog := E_l_prog.at (spG_none fun _ => rfl)
      h__law_built := E_l_built.at (spG_none fun _ => rfl)
      h__law_first := E_l_first.at (spG_none fun _ => rfl)
      h__law_led := E_l_led.at (spG_none fun _ => rfl)
      h__law_run := E_l_run.at (spG_none fun _ => rfl)
      h__law_alike := E_l_alike.at (spG_none fun _ => rfl)
      h_law := E_law.at (spG_none fun _ => rfl)
      n_Rooms := ⟨C.c_Rooms, C.l_Rooms.cls, _, _, _, M_Rooms_init, (spIn_none fun _ => rfl), B_Rooms_init⟩
      m_first := (mt_cons ⟨C.l_Skip.cls, _, _, _, M_Skip_first_1, (spG_none fun _ => rfl), B_Skip_first⟩ (show ("first" : Str) ∉ fN 1 by decide +kernel) (mt_cons ⟨C.l_Stop.cls, _, _, _, M_Stop_first_2, (spG_none fun _ => rfl), B_Stop_first⟩ (show ("first" : Str) ∉ fN 2 by decide +kernel) (mt_cons ⟨C.l_Deed.cls, _, _, _, M_Deed_first_3, (spG_none fun _ => rfl), B_Deed_first⟩ (show ("first" : Str) ∉ fN 3 by decide +kernel) (mt_cons ⟨C.l_Row.cls, _, _, _, M_Row_first_4, (spG_none fun _ => rfl), B_Row_first⟩ (show ("first" : Str) ∉ fN 4 by decide +kernel) (mt_cons ⟨C.l_Choice.cls, _, _, _, M_Choice_first_5, (spG_none fun _ => rfl), B_Choice_first⟩ (show ("first" : Str) ∉ fN 5 by decide +kernel) (mt_cons ⟨C.l_Loop.cls, _, _, _, M_Loop_first_6, (spG_none fun _ => rfl), B_Loop_first⟩ (show ("first" : Str) ∉ fN 6 by decide +kernel) mt_nil))))))
      m_holds := (mt_cons ⟨C.l_Yes.cls, _, _, _, M_Yes_holds_8, (spG_none fun _ => rfl), B_Yes_holds⟩ (show ("holds" : Str) ∉ fN 8 by decide +kernel) (mt_cons ⟨C.l_Named.cls, _, _, _, M_Named_holds_9, (spG_none fun _ => rfl), B_Named_holds⟩ (show ("holds" : Str) ∉ fN 9 by decide +kernel) (mt_cons ⟨C.l_Not.cls, _, _, _, M_Not_holds_10, (spG_none fun _ => rfl), B_Not_holds⟩ (show ("holds" : Str) ∉ fN 10 by decide +kernel) (mt_cons ⟨C.l_Both.cls, _, _, _, M_Both_holds_11, (spG_none fun _ => rfl), B_Both_holds⟩ (show ("holds" : Str) ∉ fN 11 by decide +kernel) (mt_cons ⟨C.l_Either.cls, _, _, _, M_Either_holds_12, (spG_none fun _ => rfl), B_Either_holds⟩ (show ("holds" : Str) ∉ fN 12 by decide +kernel) mt_nil)))))
      m_led := (mt_cons ⟨C.l_World.cls, _, _, _, M_World_led_14, (spG_none fun _ => rfl), B_World_led⟩ (show ("led" : Str) ∉ fN 14 by decide +kernel) mt_nil)
      m_run := (mt_cons ⟨C.l_Rooms.cls, _, _, _, M_Rooms_run_13, (spG_none fun _ => rfl), B_Rooms_run⟩ (show ("run" : Str) ∉ fN 13 by decide +kernel) mt_nil)
      m_setting := (mt_cons ⟨C.l_World.cls, _, _, _, M_World_setting_14, (spG_none fun _ => rfl), B_World_setting⟩ (show ("setting" : Str) ∉ fN 14 by decide +kernel) mt_nil)
    }
  | n + 1 => by
    show AllF P w K mg base cA (n + 1)
    have I := all_fn C F n
    obtain ⟨f_run_from, fd_run_from, c_run_from, p_run_from, E_run_from, T_run_from⟩ := F.F_run_from
    obtain ⟨f_run_along, fd_run_along, E_run_along⟩ := F.F_run_along
    obtain ⟨f_doors_of, fd_doors_of, E_doors_of⟩ := F.F_doors_of
    obtain ⟨f_ended, fd_ended, E_ended⟩ := F.F_ended
    obtain ⟨f_row_doors, fd_row_doors, E_row_doors⟩ := F.F_row_doors
    obtain ⟨f_choice_doors, fd_choice_doors, E_choice_doors⟩ := F.F_choice_doors
    obtain ⟨f_loop_doors, fd_loop_doors, E_loop_doors⟩ := F.F_loop_doors
    obtain ⟨f_loop_door, fd_loop_door, E_loop_door⟩ := F.F_loop_door
    obtain ⟨f_gone_on, fd_gone_on, E_gone_on⟩ := F.F_gone_on
    obtain ⟨f_l_cell_at, fd_l_cell_at, E_l_cell_at⟩ := F.F_l_cell_at
    obtain ⟨f_l_draw, fd_l_draw, E_l_draw⟩ := F.F_l_draw
    obtain ⟨f_l_sign, fd_l_sign, E_l_sign⟩ := F.F_l_sign
    obtain ⟨f_l_holds, fd_l_holds, E_l_holds⟩ := F.F_l_holds
    obtain ⟨f_l_test, fd_l_test, E_l_test⟩ := F.F_l_test
    obtain ⟨f_l_grown, fd_l_grown, E_l_grown⟩ := F.F_l_grown
    obtain ⟨f_l_prog, fd_l_prog, E_l_prog⟩ := F.F_l_prog
    obtain ⟨f_l_built, fd_l_built, E_l_built⟩ := F.F_l_built
    obtain ⟨f_l_first, fd_l_first, E_l_first⟩ := F.F_l_first
    obtain ⟨f_l_led, fd_l_led, E_l_led⟩ := F.F_l_led
    obtain ⟨f_l_run, fd_l_run, E_l_run⟩ := F.F_l_run
    obtain ⟨f_l_alike, fd_l_alike, E_l_alike⟩ := F.F_l_alike
    obtain ⟨f_law, fd_law, c_law, p_law, E_law, T_law⟩ := F.F_law
    obtain ⟨f_Skip_first, fd_Skip_first, F_Skip_first, B_Skip_first, M_Skip_first_1⟩ := F.F_Skip_first
    obtain ⟨f_Stop_first, fd_Stop_first, F_Stop_first, B_Stop_first, M_Stop_first_2⟩ := F.F_Stop_first
    obtain ⟨f_Deed_first, fd_Deed_first, F_Deed_first, B_Deed_first, M_Deed_first_3⟩ := F.F_Deed_first
    obtain ⟨f_Row_first, fd_Row_first, F_Row_first, B_Row_first, M_Row_first_4⟩ := F.F_Row_first
    obtain ⟨f_Choice_first, fd_Choice_first, F_Choice_first, B_Choice_first, M_Choice_first_5⟩ := F.F_Choice_first
    obtain ⟨f_Loop_first, fd_Loop_first, F_Loop_first, B_Loop_first, M_Loop_first_6⟩ := F.F_Loop_first
    obtain ⟨f_Yes_holds, fd_Yes_holds, F_Yes_holds, B_Yes_holds, M_Yes_holds_8⟩ := F.F_Yes_holds
    obtain ⟨f_Named_holds, fd_Named_holds, F_Named_holds, B_Named_holds, M_Named_holds_9⟩ := F.F_Named_holds
    obtain ⟨f_Not_holds, fd_Not_holds, F_Not_holds, B_Not_holds, M_Not_holds_10⟩ := F.F_Not_holds
    obtain ⟨f_Both_holds, fd_Both_holds, F_Both_holds, B_Both_holds, M_Both_holds_11⟩ := F.F_Both_holds
    obtain ⟨f_Either_holds, fd_Either_holds, F_Either_holds, B_Either_holds, M_Either_holds_12⟩ := F.F_Either_holds
    obtain ⟨f_Rooms_run, fd_Rooms_run, c_Rooms_run, p_Rooms_run, T_Rooms_run, F_Rooms_run, B_Rooms_run, M_Rooms_run_13⟩ := F.F_Rooms_run
    obtain ⟨f_World_setting, fd_World_setting, F_World_setting, B_World_setting, M_World_setting_14⟩ := F.F_World_setting
    obtain ⟨f_World_led, fd_World_led, F_World_led, B_World_led, M_World_led_14⟩ := F.F_World_led
    obtain ⟨f_Rooms_init, fd_Rooms_init, F_Rooms_init, B_Rooms_init, M_Rooms_init⟩ := F.F_Rooms_init
    exact {
      cl := (ca_cons (clo_okE (n := n_run_from_n1) rfl sc_run_from_n1 rfl (fun _ _ _ _ _ _ _ us hl => match us, hl with | [_, _], _ => rfl) fun _ _ _ _ _ _ _ _ _ hr => b_run_from_n1 C I hr) (ca_cons (clo_okE (n := n_law_n1) rfl sc_law_n1 rfl (fun _ _ _ _ _ _ _ us hl => match us, hl with | [_], _ => rfl) fun _ _ _ _ _ _ _ _ _ hr => b_law_n1 C I hr) (ca_cons (clo_okE (n := n_law_n2) rfl sc_law_n2 rfl (fun _ _ _ _ _ _ _ us hl => match us, hl with | [_, _], _ => rfl) fun _ _ _ _ _ _ _ _ _ hr => b_law_n2 C I hr) (ca_cons (clo_okE (n := n_Rooms_run_n1) rfl sc_Rooms_run_n1 rfl (fun _ _ _ _ _ _ _ us hl => match us, hl with | [_, _], _ => rfl) fun _ _ _ _ _ _ _ _ _ hr => b_Rooms_run_n1 C I hr) ca_nil))))
      h_run_from := E_run_from.at ((fn_okT E_run_from.F (by rw [C.tb]; exact T_run_from) sc_run_from rfl fun _ _ _ _ _ hr mk => b_run_from C I hr mk))
      h_run_along := E_run_along.at ((fn_ok E_run_along.F sc_run_along rfl fun _ _ _ _ _ _ hr => b_run_along C I hr))
      h_doors_of := E_doors_of.at ((fn_ok E_doors_of.F sc_doors_of rfl fun _ _ _ _ _ _ hr => b_doors_of C I hr))
      h_ended := E_ended.at ((fn_ok E_ended.F sc_ended rfl fun _ _ _ _ _ _ hr => b_ended C I hr))
      h_row_doors := E_row_doors.at ((fn_ok E_row_doors.F sc_row_doors rfl fun _ _ _ _ _ _ hr => b_row_doors C I hr))
      h_choice_doors := E_choice_doors.at ((fn_ok E_choice_doors.F sc_choice_doors rfl fun _ _ _ _ _ _ hr => b_choice_doors C I hr))
      h_loop_doors := E_loop_doors.at ((fn_ok E_loop_doors.F sc_loop_doors rfl fun _ _ _ _ _ _ hr => b_loop_doors C I hr))
      h_loop_door := E_loop_door.at ((fn_ok E_loop_door.F sc_loop_door rfl fun _ _ _ _ _ _ hr => b_loop_door C I hr))
      h_gone_on := E_gone_on.at ((fn_ok E_gone_on.F sc_gone_on rfl fun _ _ _ _ _ _ hr => b_gone_on C I hr))
      h__law_cell_at := E_l_cell_at.at ((fn_ok E_l_cell_at.F sc_l_cell_at rfl fun _ _ _ _ _ _ hr => b_l_cell_at C I hr))
      h__law_draw := E_l_draw.at ((fn_ok E_l_draw.F sc_l_draw rfl fun _ _ _ _ _ _ hr => b_l_draw C I hr))
      h__law_sign := E_l_sign.at ((fn_ok E_l_sign.F sc_l_sign rfl fun _ _ _ _ _ _ hr => b_l_sign C I hr))
      h__law_holds := E_l_holds.at ((fn_ok E_l_holds.F sc_l_holds rfl fun _ _ _ _ _ _ hr => b_l_holds C I hr))
      h__law_test := E_l_test.at ((fn_ok E_l_test.F sc_l_test rfl fun _ _ _ _ _ _ hr => b_l_test C I hr))
      h__law_grown := E_l_grown.at ((fn_ok E_l_grown.F sc_l_grown rfl fun _ _ _ _ _ _ hr => b_l_grown C I hr))
      h__law_prog := E_l_prog.at ((fn_ok E_l_prog.F sc_l_prog rfl fun _ _ _ _ _ _ hr => b_l_prog C I hr))
      h__law_built := E_l_built.at ((fn_ok E_l_built.F sc_l_built rfl fun _ _ _ _ _ _ hr => b_l_built C I hr))
      h__law_first := E_l_first.at ((fn_ok E_l_first.F sc_l_first rfl fun _ _ _ _ _ _ hr => b_l_first C I hr))
      h__law_led := E_l_led.at ((fn_ok E_l_led.F sc_l_led rfl fun _ _ _ _ _ _ hr => b_l_led C I hr))
      h__law_run := E_l_run.at ((fn_ok E_l_run.F sc_l_run rfl fun _ _ _ _ _ _ hr => b_l_run C I hr))
      h__law_alike := E_l_alike.at ((fn_ok E_l_alike.F sc_l_alike rfl fun _ _ _ _ _ _ hr => b_l_alike C I hr))
      h_law := E_law.at ((fn_okT E_law.F (by rw [C.tb]; exact T_law) sc_law rfl fun _ _ _ _ _ hr mk => b_law C I hr mk))
      n_Rooms := ⟨C.c_Rooms, C.l_Rooms.cls, _, _, _, M_Rooms_init, (fn_okI F_Rooms_init sc_Rooms_init rfl (by decide) rfl fun _ _ _ _ _ _ hr => b_Rooms_init C I hr), B_Rooms_init⟩
      m_first := (mt_cons ⟨C.l_Skip.cls, _, _, _, M_Skip_first_1, ((fn_ok F_Skip_first sc_Skip_first rfl fun _ _ _ _ _ _ hr => b_Skip_first C I hr)), B_Skip_first⟩ (show ("first" : Str) ∉ fN 1 by decide +kernel) (mt_cons ⟨C.l_Stop.cls, _, _, _, M_Stop_first_2, ((fn_ok F_Stop_first sc_Stop_first rfl fun _ _ _ _ _ _ hr => b_Stop_first C I hr)), B_Stop_first⟩ (show ("first" : Str) ∉ fN 2 by decide +kernel) (mt_cons ⟨C.l_Deed.cls, _, _, _, M_Deed_first_3, ((fn_ok F_Deed_first sc_Deed_first rfl fun _ _ _ _ _ _ hr => b_Deed_first C I hr)), B_Deed_first⟩ (show ("first" : Str) ∉ fN 3 by decide +kernel) (mt_cons ⟨C.l_Row.cls, _, _, _, M_Row_first_4, ((fn_ok F_Row_first sc_Row_first rfl fun _ _ _ _ _ _ hr => b_Row_first C I hr)), B_Row_first⟩ (show ("first" : Str) ∉ fN 4 by decide +kernel) (mt_cons ⟨C.l_Choice.cls, _, _, _, M_Choice_first_5, ((fn_ok F_Choice_first sc_Choice_first rfl fun _ _ _ _ _ _ hr => b_Choice_first C I hr)), B_Choice_first⟩ (show ("first" : Str) ∉ fN 5 by decide +kernel) (mt_cons ⟨C.l_Loop.cls, _, _, _, M_Loop_first_6, ((fn_ok F_Loop_first sc_Loop_first rfl fun _ _ _ _ _ _ hr => b_Loop_first C I hr)), B_Loop_first⟩ (show ("first" : Str) ∉ fN 6 by decide +kernel) mt_nil))))))
      m_holds := (mt_cons ⟨C.l_Yes.cls, _, _, _, M_Yes_holds_8, ((fn_ok F_Yes_holds sc_Yes_holds rfl fun _ _ _ _ _ _ hr => b_Yes_holds C I hr)), B_Yes_holds⟩ (show ("holds" : Str) ∉ fN 8 by decide +kernel) (mt_cons ⟨C.l_Named.cls, _, _, _, M_Named_holds_9, ((fn_ok F_Named_holds sc_Named_holds rfl fun _ _ _ _ _ _ hr => b_Named_holds C I hr)), B_Named_holds⟩ (show ("holds" : Str) ∉ fN 9 by decide +kernel) (mt_cons ⟨C.l_Not.cls, _, _, _, M_Not_holds_10, ((fn_ok F_Not_holds sc_Not_holds rfl fun _ _ _ _ _ _ hr => b_Not_holds C I hr)), B_Not_holds⟩ (show ("holds" : Str) ∉ fN 10 by decide +kernel) (mt_cons ⟨C.l_Both.cls, _, _, _, M_Both_holds_11, ((fn_ok F_Both_holds sc_Both_holds rfl fun _ _ _ _ _ _ hr => b_Both_holds C I hr)), B_Both_holds⟩ (show ("holds" : Str) ∉ fN 11 by decide +kernel) (mt_cons ⟨C.l_Either.cls, _, _, _, M_Either_holds_12, ((fn_ok F_Either_holds sc_Either_holds rfl fun _ _ _ _ _ _ hr => b_Either_holds C I hr)), B_Either_holds⟩ (show ("holds" : Str) ∉ fN 12 by decide +kernel) mt_nil)))))
      m_led := (mt_cons ⟨C.l_World.cls, _, _, _, M_World_led_14, ((fn_ok F_World_led sc_World_led rfl fun _ _ _ _ _ _ hr => b_World_led C I hr)), B_World_led⟩ (show ("led" : Str) ∉ fN 14 by decide +kernel) mt_nil)
      m_run := (mt_cons ⟨C.l_Rooms.cls, _, _, _, M_Rooms_run_13, ((fn_okT F_Rooms_run (by rw [C.tb]; exact T_Rooms_run) sc_Rooms_run rfl fun _ _ _ _ _ hr mk => b_Rooms_run C I hr mk)), B_Rooms_run⟩ (show ("run" : Str) ∉ fN 13 by decide +kernel) mt_nil)
      m_setting := (mt_cons ⟨C.l_World.cls, _, _, _, M_World_setting_14, ((fn_ok F_World_setting sc_World_setting rfl fun _ _ _ _ _ _ hr => b_World_setting C I hr)), B_World_setting⟩ (show ("setting" : Str) ∉ fN 14 by decide +kernel) mt_nil)
    }
end M32
end
section
set_option Elab.async false
set_option linter.all false
set_option maxRecDepth 100000
set_option maxHeartbeats 4000000
namespace M32
open PySem L2 DN
/-! ### tests -/
inductive Tr where
  | yes | named (c : Str) | neg (t : Tr) | both (l r : Tr) | either (l r : Tr)
def Tr.pv : Tr → PV
  | .yes => .obj 8 [] | .named c => .obj 9 [.str c] | .neg t => .obj 10 [t.pv] | .both l r => .obj 11 [l.pv, r.pv] | .either l r => .obj 12 [l.pv, r.pv]
def Tr.depth : Tr → Nat
  | .yes => 0 | .named _ => 0 | .neg t => t.depth + 1 | .both l r => max l.depth r.depth + 1 | .either l r => max l.depth r.depth + 1
def Tr.size : Tr → Nat
  | .yes => 1 | .named _ => 1 | .neg t => t.size + 1 | .both l r => l.size + r.size + 1 | .either l r => l.size + r.size + 1
def Letter (c : Str) : Prop := c = "a" ∨ c = "b" ∨ c = "c" ∨ c = "d"
def Tr.ok : Tr → Prop
  | .yes => True | .named c => Letter c | .neg t => t.ok | .both l r => l.ok ∧ r.ok | .either l r => l.ok ∧ r.ok
def ixL (c : Str) : Nat := if c = "a" then 0 else if c = "b" then 1 else if c = "c" then 2 else 3
def Tr.at : Tr → Int → Bool
  | .yes, _ => true
  | .named c, s => Builtin.bitAnd (s / 2 ^ ((ixL c : Nat) : Int).toNat) 1 == 1
  | .neg t, s => !t.at s
  | .both l r, s => l.at s && r.at s
  | .either l r, s => l.at s || r.at s
theorem holds_ok : ∀ (t : Tr) (n : Nat) (s : Int), t.ok → t.depth < n → callM q_holds (gF n) t.pv [.int s] = .ok (.bl (t.at s))
  | .yes, n + 1, s, _, _ => rfl
  | .named c, n + 1, s, h, _ => by
    rcases h with rfl | rfl | rfl | rfl <;> rfl
  | .neg t, n + 1, s, h, hd => by
    have ih := holds_ok t n s h (Nat.lt_of_succ_lt_succ hd)
    have e : callM q_holds (gF (n + 1)) (Tr.neg t).pv [.int s] = fin ((((callM q_holds (gF n) t.pv [.int s]).bind fun x => match x with | .bl k => Rx.ok (PV.bl (!k)) | _ => .bad)).st fun w => .ret w) := rfl
    rw [e, ih]; rfl
  | .both l r, n + 1, s, h, hd => by
    have hd' : max l.depth r.depth + 1 < n + 1 := hd
    have i1 := holds_ok l n s h.1 (by omega)
    have i2 := holds_ok r n s h.2 (by omega)
    have e : callM q_holds (gF (n + 1)) (Tr.both l r).pv [.int s] = fin ((((callM q_holds (gF n) l.pv [.int s]).bind fun x => match x with | .bl true => callM q_holds (gF n) r.pv [.int s] | .bl false => .ok (.bl false) | _ => .bad)).st fun w => .ret w) := rfl
    rw [e, i1, i2]
    show _ = Rx.ok (PV.bl (l.at s && r.at s))
    cases l.at s <;> rfl
  | .either l r, n + 1, s, h, hd => by
    have hd' : max l.depth r.depth + 1 < n + 1 := hd
    have i1 := holds_ok l n s h.1 (by omega)
    have i2 := holds_ok r n s h.2 (by omega)
    have e : callM q_holds (gF (n + 1)) (Tr.either l r).pv [.int s] = fin ((((callM q_holds (gF n) l.pv [.int s]).bind fun x => match x with | .bl true => .ok (.bl true) | .bl false => callM q_holds (gF n) r.pv [.int s] | _ => .bad)).st fun w => .ret w) := rfl
    rw [e, i1, i2]
    show _ = Rx.ok (PV.bl (l.at s || r.at s))
    cases l.at s <;> rfl
/-! ### programs -/
inductive St where
  | skip | stop | deed (c : Str) | row (h t : St) | choice (g : Tr) (y n : St) | loop (g : Tr) (b : St)
def St.pv : St → PV
  | .skip => .obj 1 [] | .stop => .obj 2 [] | .deed c => .obj 3 [.str c] | .row h t => .obj 4 [h.pv, t.pv] | .choice g y n => .obj 5 [g.pv, y.pv, n.pv] | .loop g b => .obj 6 [g.pv, b.pv]
def St.depth : St → Nat
  | .skip => 0 | .stop => 0 | .deed _ => 0 | .row h t => max h.depth t.depth + 1 | .choice g y n => max g.depth (max y.depth n.depth) + 1 | .loop g b => max g.depth b.depth + 1
def St.size : St → Nat
  | .skip => 1 | .stop => 1 | .deed _ => 1 | .row h t => h.size + t.size + 1 | .choice g y n => g.size + y.size + n.size + 1 | .loop g b => g.size + b.size + 1
def DeedL (c : Str) : Prop := c = "P" ∨ c = "Q" ∨ c = "R" ∨ c = "S" ∨ c = "T"
def St.ok : St → Prop
  | .skip => True | .stop => True | .deed c => DeedL c | .row h t => h.ok ∧ t.ok | .choice g y n => g.ok ∧ y.ok ∧ n.ok | .loop g b => g.ok ∧ b.ok
def St.first : St → Int → Str × Option St
  | .skip, _ => ("done", none)
  | .stop, _ => ("stopped", none)
  | .deed c, _ => (c, some .skip)
  | .row h t, s => if (h.first s).1 = "done" then t.first s else ((h.first s).1, (h.first s).2.map fun l => .row l t)
  | .choice g y n, s => if g.at s = true then y.first s else n.first s
  | .loop g b, s => if g.at s = true then (if (b.first s).1 = "done" then ("hung", none) else ((b.first s).1, (b.first s).2.map fun l => .row l (.loop g b))) else ("done", none)
def opt : Option St → PV
  | none => .non
  | some t => t.pv
/-- what comes first is an end with nothing left, or a deed with something left -/
def FirstOk (r : Str × Option St) : Prop := ((r.1 = "done" ∨ r.1 = "stopped" ∨ r.1 = "hung") ∧ r.2 = none) ∨ (DeedL r.1 ∧ ∃ l, r.2 = some l)
theorem first_kind : ∀ (t : St) (s : Int), t.ok → FirstOk (t.first s)
  | .skip, s, _ => .inl ⟨.inl rfl, rfl⟩
  | .stop, s, _ => .inl ⟨.inr (.inl rfl), rfl⟩
  | .deed c, s, h => .inr ⟨h, _, rfl⟩
  | .row h t, s, ho => by
    have i1 := first_kind h s ho.1
    have i2 := first_kind t s ho.2
    unfold St.first
    split
    · exact i2
    · rename_i hd
      rcases i1 with ⟨e, n⟩ | ⟨e, l, n⟩
      · exact .inl ⟨e, by rw [n]; rfl⟩
      · exact .inr ⟨e, _, by rw [n]; rfl⟩
  | .choice g y n, s, ho => by
    unfold St.first
    split
    · exact first_kind y s ho.2.1
    · exact first_kind n s ho.2.2
  | .loop g b, s, ho => by
    have i1 := first_kind b s ho.2
    unfold St.first
    split
    · split
      · exact .inl ⟨.inr (.inr rfl), rfl⟩
      · rcases i1 with ⟨e, n⟩ | ⟨e, l, n⟩
        · exact .inl ⟨e, by rw [n]; rfl⟩
        · exact .inr ⟨e, _, by rw [n]; rfl⟩
    · exact .inl ⟨.inl rfl, rfl⟩
theorem ix0 (a b : PV) : fIx (.tup [a, b]) (.int 0) = .ok a := rfl
theorem ix1 (a b : PV) : fIx (.tup [a, b]) (.int 1) = .ok b := rfl
theorem first_ok : ∀ (t : St) (n : Nat) (s : Int), t.ok → t.depth < n → callM q_first (gF n) t.pv [.int s] = .ok (.tup [.str (t.first s).1, opt (t.first s).2])
  | .skip, n + 1, s, _, _ => rfl
  | .stop, n + 1, s, _, _ => rfl
  | .deed c, n + 1, s, _, _ => rfl
  | .row h t, n + 1, s, ho, hd => by
    have hd' : max h.depth t.depth + 1 < n + 1 := hd
    have i1 := first_ok h n s ho.1 (by omega)
    have i2 := first_ok t n s ho.2 (by omega)
    have e : callM q_first (gF (n + 1)) (St.row h t).pv [.int s] = fin (d_Row_first (gF n) [.v (.obj 4 [h.pv, t.pv]), .v (.int s), .no]) := rfl
    have f1 : fldP a_head (.obj 4 [h.pv, t.pv]) = .ok h.pv := rfl
    have f2 : fldP a_tail (.obj 4 [h.pv, t.pv]) = .ok t.pv := rfl
    rw [e]
    unfold d_Row_first St.first
    by_cases h1 : (h.first s).1 = "done"
    · simp [f1, f2, i1, i2, ix0, ix1, -e_ixT, h1]
    · have b1 : ((h.first s).1 == "done") = false := by simpa using h1
      rcases hk : (h.first s).2 with _ | l
      · simp [f1, f2, i1, i2, ix0, ix1, -e_ixT, h1, b1, hk, isN, opt]
      · have hn : isN l.pv = false := by cases l <;> rfl
        simp [f1, f2, i1, i2, ix0, ix1, -e_ixT, h1, b1, hk, hn, opt, St.pv]
  | .choice g y n', n + 1, s, ho, hd => by
    have hd' : max g.depth (max y.depth n'.depth) + 1 < n + 1 := hd
    have ig := holds_ok g n s ho.1 (by omega)
    have i1 := first_ok y n s ho.2.1 (by omega)
    have i2 := first_ok n' n s ho.2.2 (by omega)
    have e : callM q_first (gF (n + 1)) (St.choice g y n').pv [.int s] = fin (d_Choice_first (gF n) [.v (.obj 5 [g.pv, y.pv, n'.pv]), .v (.int s)]) := rfl
    have f0 : fldP a_test (.obj 5 [g.pv, y.pv, n'.pv]) = .ok g.pv := rfl
    have f1 : fldP a_yes (.obj 5 [g.pv, y.pv, n'.pv]) = .ok y.pv := rfl
    have f2 : fldP a_no (.obj 5 [g.pv, y.pv, n'.pv]) = .ok n'.pv := rfl
    rw [e]
    unfold d_Choice_first St.first
    cases hg : g.at s <;> simp [f0, f1, f2, ig, i1, i2, hg]
  | .loop g b, n + 1, s, ho, hd => by
    have hd' : max g.depth b.depth + 1 < n + 1 := hd
    have ig := holds_ok g n s ho.1 (by omega)
    have i1 := first_ok b n s ho.2 (by omega)
    have e : callM q_first (gF (n + 1)) (St.loop g b).pv [.int s] = fin (d_Loop_first (gF n) [.v (.obj 6 [g.pv, b.pv]), .v (.int s), .no]) := rfl
    have f0 : fldP a_test (.obj 6 [g.pv, b.pv]) = .ok g.pv := rfl
    have f1 : fldP a_body (.obj 6 [g.pv, b.pv]) = .ok b.pv := rfl
    rw [e]
    unfold d_Loop_first St.first
    cases hg : g.at s
    · simp [f0, f1, ig, hg, opt]
    · by_cases h1 : (b.first s).1 = "done"
      · simp [f0, f1, ig, i1, hg, ix0, ix1, -e_ixT, h1, opt]
      · have b1 : ((b.first s).1 == "done") = false := by simpa using h1
        rcases hk : (b.first s).2 with _ | l
        · simp [f0, f1, ig, i1, hg, ix0, ix1, -e_ixT, h1, b1, hk, isN, opt]
        · have hn : isN l.pv = false := by cases l <;> rfl
          simp [f0, f1, ig, i1, hg, ix0, ix1, -e_ixT, h1, b1, hk, hn, opt, St.pv]
theorem first_okk : ∀ (t : St) (s : Int) (l : St), t.ok → (t.first s).2 = some l → l.ok
  | .skip, s, l, _, h => by cases h
  | .stop, s, l, _, h => by cases h
  | .deed c, s, l, _, h => by cases h; exact True.intro
  | .row a t, s, l, ho, h => by
    unfold St.first at h
    split at h
    · exact first_okk t s l ho.2 h
    · cases e : (a.first s).2 with
      | none => rw [e] at h; cases h
      | some k => rw [e] at h; cases h; exact ⟨first_okk a s k ho.1 e, ho.2⟩
  | .choice g y n, s, l, ho, h => by
    unfold St.first at h
    split at h
    · exact first_okk y s l ho.2.1 h
    · exact first_okk n s l ho.2.2 h
  | .loop g b, s, l, ho, h => by
    unfold St.first at h
    split at h
    · split at h
      · cases h
      · cases e : (b.first s).2 with
        | none => rw [e] at h; cases h
        | some k => rw [e] at h; cases h; exact ⟨first_okk b s k ho.2 e, ho⟩
    · cases h
/-! ### all that may ever be left -/
def St.ders : St → List St
  | .skip => [] | .stop => [] | .deed _ => [.skip]
  | .row h t => h.ders.map (fun l => .row l t) ++ t.ders
  | .choice _ y n => y.ders ++ n.ders
  | .loop g b => b.ders.map fun l => .row l (.loop g b)
theorem first_ders : ∀ (t : St) (s : Int) (l : St), (t.first s).2 = some l → l ∈ t.ders
  | .skip, s, l, h => by cases h
  | .stop, s, l, h => by cases h
  | .deed c, s, l, h => by cases h; exact List.mem_singleton.mpr rfl
  | .row a t, s, l, h => by
    unfold St.first at h
    split at h
    · exact List.mem_append_right _ (first_ders t s l h)
    · cases e : (a.first s).2 with
      | none => rw [e] at h; cases h
      | some k => rw [e] at h; cases h; exact List.mem_append_left _ (List.mem_map.mpr ⟨k, first_ders a s k e, rfl⟩)
  | .choice g y n, s, l, h => by
    unfold St.first at h
    split at h
    · exact List.mem_append_left _ (first_ders y s l h)
    · exact List.mem_append_right _ (first_ders n s l h)
  | .loop g b, s, l, h => by
    unfold St.first at h
    split at h
    · split at h
      · cases h
      · cases e : (b.first s).2 with
        | none => rw [e] at h; cases h
        | some k => rw [e] at h; cases h; exact List.mem_map.mpr ⟨k, first_ders b s k e, rfl⟩
    · cases h
theorem ders_sub : ∀ (t l m : St), l ∈ t.ders → m ∈ l.ders → m ∈ t.ders
  | .skip, l, m, h, _ => by cases h
  | .stop, l, m, h, _ => by cases h
  | .deed c, l, m, h, h' => by rw [List.mem_singleton.mp h] at h'; cases h'
  | .row a t, l, m, h, h' => by
    rcases List.mem_append.mp h with q | q
    · obtain ⟨k, hk, rfl⟩ := List.mem_map.mp q
      rcases List.mem_append.mp h' with q' | q'
      · obtain ⟨j, hj, rfl⟩ := List.mem_map.mp q'
        exact List.mem_append_left _ (List.mem_map.mpr ⟨j, ders_sub a k j hk hj, rfl⟩)
      · exact List.mem_append_right _ q'
    · exact List.mem_append_right _ (ders_sub t l m q h')
  | .choice g y n, l, m, h, h' => by
    rcases List.mem_append.mp h with q | q
    · exact List.mem_append_left _ (ders_sub y l m q h')
    · exact List.mem_append_right _ (ders_sub n l m q h')
  | .loop g b, l, m, h, h' => by
    obtain ⟨k, hk, rfl⟩ := List.mem_map.mp h
    rcases List.mem_append.mp h' with q' | q'
    · obtain ⟨j, hj, rfl⟩ := List.mem_map.mp q'
      exact List.mem_map.mpr ⟨j, ders_sub b k j hk hj, rfl⟩
    · exact q'
theorem ders_okk : ∀ (t l : St), t.ok → l ∈ t.ders → l.ok
  | .skip, l, _, h => by cases h
  | .stop, l, _, h => by cases h
  | .deed c, l, _, h => by rw [List.mem_singleton.mp h]; exact True.intro
  | .row a t, l, ho, h => by
    rcases List.mem_append.mp h with q | q
    · obtain ⟨k, hk, rfl⟩ := List.mem_map.mp q
      exact ⟨ders_okk a k ho.1 hk, ho.2⟩
    · exact ders_okk t l ho.2 q
  | .choice g y n, l, ho, h => by
    rcases List.mem_append.mp h with q | q
    · exact ders_okk y l ho.2.1 q
    · exact ders_okk n l ho.2.2 q
  | .loop g b, l, ho, h => by
    obtain ⟨k, hk, rfl⟩ := List.mem_map.mp h
    exact ⟨ders_okk b k ho.2 hk, ho⟩
theorem ders_depth : ∀ (t l : St), l ∈ t.ders → l.depth ≤ t.depth + 1
  | .skip, l, h => by cases h
  | .stop, l, h => by cases h
  | .deed c, l, h => by rw [List.mem_singleton.mp h]; exact Nat.zero_le _
  | .row a t, l, h => by
    show _ ≤ max a.depth t.depth + 1 + 1
    rcases List.mem_append.mp h with q | q
    · obtain ⟨k, hk, rfl⟩ := List.mem_map.mp q
      have := ders_depth a k hk
      show max k.depth t.depth + 1 ≤ _; omega
    · have := ders_depth t l q; omega
  | .choice g y n, l, h => by
    show _ ≤ max g.depth (max y.depth n.depth) + 1 + 1
    rcases List.mem_append.mp h with q | q
    · have := ders_depth y l q; omega
    · have := ders_depth n l q; omega
  | .loop g b, l, h => by
    obtain ⟨k, hk, rfl⟩ := List.mem_map.mp h
    have := ders_depth b k hk
    show max k.depth (max g.depth b.depth + 1) + 1 ≤ max g.depth b.depth + 1 + 1; omega
end M32
end
section
set_option Elab.async false
set_option linter.all false
set_option maxRecDepth 100000
set_option maxHeartbeats 4000000
namespace M32
open PySem L2 DN
/-! ### rooms -/
abbrev Rw := Int → Str × Int
def dpv (d : Str × Int) : PV := .tup [.str d.1, .int d.2]
def rpv (f : Rw) : PV := .lst ((List.range 16).map fun (i : Nat) => dpv (f (i : Int)))
def gone (f l : Rw) : Rw := fun s => if (f s).1 = "done" then l s else f s
def ldoor (b : Bool) (d : Str × Int) : Str × Int := if b = true then (if d.1 = "done" then ("hung", 0) else d) else ("done", 0)
/-- the first room's row, and the rows of the others -/
def Dr : St → Int → Rw × List Rw
  | .skip, _ => (fun _ => ("done", 0), [])
  | .stop, _ => (fun _ => ("stopped", 0), [])
  | .deed c, a => (fun _ => (c, a + 1), [fun _ => ("done", 0)])
  | .row h t, a => (gone (Dr h a).1 (Dr t (a + (h.ders.length : Int))).1, (Dr h a).2.map (fun f => gone f (Dr t (a + (h.ders.length : Int))).1) ++ (Dr t (a + (h.ders.length : Int))).2)
  | .choice g y n, a => (fun s => if g.at s = true then (Dr y a).1 s else (Dr n (a + (y.ders.length : Int))).1 s, (Dr y a).2 ++ (Dr n (a + (y.ders.length : Int))).2)
  | .loop g b, a => (fun s => ldoor (g.at s) ((Dr b a).1 s), (Dr b a).2.map fun f => gone f fun s => ldoor (g.at s) ((Dr b a).1 s))
theorem Dr_len : ∀ (t : St) (a : Int), (Dr t a).2.length = t.ders.length
  | .skip, _ => rfl
  | .stop, _ => rfl
  | .deed c, a => rfl
  | .row h t, a => by simp [Dr, St.ders, Dr_len h, Dr_len t]
  | .choice g y n, a => by simp [Dr, St.ders, Dr_len y, Dr_len n]
  | .loop g b, a => by simp [Dr, St.ders, Dr_len b]
theorem rix (f : Rw) {s : Int} (h0 : 0 ≤ s) (h1 : s < 16) : fIx (rpv f) (.int s) = .ok (dpv (f s)) := by
  obtain ⟨i, rfl⟩ : ∃ i : Nat, s = (i : Int) := ⟨s.toNat, by omega⟩
  have hi : i < 16 := by omega
  show (match atI ((List.range 16).map fun (i : Nat) => dpv (f (i : Int))) (i : Int) with | some w => Rx.ok w | none => .bad) = _
  rw [atI_nat (v := dpv (f (i : Int))) (by rw [List.getElem?_map, List.getElem?_range hi]; rfl)]
theorem dix (d : Str × Int) : fIx (dpv d) (.int 0) = .ok (.str d.1) := rfl
theorem rng16 (ps : PSt) : dRng1 (dCons (dC (.int 16)) dNil) ps = .ok ((List.range 16).map fun (i : Nat) => PV.int (0 + (i : Int))) := rfl
theorem len16 : ((List.range 16).map fun (i : Nat) => PV.int (0 + (i : Int))).length ≤ sizeLine := by
  rw [List.length_map, List.length_range]; decide
theorem gone_ok (n : Nat) (f l : Rw) : gF (n + 1) 8 [rpv f, rpv l] = .ok (rpv (gone f l)) := by
  rw [g_gone_on, runD_of rfl]
  show fin (d_gone_on (gF n) [.v (rpv f), .v (rpv l)]) = _
  have hc : dComp ["setting"] [("later", 1), ("doors", 0)] (dRng1 (dCons (dC (.int (16))) dNil)) (gSet 0) dYes (dIfV (dTr (d2 fEq (d2 fIx (d2 fIx (dSee 2) (dSee 0)) (dC (.int 0))) (dC (.str "done")))) (d2 fIx (dSee 1) (dSee 0)) (d2 fIx (dSee 2) (dSee 0))) [.v (rpv f), .v (rpv l)] = .ok ((List.range 16).map fun (i : Nat) => dpv (gone f l (i : Int))) := by
    unfold dComp
    rw [rng16, ok_bind, if_pos len16]
    refine comp_all (ps0 := [.v (rpv l), .v (rpv f)]) (fun (i : Nat) => PV.int (0 + (i : Int))) (fun (i : Nat) => dpv (gone f l (i : Int))) (List.range 16) .no fun i hi => ?_
    have hi := List.mem_range.mp hi
    have e1 := rix f (s := (i : Int)) (by omega) (by omega)
    have e2 := rix l (s := (i : Int)) (by omega) (by omega)
    by_cases hd : (f (i : Int)).1 = "done"
    · have hb : ((f (i : Int)).1 == "done") = true := by simpa using hd
      simp [e1, e2, dix, hb, gone, hd]
    · have hb : ((f (i : Int)).1 == "done") = false := by simpa using hd
      simp [e1, e2, dix, hb, gone, hd]
  unfold d_gone_on
  simp only [e_ret, e_ofN, hc, ok_bind, ok_st, fin_ret]
  rfl
theorem ldoor_ok (n : Nat) (b : Bool) (d : Str × Int) : gF (n + 1) 7 [.bl b, dpv d] = .ok (dpv (ldoor b d)) := by
  rw [g_loop_door, runD_of rfl]
  show fin (d_loop_door (gF n) [.v (.bl b), .v (dpv d)]) = _
  unfold d_loop_door ldoor
  cases b
  · simp [dpv]
  · by_cases hd : d.1 = "done"
    · have hb : (d.1 == "done") = true := by simpa using hd
      simp [dix, hb]
      rw [if_pos hd]
      rfl
    · have hb : (d.1 == "done") = false := by simpa using hd
      simp [dix, hb, hd]
theorem cut_tail (x : PV) (xs : List PV) : cutP (x :: xs) (some 1) none = xs := by
  have h1 : HT.sIx (x :: xs).length 0 (some 1) = 1 := by
    unfold HT.sIx
    simp
  have h2 : HT.sIx (x :: xs).length (x :: xs).length none = (x :: xs).length := rfl
  unfold cutP
  rw [h1, h2]
  simp
theorem hd_ix (x : PV) (xs : List PV) : fIx (.lst (x :: xs)) (.int 0) = .ok x := by
  have : atI (x :: xs) ((0 : Nat) : Int) = some x := atI_nat rfl
  show (match atI (x :: xs) ((0 : Nat) : Int) with | some w => Rx.ok w | none => .bad) = _
  rw [this]
def rows (d : Rw × List Rw) : PV := .lst (rpv d.1 :: d.2.map rpv)
theorem rows_len (d : Rw × List Rw) (h : d.2.length ≤ 100000) : bLen [rows d] = .ok (.int ((d.2.length : Int) + 1)) := by
  show Rx.ok (PV.int (((rpv d.1 :: d.2.map rpv).length : Nat) : Int)) = _
  rw [List.length_cons, List.length_map]
  rfl
theorem doors_ok : ∀ (t : St) (n : Nat) (a : Int), t.ok → 2 * t.depth + 2 ≤ n → t.ders.length ≤ 1000 → gF n 2 [t.pv, .int a] = .ok (rows (Dr t a))
  | .skip, n + 2, a, _, _, _ => rfl
  | .stop, n + 2, a, _, _, _ => rfl
  | .deed c, n + 2, a, _, _, _ => rfl
  | .row h t, n + 2, a, ho, hd, hl => by
    have hd : 2 * (max h.depth t.depth + 1) + 2 ≤ n + 2 := hd
    have hl : (h.ders.map (fun l => St.row l t) ++ t.ders).length ≤ 1000 := hl
    rw [List.length_append, List.length_map] at hl
    obtain ⟨k, rfl⟩ : ∃ k, n = k + 1 := ⟨n - 1, by omega⟩
    have i1 := doors_ok h (k + 1) a ho.1 (by omega) (by omega)
    have i2 := doors_ok t (k + 1) (a + (h.ders.length : Int)) ho.2 (by omega) (by omega)
    have l1 := Dr_len h a
    have l2 := Dr_len t (a + (h.ders.length : Int))
    have lh := rows_len (Dr h a) (by omega)
    rw [l1] at lh
    generalize eh : Dr h a = dh at i1 l1 lh
    generalize et : Dr t (a + (h.ders.length : Int)) = dt at i2 l2
    have hg : ∀ ps : PSt, ps[2]? = some (.v (rows dh)) → ps[3]? = some (.v (rows dt)) → dComp ["doors"] [("tail", 3)] (dItems (dSee 2)) (gSet 0) dYes (dCall (gF (k + 1) 8) (dCons (dVar 0) (dCons (d2 fIx (dSee 1) (dC (.int 0))) dNil))) ps = .ok ((dh.1 :: dh.2).map fun f => rpv (gone f dt.1)) := fun ps p2 p3 => by
      have ei : dItems (dSee 2) ps = .ok ((dh.1 :: dh.2).map rpv) := by
        unfold dItems dSee
        rw [p2]; rfl
      have ec : capP ["doors"] [("tail", 3)] ps = [.no, .v (rows dt)] := by
        show [Sl.no, ((ps[3]?).getD Sl.no).out] = _
        rw [p3]; rfl
      unfold dComp
      rw [ei, ok_bind, if_pos (by rw [List.length_map, List.length_cons]; show dh.2.length + 1 ≤ 16777216; omega), ec]
      exact comp_all (ps0 := [.v (rows dt)]) rpv (fun f => rpv (gone f dt.1)) (dh.1 :: dh.2) .no fun f hf => by
        have e3 : fIx (rows dt) (.int 0) = .ok (rpv dt.1) := hd_ix _ _
        simp [gone_ok k f dt.1, e3]
    have er : gF (k + 2) 4 [(St.row h t).pv, .int a] = .ok (rows (Dr (.row h t) a)) := by
      rw [g_row_doors, runD_of rfl]
      show fin (d_row_doors (gF (k + 1)) [.v (.obj 4 [h.pv, t.pv]), .v (.int a), .no, .no]) = _
      have f1 : fldP a_head (.obj 4 [h.pv, t.pv]) = .ok h.pv := rfl
      have f2 : fldP a_tail (.obj 4 [h.pv, t.pv]) = .ok t.pv := rfl
      have ea : a + ((h.ders.length : Int) + 1) - 1 = a + (h.ders.length : Int) := by omega
      have hg := hg [.v (.obj 4 [h.pv, t.pv]), .v (.int a), .v (rows dh), .v (rows dt)] rfl rfl
      have ec : ∀ x xs, dCut (dSee 3) (dO1 (dC (.int 1))) dO0 [.v x, .v xs, .v (rows dh), .v (rows dt)] = .ok (dt.2.map rpv) := fun x xs => congrArg Rx.ok (cut_tail _ _)
      have hz : dh.2.length + 1 + dt.2.length ≤ sizeLine := by show _ ≤ 16777216; omega
      have hcat : dCatL (dOfN (dComp ["doors"] [("tail", 3)] (dItems (dSee 2)) (gSet 0) dYes (dCall (gF (k + 1) 8) (dCons (dVar 0) (dCons (d2 fIx (dSee 1) (dC (.int 0))) dNil))))) (dOfN (dCut (dSee 3) (dO1 (dC (.int 1))) dO0)) [.v (.obj 4 [h.pv, t.pv]), .v (.int a), .v (rows dh), .v (rows dt)] = .ok (((dh.1 :: dh.2).map fun f => rpv (gone f dt.1)) ++ dt.2.map rpv) := by
        rw [e_catL]
        unfold dOfN
        rw [hg, ec]
        simp only [ok_bind, List.length_map, List.length_cons]
        rw [if_pos hz]
      unfold d_row_doors
      simp only [e_seq, e_set, e_call, e_cons, e_fld, e_var, List.getElem?_cons_zero, List.getElem?_cons_succ, ok_bind, f1, f2, e_nil, consR_ok, i1, ok_st, List.set_cons_succ, List.set_cons_zero, next_nx, e_2, e_see, e_C, bind2_ok, lh, e_fIi, ea, i2, e_ret, e_ofN, hcat, fin_ret]
      unfold Dr rows
      simp [eh, et, List.map_map, Function.comp_def]
    have e0 : gF (k + 3) 2 [(St.row h t).pv, .int a] = gF (k + 2) 4 [(St.row h t).pv, .int a] := by
      rw [g_doors_of, runD_of rfl]
      show fin (d_doors_of (gF (k + 2)) [.v (.obj 4 [h.pv, t.pv]), .v (.int a)]) = _
      have er : gF (k + 2) 4 [.obj 4 [h.pv, t.pv], .int a] = .ok (rows (Dr (.row h t) a)) := er
      unfold d_doors_of
      have es : St.pv (.row h t) = .obj 4 [h.pv, t.pv] := rfl
      simp [er, es]
    exact e0.trans er
  | .choice g y n', n + 2, a, ho, hd, hl => by
    have hd : 2 * (max g.depth (max y.depth n'.depth) + 1) + 2 ≤ n + 2 := hd
    have hl : (y.ders ++ n'.ders).length ≤ 1000 := hl
    rw [List.length_append] at hl
    obtain ⟨k, rfl⟩ : ∃ k, n = k + 1 := ⟨n - 1, by omega⟩
    have i1 := doors_ok y (k + 1) a ho.2.1 (by omega) (by omega)
    have i2 := doors_ok n' (k + 1) (a + (y.ders.length : Int)) ho.2.2 (by omega) (by omega)
    have l1 := Dr_len y a
    have l2 := Dr_len n' (a + (y.ders.length : Int))
    have lh := rows_len (Dr y a) (by omega)
    rw [l1] at lh
    have er : gF (k + 2) 5 [(St.choice g y n').pv, .int a] = .ok (rows (Dr (.choice g y n') a)) := by
      have eD : Dr (.choice g y n') a = (fun s => if g.at s = true then (Dr y a).1 s else (Dr n' (a + (y.ders.length : Int))).1 s, (Dr y a).2 ++ (Dr n' (a + (y.ders.length : Int))).2) := rfl
      rw [eD]
      generalize eh : Dr y a = dh at i1 l1 lh
      generalize et : Dr n' (a + (y.ders.length : Int)) = dt at i2 l2
      rw [g_choice_doors, runD_of rfl]
      show fin (d_choice_doors (gF (k + 1)) [.v (.obj 5 [g.pv, y.pv, n'.pv]), .v (.int a), .no, .no, .no]) = _
      have f0 : fldP a_test (.obj 5 [g.pv, y.pv, n'.pv]) = .ok g.pv := rfl
      have f1 : fldP a_yes (.obj 5 [g.pv, y.pv, n'.pv]) = .ok y.pv := rfl
      have f2 : fldP a_no (.obj 5 [g.pv, y.pv, n'.pv]) = .ok n'.pv := rfl
      have ea : a + ((y.ders.length : Int) + 1) - 1 = a + (y.ders.length : Int) := by omega
      have hg : dComp ["setting"] [("yes", 2), ("no", 3), ("step", 0)] (dRng1 (dCons (dC (.int (16))) dNil)) (gSet 0) dYes (dIfV (dTr (dMeth q_holds (gF (k + 1)) (dFld a_test (dVar 3)) (dCons (dVar 0) dNil))) (d2 fIx (d2 fIx (dSee 1) (dC (.int 0))) (dSee 0)) (d2 fIx (d2 fIx (dSee 2) (dC (.int 0))) (dSee 0))) [.v (.obj 5 [g.pv, y.pv, n'.pv]), .v (.int a), .v (rows dh), .v (rows dt), .no] = .ok ((List.range 16).map fun (i : Nat) => dpv (if g.at (i : Int) = true then dh.1 (i : Int) else dt.1 (i : Int))) := by
        unfold dComp
        rw [rng16, ok_bind, if_pos len16]
        refine comp_all (ps0 := [.v (rows dh), .v (rows dt), .v (.obj 5 [g.pv, y.pv, n'.pv])]) (fun (i : Nat) => PV.int (0 + (i : Int))) (fun (i : Nat) => dpv (if g.at (i : Int) = true then dh.1 (i : Int) else dt.1 (i : Int))) (List.range 16) .no fun i hi => ?_
        have hi := List.mem_range.mp hi
        have e1 := rix dh.1 (s := (i : Int)) (by omega) (by omega)
        have e2 := rix dt.1 (s := (i : Int)) (by omega) (by omega)
        have e3 : fIx (rows dh) (.int 0) = .ok (rpv dh.1) := hd_ix _ _
        have e4 : fIx (rows dt) (.int 0) = .ok (rpv dt.1) := hd_ix _ _
        have eg := holds_ok g (k + 1) (i : Int) ho.1 (by omega)
        cases hgs : g.at (i : Int) <;> simp [e1, e2, e3, e4, f0, eg, hgs]
      have ec1 : ∀ x xs z, dCut (dSee 2) (dO1 (dC (.int 1))) dO0 [.v x, .v xs, .v (rows dh), .v (rows dt), z] = .ok (dh.2.map rpv) := fun x xs z => congrArg Rx.ok (cut_tail _ _)
      have ec2 : ∀ x xs z, dCut (dSee 3) (dO1 (dC (.int 1))) dO0 [.v x, .v xs, .v (rows dh), .v (rows dt), z] = .ok (dt.2.map rpv) := fun x xs z => congrArg Rx.ok (cut_tail _ _)
      have hz1 : 1 + dh.2.length ≤ sizeLine := by show _ ≤ 16777216; omega
      have hz2 : 1 + dh.2.length + dt.2.length ≤ sizeLine := by show _ ≤ 16777216; omega
      have hcat : ∀ x z, dCatL (dOfN (dCatL (dOfN (dCons (dVar 4) dNil)) (dOfN (dCut (dSee 2) (dO1 (dC (.int 1))) dO0)))) (dOfN (dCut (dSee 3) (dO1 (dC (.int 1))) dO0)) [.v x, .v (.int a), .v (rows dh), .v (rows dt), .v z] = .ok (z :: (dh.2.map rpv ++ dt.2.map rpv)) := fun x z => by
        rw [e_catL]
        have e1 : dCatL (dOfN (dCons (dVar 4) dNil)) (dOfN (dCut (dSee 2) (dO1 (dC (.int 1))) dO0)) [.v x, .v (.int a), .v (rows dh), .v (rows dt), .v z] = .ok (z :: dh.2.map rpv) := by
          rw [e_catL]
          unfold dOfN
          rw [ec1]
          have : dCons (dVar 4) dNil [.v x, .v (.int a), .v (rows dh), .v (rows dt), .v z] = .ok [z] := rfl
          rw [this]
          simp only [ok_bind, List.length_map, List.length_cons, List.length_nil]
          rw [if_pos (by omega)]
          rfl
        have e2 : dOfN (dCatL (dOfN (dCons (dVar 4) dNil)) (dOfN (dCut (dSee 2) (dO1 (dC (.int 1))) dO0))) [.v x, .v (.int a), .v (rows dh), .v (rows dt), .v z] = .ok (.lst (z :: dh.2.map rpv)) := by
          show (dCatL _ _ _).bind _ = _
          rw [e1]; rfl
        have e3 : dOfN (dCut (dSee 3) (dO1 (dC (.int 1))) dO0) [.v x, .v (.int a), .v (rows dh), .v (rows dt), .v z] = .ok (.lst (dt.2.map rpv)) := by
          show (dCut _ _ _ _).bind _ = _
          rw [ec2]; rfl
        rw [e2, e3]
        simp only [ok_bind, List.length_map, List.length_cons]
        rw [if_pos (by omega)]
        rfl
      unfold d_choice_doors
      simp only [e_seq, e_set, e_call, e_cons, e_fld, e_var, List.getElem?_cons_zero, List.getElem?_cons_succ, ok_bind, f1, f2, e_nil, consR_ok, i1, ok_st, List.set_cons_succ, List.set_cons_zero, next_nx, e_2, e_see, e_C, bind2_ok, lh, e_fIi, ea, i2, e_ret, e_ofN, hg, hcat, fin_ret]
      unfold rows rpv
      simp
    have e0 : gF (k + 3) 2 [(St.choice g y n').pv, .int a] = gF (k + 2) 5 [(St.choice g y n').pv, .int a] := by
      rw [g_doors_of, runD_of rfl]
      show fin (d_doors_of (gF (k + 2)) [.v (.obj 5 [g.pv, y.pv, n'.pv]), .v (.int a)]) = _
      have er : gF (k + 2) 5 [.obj 5 [g.pv, y.pv, n'.pv], .int a] = .ok (rows (Dr (.choice g y n') a)) := er
      unfold d_doors_of
      have es : St.pv (.choice g y n') = .obj 5 [g.pv, y.pv, n'.pv] := rfl
      simp [er, es]
    exact e0.trans er
  | .loop g b, n + 2, a, ho, hd, hl => by
    have hd : 2 * (max g.depth b.depth + 1) + 2 ≤ n + 2 := hd
    have hl : (b.ders.map (fun l => St.row l (.loop g b))).length ≤ 1000 := hl
    rw [List.length_map] at hl
    obtain ⟨k, rfl⟩ : ∃ k, n = k + 1 := ⟨n - 1, by omega⟩
    have i1 := doors_ok b (k + 1) a ho.2 (by omega) (by omega)
    have l1 := Dr_len b a
    have er : gF (k + 2) 6 [(St.loop g b).pv, .int a] = .ok (rows (Dr (.loop g b) a)) := by
      have eD : Dr (.loop g b) a = (fun s => ldoor (g.at s) ((Dr b a).1 s), (Dr b a).2.map fun f => gone f fun s => ldoor (g.at s) ((Dr b a).1 s)) := rfl
      rw [eD]
      generalize eh : Dr b a = dh at i1 l1
      rw [g_loop_doors, runD_of rfl]
      show fin (d_loop_doors (gF (k + 1)) [.v (.obj 6 [g.pv, b.pv]), .v (.int a), .no, .no]) = _
      have f0 : fldP a_test (.obj 6 [g.pv, b.pv]) = .ok g.pv := rfl
      have f1 : fldP a_body (.obj 6 [g.pv, b.pv]) = .ok b.pv := rfl
      have hg : dComp ["setting"] [("body", 2), ("step", 0)] (dRng1 (dCons (dC (.int (16))) dNil)) (gSet 0) dYes (dCall (gF (k + 1) 7) (dCons (dMeth q_holds (gF (k + 1)) (dFld a_test (dVar 2)) (dCons (dVar 0) dNil)) (dCons (d2 fIx (d2 fIx (dSee 1) (dC (.int 0))) (dSee 0)) dNil))) [.v (.obj 6 [g.pv, b.pv]), .v (.int a), .v (rows dh), .no] = .ok ((List.range 16).map fun (i : Nat) => dpv (ldoor (g.at (i : Int)) (dh.1 (i : Int)))) := by
        unfold dComp
        rw [rng16, ok_bind, if_pos len16]
        refine comp_all (ps0 := [.v (rows dh), .v (.obj 6 [g.pv, b.pv])]) (fun (i : Nat) => PV.int (0 + (i : Int))) (fun (i : Nat) => dpv (ldoor (g.at (i : Int)) (dh.1 (i : Int)))) (List.range 16) .no fun i hi => ?_
        have hi := List.mem_range.mp hi
        have e1 := rix dh.1 (s := (i : Int)) (by omega) (by omega)
        have e3 : fIx (rows dh) (.int 0) = .ok (rpv dh.1) := hd_ix _ _
        have eg := holds_ok g (k + 1) (i : Int) ho.1 (by omega)
        simp [e1, e3, f0, eg, ldoor_ok]
      generalize hB : (fun s => ldoor (g.at s) (dh.1 s)) = bg
      have hg : dComp ["setting"] [("body", 2), ("step", 0)] (dRng1 (dCons (dC (.int (16))) dNil)) (gSet 0) dYes (dCall (gF (k + 1) 7) (dCons (dMeth q_holds (gF (k + 1)) (dFld a_test (dVar 2)) (dCons (dVar 0) dNil)) (dCons (d2 fIx (d2 fIx (dSee 1) (dC (.int 0))) (dSee 0)) dNil))) [.v (.obj 6 [g.pv, b.pv]), .v (.int a), .v (rows dh), .no] = .ok ((List.range 16).map fun (i : Nat) => dpv (bg (i : Int))) := by rw [← hB]; exact hg
      have hc2 : dComp ["doors"] [("begin", 3)] (dItems (dOfN (dCut (dSee 2) (dO1 (dC (.int 1))) dO0))) (gSet 0) dYes (dCall (gF (k + 1) 8) (dCons (dVar 0) (dCons (dVar 1) dNil))) [.v (.obj 6 [g.pv, b.pv]), .v (.int a), .v (rows dh), .v (rpv bg)] = .ok (dh.2.map fun f => rpv (gone f bg)) := by
        have ei : dItems (dOfN (dCut (dSee 2) (dO1 (dC (.int 1))) dO0)) [.v (.obj 6 [g.pv, b.pv]), .v (.int a), .v (rows dh), .v (rpv bg)] = .ok (dh.2.map rpv) := congrArg Rx.ok (cut_tail _ _)
        unfold dComp
        rw [ei, ok_bind, if_pos (by rw [List.length_map]; show dh.2.length ≤ 16777216; omega)]
        exact comp_all (ps0 := [.v (rpv bg)]) rpv (fun f => rpv (gone f bg)) dh.2 .no fun f hf => by
          simp [gone_ok k f bg]
      have hcat : dCatL (dOfN (dCons (dVar 3) dNil)) (dOfN (dComp ["doors"] [("begin", 3)] (dItems (dOfN (dCut (dSee 2) (dO1 (dC (.int 1))) dO0))) (gSet 0) dYes (dCall (gF (k + 1) 8) (dCons (dVar 0) (dCons (dVar 1) dNil))))) [.v (.obj 6 [g.pv, b.pv]), .v (.int a), .v (rows dh), .v (rpv bg)] = .ok (rpv bg :: dh.2.map fun f => rpv (gone f bg)) := by
        rw [e_catL]
        unfold dOfN
        unfold dOfN at hc2
        rw [hc2]
        have : dCons (dVar 3) dNil [.v (.obj 6 [g.pv, b.pv]), .v (.int a), .v (rows dh), .v (rpv bg)] = .ok [rpv bg] := rfl
        rw [this]
        simp only [ok_bind, List.length_map, List.length_cons, List.length_nil]
        rw [if_pos (by show _ ≤ 16777216; omega)]
        rfl
      have hcat : dCatL (dOfN (dCons (dVar 3) dNil)) (dOfN (dComp ["doors"] [("begin", 3)] (dItems (dOfN (dCut (dSee 2) (dO1 (dC (.int 1))) dO0))) (gSet 0) dYes (dCall (gF (k + 1) 8) (dCons (dVar 0) (dCons (dVar 1) dNil))))) [.v (.obj 6 [g.pv, b.pv]), .v (.int a), .v (rows dh), .v (.lst ((List.range 16).map fun (i : Nat) => dpv (bg (i : Int))))] = .ok (rpv bg :: dh.2.map fun f => rpv (gone f bg)) := hcat
      unfold d_loop_doors
      simp only [e_seq, e_set, e_call, e_cons, e_fld, e_var, List.getElem?_cons_zero, List.getElem?_cons_succ, ok_bind, f1, e_nil, consR_ok, i1, ok_st, List.set_cons_succ, List.set_cons_zero, next_nx, e_2, e_see, e_C, bind2_ok, e_ret, e_ofN, hg, hcat, fin_ret]
      unfold rows
      simp [List.map_map, Function.comp_def]
    have e0 : gF (k + 3) 2 [(St.loop g b).pv, .int a] = gF (k + 2) 6 [(St.loop g b).pv, .int a] := by
      rw [g_doors_of, runD_of rfl]
      show fin (d_doors_of (gF (k + 2)) [.v (.obj 6 [g.pv, b.pv]), .v (.int a)]) = _
      have er : gF (k + 2) 6 [.obj 6 [g.pv, b.pv], .int a] = .ok (rows (Dr (.loop g b) a)) := er
      unfold d_doors_of
      have es : St.pv (.loop g b) = .obj 6 [g.pv, b.pv] := rfl
      simp [er, es]
    exact e0.trans er
/-! what a door tells -/
def Gd (t : St) (a : Int) (l : St) (s : Int) (d : Str × Int) : Prop := d.1 = (l.first s).1 ∧ (((l.first s).2 = none ∧ d.2 = 0) ∨ ∃ (j : Nat) (l' : St), d.2 = a + 1 + (j : Int) ∧ t.ders[j]? = some l' ∧ (l.first s).2 = some l')
theorem Gd_gone {h t : St} {a : Int} {l : St} {s : Int} {f k : Rw} (g1 : Gd h a l s (f s)) (g2 : Gd t (a + (h.ders.length : Int)) t s (k s)) : Gd (.row h t) a (.row l t) s (gone f k s) := by
  obtain ⟨e1, q1⟩ := g1
  obtain ⟨e2, q2⟩ := g2
  unfold gone Gd
  have er : (St.row l t).first s = if (l.first s).1 = "done" then t.first s else ((l.first s).1, (l.first s).2.map fun l => .row l t) := rfl
  rw [er]
  by_cases hd : (l.first s).1 = "done"
  · rw [if_pos (e1.trans hd)]
    refine ⟨by rw [if_pos hd]; exact e2, ?_⟩
    rw [if_pos hd]
    rcases q2 with ⟨z, y⟩ | ⟨j, l', y, m, z⟩
    · exact .inl ⟨z, y⟩
    · refine .inr ⟨h.ders.length + j, l', by rw [y]; omega, ?_, z⟩
      show (h.ders.map (fun l => St.row l t) ++ t.ders)[h.ders.length + j]? = _
      rw [List.getElem?_append_right (by rw [List.length_map]; omega), List.length_map, Nat.add_sub_cancel_left]
      exact m
  · rw [if_neg (fun z => hd (e1.symm.trans z))]
    refine ⟨by rw [if_neg hd]; exact e1, ?_⟩
    rw [if_neg hd]
    rcases q1 with ⟨z, y⟩ | ⟨j, l', y, m, z⟩
    · exact .inl ⟨by rw [z]; rfl, y⟩
    · refine .inr ⟨j, .row l' t, y, ?_, by rw [z]; rfl⟩
      show (h.ders.map (fun l => St.row l t) ++ t.ders)[j]? = _
      have hj := (List.getElem?_eq_some_iff.mp m).1
      rw [List.getElem?_append_left (by rw [List.length_map]; exact hj), List.getElem?_map, m]
      rfl
theorem Dr_good : ∀ (t : St) (a : Int), (∀ s, Gd t a t s ((Dr t a).1 s)) ∧ ∀ (k : Nat) (f : Rw) (l : St), (Dr t a).2[k]? = some f → t.ders[k]? = some l → ∀ s, Gd t a l s (f s)
  | .skip, a => ⟨fun s => ⟨rfl, .inl ⟨rfl, rfl⟩⟩, fun k f l h => by cases h⟩
  | .stop, a => ⟨fun s => ⟨rfl, .inl ⟨rfl, rfl⟩⟩, fun k f l h => by cases h⟩
  | .deed c, a => by
    refine ⟨fun s => ⟨rfl, .inr ⟨0, .skip, by show a + 1 = a + 1 + ((0 : Nat) : Int); omega, rfl, rfl⟩⟩, fun k f l h h' s => ?_⟩
    cases k with
    | zero => cases h; cases h'; exact ⟨rfl, .inl ⟨rfl, rfl⟩⟩
    | succ k => cases h
  | .row h t, a => by
    obtain ⟨h1, h2⟩ := Dr_good h a
    obtain ⟨t1, t2⟩ := Dr_good t (a + (h.ders.length : Int))
    refine ⟨fun s => Gd_gone (h1 s) (t1 s), fun k f l e1 e2 s => ?_⟩
    have e1 : ((Dr h a).2.map (fun f => gone f (Dr t (a + (h.ders.length : Int))).1) ++ (Dr t (a + (h.ders.length : Int))).2)[k]? = some f := e1
    have e2 : (h.ders.map (fun l => St.row l t) ++ t.ders)[k]? = some l := e2
    have hl := Dr_len h a
    by_cases hk : k < h.ders.length
    · rw [List.getElem?_append_left (by rw [List.length_map, hl]; exact hk), List.getElem?_map] at e1
      rw [List.getElem?_append_left (by rw [List.length_map]; exact hk), List.getElem?_map] at e2
      obtain ⟨f', ef, rfl⟩ := Option.map_eq_some_iff.mp e1
      obtain ⟨l', el, rfl⟩ := Option.map_eq_some_iff.mp e2
      exact Gd_gone (h2 k f' l' ef el s) (t1 s)
    · rw [List.getElem?_append_right (by rw [List.length_map, hl]; omega), List.length_map, hl] at e1
      rw [List.getElem?_append_right (by rw [List.length_map]; omega), List.length_map] at e2
      obtain ⟨g1, g2⟩ := t2 _ f l e1 e2 s
      refine ⟨g1, ?_⟩
      rcases g2 with z | ⟨j, l', y, m, z⟩
      · exact .inl z
      · refine .inr ⟨h.ders.length + j, l', by rw [y]; omega, ?_, z⟩
        show (h.ders.map (fun l => St.row l t) ++ t.ders)[h.ders.length + j]? = _
        rw [List.getElem?_append_right (by rw [List.length_map]; omega), List.length_map, Nat.add_sub_cancel_left]
        exact m
  | .choice g y n, a => by
    obtain ⟨h1, h2⟩ := Dr_good y a
    obtain ⟨t1, t2⟩ := Dr_good n (a + (y.ders.length : Int))
    have up1 : ∀ {l s d}, Gd y a l s d → Gd (.choice g y n) a l s d := fun {l s d} q => ⟨q.1, q.2.imp id fun ⟨j, l', e, m, z⟩ => ⟨j, l', e, by
      show (y.ders ++ n.ders)[j]? = _
      rw [List.getElem?_append_left (List.getElem?_eq_some_iff.mp m).1]; exact m, z⟩⟩
    have up2 : ∀ {l s d}, Gd n (a + (y.ders.length : Int)) l s d → Gd (.choice g y n) a l s d := fun {l s d} q => ⟨q.1, q.2.imp id fun ⟨j, l', e, m, z⟩ => ⟨y.ders.length + j, l', by rw [e]; omega, by
      show (y.ders ++ n.ders)[y.ders.length + j]? = _
      rw [List.getElem?_append_right (by omega), Nat.add_sub_cancel_left]; exact m, z⟩⟩
    refine ⟨fun s => ?_, fun k f l e1 e2 s => ?_⟩
    · have ef : (St.choice g y n).first s = if g.at s = true then y.first s else n.first s := rfl
      show Gd (.choice g y n) a (.choice g y n) s (if g.at s = true then (Dr y a).1 s else (Dr n (a + (y.ders.length : Int))).1 s)
      unfold Gd
      rw [ef]
      by_cases hg : g.at s = true
      · rw [if_pos hg, if_pos hg]; exact up1 (h1 s)
      · rw [if_neg hg, if_neg hg]; exact up2 (t1 s)
    · have e1 : ((Dr y a).2 ++ (Dr n (a + (y.ders.length : Int))).2)[k]? = some f := e1
      have e2 : (y.ders ++ n.ders)[k]? = some l := e2
      have hl := Dr_len y a
      by_cases hk : k < y.ders.length
      · rw [List.getElem?_append_left (by rw [hl]; exact hk)] at e1
        rw [List.getElem?_append_left hk] at e2
        exact up1 (h2 k f l e1 e2 s)
      · rw [List.getElem?_append_right (by rw [hl]; omega), hl] at e1
        rw [List.getElem?_append_right (by omega)] at e2
        exact up2 (t2 _ f l e1 e2 s)
  | .loop g b, a => by
    obtain ⟨h1, h2⟩ := Dr_good b a
    have up : ∀ s, Gd (.loop g b) a (.loop g b) s (ldoor (g.at s) ((Dr b a).1 s)) := fun s => by
      obtain ⟨e1, q1⟩ := h1 s
      unfold Gd ldoor St.first
      by_cases hg : g.at s = true
      · rw [if_pos hg, if_pos hg]
        by_cases hd : (b.first s).1 = "done"
        · rw [if_pos (e1.trans hd), if_pos hd]
          exact ⟨rfl, .inl ⟨rfl, rfl⟩⟩
        · rw [if_neg (fun z => hd (e1.symm.trans z)), if_neg hd]
          refine ⟨e1, ?_⟩
          rcases q1 with ⟨z, y⟩ | ⟨j, l', y, m, z⟩
          · exact .inl ⟨by rw [z]; rfl, y⟩
          · refine .inr ⟨j, .row l' (.loop g b), y, ?_, by rw [z]; rfl⟩
            show (b.ders.map (fun l => St.row l (.loop g b)))[j]? = _
            rw [List.getElem?_map, m]; rfl
      · rw [if_neg hg, if_neg hg]
        exact ⟨rfl, .inl ⟨rfl, rfl⟩⟩
    refine ⟨up, fun k f l e1 e2 s => ?_⟩
    have e1 : ((Dr b a).2.map fun f => gone f fun s => ldoor (g.at s) ((Dr b a).1 s))[k]? = some f := e1
    have e2 : (b.ders.map (fun l => St.row l (.loop g b)))[k]? = some l := e2
    rw [List.getElem?_map] at e1 e2
    obtain ⟨f', ef, rfl⟩ := Option.map_eq_some_iff.mp e1
    obtain ⟨l', el, rfl⟩ := Option.map_eq_some_iff.mp e2
    obtain ⟨g1, g2⟩ := h2 k f' l' ef el s
    have gl := up s
    unfold Gd gone
    have er : (St.row l' (.loop g b)).first s = if (l'.first s).1 = "done" then (St.loop g b).first s else ((l'.first s).1, (l'.first s).2.map fun l => .row l (.loop g b)) := rfl
    rw [er]
    by_cases hd : (l'.first s).1 = "done"
    · rw [if_pos (g1.trans hd), if_pos hd]
      exact gl
    · rw [if_neg (fun z => hd (g1.symm.trans z)), if_neg hd]
      refine ⟨g1, ?_⟩
      rcases g2 with ⟨z, y⟩ | ⟨j, l2, y, m, z⟩
      · exact .inl ⟨by rw [z]; rfl, y⟩
      · refine .inr ⟨j, .row l2 (.loop g b), y, ?_, by rw [z]; rfl⟩
        show (b.ders.map (fun l => St.row l (.loop g b)))[j]? = _
        rw [List.getElem?_map, m]; rfl
/-- a room of a program's rooms, and what is left there -/
def Rm (t : St) (p : Int) (l : St) : Prop := (p = 0 ∧ l = t) ∨ ∃ j : Nat, p = 1 + (j : Int) ∧ t.ders[j]? = some l
theorem room_row (t : St) {p : Int} {l : St} (h : Rm t p l) : ∃ f : Rw, fIx (rows (Dr t 0)) (.int p) = .ok (rpv f) ∧ ∀ s, (f s).1 = (l.first s).1 ∧ (((l.first s).2 = none ∧ (f s).2 = 0) ∨ ∃ l', Rm t (f s).2 l' ∧ (l.first s).2 = some l') := by
  obtain ⟨h1, h2⟩ := Dr_good t 0
  have go : ∀ {l s d}, Gd t 0 l s d → d.1 = (l.first s).1 ∧ (((l.first s).2 = none ∧ d.2 = 0) ∨ ∃ l', Rm t d.2 l' ∧ (l.first s).2 = some l') := fun {l s d} q => ⟨q.1, q.2.imp id fun ⟨j, l', e, m, z⟩ => ⟨l', .inr ⟨j, by rw [e]; omega, m⟩, z⟩⟩
  rcases h with ⟨rfl, rfl⟩ | ⟨j, rfl, hj⟩
  · exact ⟨(Dr l 0).1, hd_ix _ _, fun s => go (h1 s)⟩
  · have hl := (List.getElem?_eq_some_iff.mp hj).1
    have hl' : j < (Dr t 0).2.length := by rw [Dr_len]; exact hl
    refine ⟨(Dr t 0).2[j], ?_, fun s => go (h2 j _ l (List.getElem?_eq_getElem hl') hj s)⟩
    show (match atI (rpv (Dr t 0).1 :: (Dr t 0).2.map rpv) (1 + (j : Int)) with | some w => Rx.ok w | none => .bad) = _
    have e : (1 + (j : Int)) = ((j + 1 : Nat) : Int) := by omega
    rw [e, atI_nat (v := rpv (Dr t 0).2[j]) (by rw [List.getElem?_cons_succ, List.getElem?_map, List.getElem?_eq_getElem hl']; rfl)]
end M32
end
section
set_option Elab.async false
set_option linter.all false
set_option maxRecDepth 100000
set_option maxHeartbeats 4000000
namespace M32
open PySem L2 DN
/-- a run: deeds, end, state -/
def wk (L : Str → Int → Int) : Nat → St → Int → List Str × Str × Int
  | 0, t, s => match (t.first (s % 16)).2 with | none => ([], (t.first (s % 16)).1, s) | some _ => ([], "more", s)
  | m + 1, t, s => match (t.first (s % 16)).2 with | none => ([], (t.first (s % 16)).1, s) | some l => ((t.first (s % 16)).1 :: (wk L m l (L (t.first (s % 16)).1 s)).1, (wk L m l (L (t.first (s % 16)).1 s)).2)
theorem wk_deeds (L : Str → Int → Int) : ∀ (m : Nat) (t : St) (s : Int), t.ok → (wk L m t s).1.length ≤ m ∧ ∀ d ∈ (wk L m t s).1, DeedL d
  | 0, t, s, _ => by
    unfold wk
    split <;> exact ⟨Nat.le_refl _, fun d hd => by cases hd⟩
  | m + 1, t, s, ho => by
    unfold wk
    cases e : (t.first (s % 16)).2 with
    | none => exact ⟨Nat.zero_le _, fun d hd => by cases hd⟩
    | some l =>
      obtain ⟨h1, h2⟩ := wk_deeds L m l (L (t.first (s % 16)).1 s) (first_okk t _ l ho e)
      refine ⟨Nat.succ_le_succ h1, fun d hd => ?_⟩
      rcases List.mem_cons.mp hd with rfl | hd
      · rcases first_kind t (s % 16) ho with ⟨_, q⟩ | ⟨q, _⟩
        · rw [e] at q; cases q
        · exact q
      · exact h2 d hd
/-! ### the texts of deeds -/
def cat : List Str → Str
  | [] => ""
  | d :: r => d ++ cat r
theorem cat_nil (x : Str) : x ++ ("" : Str) = x := PySem.Str.append_empty x
theorem nil_cat (x : Str) : ("" : Str) ++ x = x := PySem.Str.empty_append x
theorem cat_app : ∀ (a b : List Str), cat (a ++ b) = cat a ++ cat b
  | [], b => (nil_cat _).symm
  | d :: a, b => by
    show d ++ cat (a ++ b) = d ++ cat a ++ cat b
    rw [cat_app a b, PySem.Str.append_assoc]
theorem join_cat : ∀ l : List Str, Txt.join "" l = cat l := by
  have key : ∀ l : List Str, Str.join "" l = cat l := by
    intro l
    induction l with
    | nil => rfl
    | cons d r ih =>
      cases r with
      | nil => show d = d ++ ("" : Str); rw [cat_nil]
      | cons e r =>
        show d ++ ("" : Str) ++ Str.join "" (e :: r) = d ++ cat (e :: r)
        rw [ih, cat_nil]
  intro l
  rw [← key l]
  exact PySem.StrLaws.glued_eq_join "" l
theorem strs_map : ∀ l : List Str, strsOf (l.map PV.str) = some l
  | [] => rfl
  | d :: l => by simp [strsOf, strs_map l]
theorem join_deeds (l : List Str) (hl : l.length ≤ 10000) (hd : ∀ d ∈ l, DeedL d) : fJoin (.str "") (.lst (l.map PV.str)) = .ok (.str (cat l)) := by
  have hj : JoinOk "" l = true := by
    unfold JoinOk
    rw [StrLaws.joinFits (B := 1) (fun y hy => by rcases hd y hy with rfl | rfl | rfl | rfl | rfl <;> decide +kernel) (by
      have : (("" : Str)).length = 0 := by decide +kernel
      rw [this]; omega)]
    rfl
  unfold fJoin
  simp only [strs_map, hj, if_true, join_cat]
theorem deed_len1 {d : Str} (h : DeedL d) : d.length = 1 := by rcases h with rfl | rfl | rfl | rfl | rfl <;> decide +kernel
theorem cat_len : ∀ l : List Str, (∀ d ∈ l, DeedL d) → (cat l).length = l.length
  | [], _ => by decide +kernel
  | d :: l, h => by
    show (d ++ cat l).length = _
    rw [PySem.Str.length_append, deed_len1 (h d List.mem_cons_self), cat_len l fun e he => h e (List.mem_cons_of_mem _ he), List.length_cons]
    omega
theorem in_ends {w : Str} (h : w = "done" ∨ w = "stopped" ∨ w = "hung") : fInL false (.str w) (.tup c_ENDS) = .ok (.bl true) := by
  rcases h with rfl | rfl | rfl <;> rfl
theorem deed_ends {w : Str} (h : DeedL w) : fInL false (.str w) (.tup c_ENDS) = .ok (.bl false) := by
  rcases h with rfl | rfl | rfl | rfl | rfl <;> rfl
/-! ### runs cut -/
def lf (L : Str → Int → Int) : Nat → St → Int → St × Int
  | 0, t, s => (t, s)
  | k + 1, t, s => match (t.first (s % 16)).2 with | none => (t, s) | some l => lf L k l (L (t.first (s % 16)).1 s)
theorem wk_none (L : Str → Int → Int) (m : Nat) (t : St) (s : Int) (h : (t.first (s % 16)).2 = none) : wk L m t s = ([], (t.first (s % 16)).1, s) := by
  cases m <;> (unfold wk; rw [h])
theorem wk_some (L : Str → Int → Int) (m : Nat) (t l : St) (s : Int) (h : (t.first (s % 16)).2 = some l) : wk L (m + 1) t s = ((t.first (s % 16)).1 :: (wk L m l (L (t.first (s % 16)).1 s)).1, (wk L m l (L (t.first (s % 16)).1 s)).2) := by
  conv => lhs; unfold wk
  rw [h]
theorem wk_zero (L : Str → Int → Int) (t l : St) (s : Int) (h : (t.first (s % 16)).2 = some l) : wk L 0 t s = ([], ("more" : Str), s) := by
  unfold wk; rw [h]
theorem end_ne {w : Str} (h : w = "done" ∨ w = "stopped" ∨ w = "hung") : w ≠ "more" := by
  rcases h with rfl | rfl | rfl <;> decide +kernel
theorem wk_cut (L : Str → Int → Int) (d : Nat) : ∀ (a : Nat) (t : St) (s : Int), t.ok →
    (wk L a t s).1.length ≤ a ∧ (wk L a t s).2.2 = (lf L (wk L a t s).1.length t s).2 ∧
    wk L (a + d) t s = ((wk L a t s).1 ++ (wk L (a + d - (wk L a t s).1.length) (lf L (wk L a t s).1.length t s).1 (lf L (wk L a t s).1.length t s).2).1, (wk L (a + d - (wk L a t s).1.length) (lf L (wk L a t s).1.length t s).1 (lf L (wk L a t s).1.length t s).2).2) ∧
    ((wk L a t s).2.1 ≠ "more" → wk L (a + d) t s = wk L a t s) ∧ ((wk L a t s).2.1 = "more" → (wk L a t s).1.length = a)
  | 0, t, s, ho => by
    rcases first_kind t (s % 16) ho with ⟨hk, hn⟩ | ⟨hk, l, hn⟩
    · rw [wk_none L 0 t s hn]
      refine ⟨Nat.le_refl _, rfl, ?_, fun _ => ?_, fun z => absurd z (end_ne hk)⟩
      · show wk L (0 + d) t s = ([] ++ (wk L (0 + d - 0) t s).1, (wk L (0 + d - 0) t s).2)
        rw [Nat.sub_zero, List.nil_append]
      · rw [wk_none L _ t s hn]
    · rw [wk_zero L t l s hn]
      refine ⟨Nat.le_refl _, rfl, ?_, fun z => absurd rfl z, fun _ => rfl⟩
      show wk L (0 + d) t s = ([] ++ (wk L (0 + d - 0) t s).1, (wk L (0 + d - 0) t s).2)
      rw [Nat.sub_zero, List.nil_append]
  | a + 1, t, s, ho => by
    rcases first_kind t (s % 16) ho with ⟨hk, hn⟩ | ⟨hk, l, hn⟩
    · rw [wk_none L (a + 1) t s hn]
      refine ⟨Nat.zero_le _, rfl, ?_, fun _ => ?_, fun z => absurd z (end_ne hk)⟩
      · show wk L (a + 1 + d) t s = ([] ++ (wk L (a + 1 + d - 0) t s).1, (wk L (a + 1 + d - 0) t s).2)
        rw [Nat.sub_zero, List.nil_append]
      · rw [wk_none L _ t s hn]
    · obtain ⟨h1, h2, h3, h4, h5⟩ := wk_cut L d a l (L (t.first (s % 16)).1 s) (first_okk t _ l ho hn)
      rw [wk_some L a t l s hn]
      have el : ∀ k, lf L (k + 1) t s = lf L k l (L (t.first (s % 16)).1 s) := fun k => by
        conv => lhs; unfold lf
        rw [hn]
      have e1 : a + 1 + d = (a + d) + 1 := by omega
      refine ⟨Nat.succ_le_succ h1, ?_, ?_, fun z => ?_, fun z => ?_⟩
      · rw [List.length_cons, el]; exact h2
      · rw [List.length_cons, el, e1, wk_some L (a + d) t l s hn, show a + d + 1 - ((wk L a l (L (t.first (s % 16)).1 s)).1.length + 1) = a + d - (wk L a l (L (t.first (s % 16)).1 s)).1.length by omega, h3]
        rfl
      · rw [e1, wk_some L (a + d) t l s hn, h4 z]
      · rw [List.length_cons, h5 z]
/-- what a world and a door tell at one level -/
structure Wld (n : Nat) (w : PV) (L : Str → Int → Int) : Prop where
  st : ∀ s, callM q_setting (gF n) w [.int s] = .ok (.int (s % 16))
  ld : ∀ d s, DeedL d → callM q_led (gF n) w [.str d, .int s] = .ok (.int (L d s))
/-! ### run_along, by any door -/
structure Dor (n : Nat) (dr : PV) (Rl : PV → St → Prop) : Prop where
  tells : ∀ p l s, Rl p l → 0 ≤ s → s < 16 → ∃ x, appC tC (gF n) dr (.ok [p, .int s]) = .ok (.tup [.str (l.first s).1, x]) ∧ ∀ l', (l.first s).2 = some l' → Rl x l'
  ok : ∀ p l, Rl p l → l.ok
theorem along_loop (n : Nat) (w : PV) (L : Str → Int → Int) (hw : Wld n w L) (dr : PV) (Rl : PV → St → Prop) (hD : Dor n dr Rl) (b : PV) (most : Nat) (hm : most ≤ 9000) : ∀ (m : Nat) (k : Nat) (p : PV) (t : St) (s : Int) (ds : List Str) (s7 : Sl), Rl p t → (∀ d ∈ ds, DeedL d) → ds.length + m = most →
    iterM (mOfT (dTr (dC (.bl true)))) (b_run_along_1 (gF n)) (m + 1 + k) [.v b, .v dr, .v w, .v (.int s), .v (.int most), .own (.lst (ds.map PV.str)), .v p, s7] = some (.ret (.tup [.str (cat (ds ++ (wk L m t s).1)), .str (wk L m t s).2.1, .int (wk L m t s).2.2]))
  | m, k, p, t, s, ds, s7, hr, hds, hl => by
    have ho := hD.ok p t hr
    obtain ⟨x, e1, hx⟩ := hD.tells p t (s % 16) hr (by omega) (by omega)
    have st := hw.st s
    have ej := join_deeds ds (by omega) hds
    have tt : ∀ ps, mOfT (dTr (dC (.bl true))) ps = .ok (true, ps) := fun _ => rfl
    have i0 : ∀ a b : PV, fIx (.tup [a, b]) (.int 0) = .ok a := fun _ _ => rfl
    have i1 : ∀ a b : PV, fIx (.tup [a, b]) (.int 1) = .ok b := fun _ _ => rfl
    have hsz : ds.length < sizeLine := by show ds.length < 16777216; omega
    rw [show m + 1 + k = (m + k) + 1 by omega, iterM, tt]
    rcases first_kind t (s % 16) ho with ⟨hk, hn⟩ | ⟨hk, l, hn⟩
    · have body : b_run_along_1 (gF n) [.v b, .v dr, .v w, .v (.int s), .v (.int most), .own (.lst (ds.map PV.str)), .v p, s7] = .ret (.tup [.str (cat ds), .str (t.first (s % 16)).1, .int s]) := by
        unfold b_run_along_1
        simp [st, e1, i0, i1, -e_ixT, in_ends hk, ej]
      have ew : wk L m t s = ([], (t.first (s % 16)).1, s) := by
        cases m <;> (unfold wk; rw [hn])
      simp only [body, ew, List.append_nil]
    · cases m with
      | zero =>
        have hle : ((ds.length : Int) == (most : Int)) = true := by simp; omega
        have body : b_run_along_1 (gF n) [.v b, .v dr, .v w, .v (.int s), .v (.int most), .own (.lst (ds.map PV.str)), .v p, s7] = .ret (.tup [.str (cat ds), .str "more", .int s]) := by
          unfold b_run_along_1
          simp [st, e1, i0, i1, -e_ixT, deed_ends hk, ej, hle]
        have ew : wk L 0 t s = ([], ("more" : Str), s) := by unfold wk; rw [hn]
        simp only [body, ew, List.append_nil]
      | succ m =>
        have hle : ((ds.length : Int) == (most : Int)) = false := by simp; omega
        have ld := hw.ld (t.first (s % 16)).1 s hk
        have body : b_run_along_1 (gF n) [.v b, .v dr, .v w, .v (.int s), .v (.int most), .own (.lst (ds.map PV.str)), .v p, s7] = .nx [.v b, .v dr, .v w, .v (.int (L (t.first (s % 16)).1 s)), .v (.int most), .own (.lst ((ds ++ [(t.first (s % 16)).1]).map PV.str)), .v x, .v (.tup [.str (t.first (s % 16)).1, x])] := by
          unfold b_run_along_1
          simp [st, e1, i0, i1, -e_ixT, deed_ends hk, ej, hle, ld, hsz]
        have ih := along_loop n w L hw dr Rl hD b most hm m k x l (L (t.first (s % 16)).1 s) (ds ++ [(t.first (s % 16)).1]) (.v (.tup [.str (t.first (s % 16)).1, x])) (hx l hn) (fun d hd' => by
          rcases List.mem_append.mp hd' with q | q
          · exact hds d q
          · rw [List.mem_singleton.mp q]; exact hk) (by rw [List.length_append, List.length_singleton]; omega)
        have ew : wk L (m + 1) t s = ((t.first (s % 16)).1 :: (wk L m l (L (t.first (s % 16)).1 s)).1, (wk L m l (L (t.first (s % 16)).1 s)).2) := by
          conv => lhs; unfold wk
          rw [hn]
        simp only [body]
        rw [show m + 1 + k = m + 1 + k from rfl, ih, ew, List.append_assoc]
        rfl
theorem along_ok (n : Nat) (w : PV) (L : Str → Int → Int) (hw : Wld n w L) (dr : PV) (Rl : PV → St → Prop) (hD : Dor n dr Rl) (b : PV) (t : St) (hb : Rl b t) (s : Int) (m : Nat) (hm : m ≤ 9000) : gF (n + 1) 1 [b, dr, w, .int s, .int (m : Int)] = .ok (.tup [.str (cat (wk L m t s).1), .str (wk L m t s).2.1, .int (wk L m t s).2.2]) := by
  rw [g_run_along, runD_of rfl]
  show fin (d_run_along (gF n) [.v b, .v dr, .v w, .v (.int s), .v (.int (m : Int)), .no, .no, .no]) = _
  have ih := along_loop n w L hw dr Rl hD b m hm m (100000 - m - 1) b t s [] .no hb (fun d hd => by cases hd) (by simp)
  rw [show m + 1 + (100000 - m - 1) = 100000 by omega] at ih
  have ih : iterM (mOfT (dTr (dC (.bl true)))) (b_run_along_1 (gF n)) 100000 [.v b, .v dr, .v w, .v (.int s), .v (.int (m : Int)), .own (.lst []), .v b, .no] = some (.ret (.tup [.str (cat (wk L m t s).1), .str (wk L m t s).2.1, .int (wk L m t s).2.2])) := ih
  unfold d_run_along
  simp [ih]
/-! ### runs of programs -/
theorem dor_from (n : Nat) (t : St) (ho : t.ok) (hd : t.depth + 1 < n) : Dor (n + 1) (.clo 37 []) (fun p l => p = l.pv ∧ (l = t ∨ l ∈ t.ders)) := by
  refine ⟨fun p l s hr _ _ => ?_, fun p l hr => ?_⟩
  · obtain ⟨rfl, hl⟩ := hr
    have hok : l.ok := by rcases hl with rfl | q; exact ho; exact ders_okk t l ho q
    have hdl : l.depth < n := by rcases hl with rfl | q; omega; have := ders_depth t l q; omega
    refine ⟨opt (l.first s).2, ?_, fun l' e => ?_⟩
    · have a1 : appC tC (gF (n + 1)) (.clo 37 []) (.ok [l.pv, .int s]) = gF (n + 1) 37 [l.pv, .int s] := rfl
      rw [a1, g_run_from_n1, runE_of rfl]
      show d_run_from_n1 (gF n) [.v l.pv, .v (.int s)] = _
      unfold d_run_from_n1
      simp [first_ok l n s hok hdl]
    · rw [e]
      have lm := first_ders l s l' e
      refine ⟨rfl, .inr ?_⟩
      rcases hl with rfl | q
      · exact lm
      · exact ders_sub t l l' q lm
  · rcases hr.2 with rfl | q
    · exact ho
    · exact ders_okk t l ho q
theorem run_ok (n : Nat) (w : PV) (L : Str → Int → Int) (hw : Wld (n + 1) w L) (t : St) (s : Int) (m : Nat) (hm : m ≤ 9000) (ho : t.ok) (hd : t.depth + 1 < n) : gF (n + 3) 0 [t.pv, w, .int s, .int (m : Int)] = .ok (.tup [.str (cat (wk L m t s).1), .str (wk L m t s).2.1, .int (wk L m t s).2.2]) := by
  rw [g_run_from, runD_of rfl]
  show fin (d_run_from (gF (n + 2)) [.v t.pv, .v w, .v (.int s), .v (.int (m : Int))]) = _
  have e1 : gF (n + 2) 1 [t.pv, .clo 37 [], w, .int s, .int (m : Int)] = .ok (.tup [.str (cat (wk L m t s).1), .str (wk L m t s).2.1, .int (wk L m t s).2.2]) := along_ok (n + 1) w L hw _ _ (dor_from n t ho hd) t.pv t ⟨rfl, .inl rfl⟩ s m hm
  unfold d_run_from
  simp [e1]
/-! ### runs in rooms -/
def roomsP (t : St) : PV := .obj 13 [t.pv, rows (Dr t 0)]
theorem rooms_ok (n : Nat) (t : St) (ho : t.ok) (hd : 2 * t.depth + 2 ≤ n) (hl : t.ders.length ≤ 1000) : gF (n + 1) 36 [t.pv] = .ok (roomsP t) := by
  have e := doors_ok t n 0 ho hd hl
  have e0 : d_Rooms_init (gF n) [.ini 13 [], .v t.pv] = .nx [.ini 13 [t.pv, rows (Dr t 0)], .v t.pv] := by
    unfold d_Rooms_init
    simp [e]
  have e1 : runI 13 2 [false] 2 (d_Rooms_init (gF n)) [t.pv] = (match d_Rooms_init (gF n) [.ini 13 [], .v t.pv] with | .nx ps => (match ps[(0 : Nat)]? with | some (.ini k' fs) => if k' = 13 ∧ fs.length = 2 then .ok (.obj 13 fs) else .bad | _ => .bad) | .exc c => .exc c | _ => .bad) := rfl
  rw [g_Rooms_init, e1, e0]
  rfl
theorem Rm_ok (t : St) (ho : t.ok) {p : Int} {l : St} (h : Rm t p l) : l.ok := by
  rcases h with ⟨_, rfl⟩ | ⟨j, _, hj⟩
  · exact ho
  · exact ders_okk t l ho (List.mem_of_getElem? hj)
theorem dor_rooms (n : Nat) (t : St) (ho : t.ok) : Dor (n + 1) (.clo 40 [roomsP t]) (fun p l => ∃ i, p = .int i ∧ Rm t i l) := by
  refine ⟨fun p l s hr h0 h1 => ?_, fun p l hr => ?_⟩
  · obtain ⟨i, rfl, hr⟩ := hr
    obtain ⟨f, ef, hf⟩ := room_row t hr
    obtain ⟨g1, g2⟩ := hf s
    refine ⟨.int (f s).2, ?_, fun l' e => ?_⟩
    · have a1 : appC tC (gF (n + 1)) (.clo 40 [roomsP t]) (.ok [.int i, .int s]) = gF (n + 1) 40 [.int i, .int s, roomsP t] := rfl
      have fd : fldP a_doors (roomsP t) = .ok (rows (Dr t 0)) := rfl
      have e2 := rix f h0 h1
      rw [a1, g_Rooms_run_n1, runE_of rfl]
      show d_Rooms_run_n1 (gF n) [.v (.int i), .v (.int s), .v (roomsP t)] = _
      unfold d_Rooms_run_n1
      simp [fd, ef, e2, dpv, g1]
    · rcases g2 with ⟨z, _⟩ | ⟨l2, hr2, z⟩
      · rw [z] at e; cases e
      · rw [z] at e; cases e
        exact ⟨_, rfl, hr2⟩
  · obtain ⟨i, _, hr⟩ := hr
    exact Rm_ok t ho hr
theorem rrun_ok (n : Nat) (w : PV) (L : Str → Int → Int) (hw : Wld (n + 1) w L) (t : St) (s : Int) (m : Nat) (hm : m ≤ 9000) (ho : t.ok) : callM q_run (gF (n + 3)) (roomsP t) [w, .int s, .int (m : Int)] = .ok (.tup [.str (cat (wk L m t s).1), .str (wk L m t s).2.1, .int (wk L m t s).2.2]) := by
  have e0 : callM q_run (gF (n + 3)) (roomsP t) [w, .int s, .int (m : Int)] = runD [false, false, false, false] 4 (d_Rooms_run (gF (n + 2))) [roomsP t, w, .int s, .int (m : Int)] := rfl
  rw [e0, runD_of rfl]
  show fin (d_Rooms_run (gF (n + 2)) [.v (roomsP t), .v w, .v (.int s), .v (.int (m : Int))]) = _
  have e1 : gF (n + 2) 1 [.int 0, .clo 40 [roomsP t], w, .int s, .int (m : Int)] = .ok (.tup [.str (cat (wk L m t s).1), .str (wk L m t s).2.1, .int (wk L m t s).2.2]) := along_ok (n + 1) w L hw _ _ (dor_rooms n t ho) (.int 0) t ⟨0, rfl, .inl ⟨rfl, rfl⟩⟩ s m hm
  unfold d_Rooms_run
  simp [e1]
end M32
end
section
set_option Elab.async false
set_option linter.all false
set_option maxRecDepth 100000
set_option maxHeartbeats 4000000
namespace M32
open PySem L2 DN
/-! ### the law's own programs -/
def chr4 (i : Int) : Str := if i = 0 then "a" else if i = 1 then "b" else if i = 2 then "c" else "d"
theorem chr4_ok (i : Int) : Letter (chr4 i) := by
  unfold chr4
  split
  · exact .inl rfl
  · split
    · exact .inr (.inl rfl)
    · split
      · exact .inr (.inr (.inl rfl))
      · exact .inr (.inr (.inr rfl))
theorem abcd_chr {i : Int} (h0 : 0 ≤ i) (h1 : i < 4) : fIx (.str "abcd") (.int i) = .ok (.str (chr4 i)) := by
  have : i = 0 ∨ i = 1 ∨ i = 2 ∨ i = 3 := by omega
  rcases this with rfl | rfl | rfl | rfl <;> rfl
theorem at_named {i : Int} (h0 : 0 ≤ i) (h1 : i < 4) (s : Int) : (Tr.named (chr4 i)).at s = (Builtin.bitAnd (s / 2 ^ i.toNat) 1 == 1) := by
  have : i = 0 ∨ i = 1 ∨ i = 2 ∨ i = 3 := by omega
  rcases this with rfl | rfl | rfl | rfl <;> rfl
def sg (k i j : Int) : Tr := if k = 1 then .neg (.named (chr4 i)) else if k = 2 then .both (.named (chr4 i)) (.named (chr4 j)) else if k = 3 then .either (.named (chr4 i)) (.neg (.named (chr4 j))) else if k = 4 then .yes else if k = 5 then .both (.named (chr4 i)) (.neg (.named (chr4 j))) else .named (chr4 i)
def Bnd (k i j : Int) : Prop := (0 ≤ k ∧ k < 6) ∧ (0 ≤ i ∧ i < 4) ∧ (0 ≤ j ∧ j < 4)
theorem six {k : Int} (h : 0 ≤ k ∧ k < 6) : k = 0 ∨ k = 1 ∨ k = 2 ∨ k = 3 ∨ k = 4 ∨ k = 5 := by omega
theorem sg_ok {k i j : Int} (h : Bnd k i j) : (sg k i j).ok ∧ (sg k i j).depth ≤ 2 := by
  rcases six h.1 with rfl | rfl | rfl | rfl | rfl | rfl
  · exact ⟨chr4_ok i, by simp [sg, Tr.depth]⟩
  · exact ⟨chr4_ok i, by simp [sg, Tr.depth]⟩
  · exact ⟨⟨chr4_ok i, chr4_ok j⟩, by simp [sg, Tr.depth]⟩
  · exact ⟨⟨chr4_ok i, chr4_ok j⟩, by simp [sg, Tr.depth]⟩
  · exact ⟨True.intro, by simp [sg, Tr.depth]⟩
  · exact ⟨⟨chr4_ok i, chr4_ok j⟩, by simp [sg, Tr.depth]⟩
theorem sign_ok (n : Nat) {k i j : Int} (h : Bnd k i j) : gF (n + 1) 11 [.tup [.int k, .int i, .int j]] = .ok (sg k i j).pv := by
  rw [g_l_sign, runD_of rfl]
  have ei : inP [false] 6 [.tup [.int k, .int i, .int j]] = [.v (.tup [.int k, .int i, .int j]), .no, .no, .no, .no, .no] := rfl
  rw [ei]
  have ec := abcd_chr h.2.1.1 h.2.1.2
  have ec' := abcd_chr h.2.2.1 h.2.2.2
  unfold d_l_sign
  rcases six h.1 with rfl | rfl | rfl | rfl | rfl | rfl <;> (simp [ec, ec']; rfl)
theorem lholds_ok (n : Nat) {k i j : Int} (h : Bnd k i j) (s : Int) : gF (n + 1) 12 [.tup [.int k, .int i, .int j], .int s] = .ok (.bl ((sg k i j).at s)) := by
  rw [g_l_holds, runD_of rfl]
  have ei : inP [false, false] 7 [.tup [.int k, .int i, .int j], .int s] = [.v (.tup [.int k, .int i, .int j]), .v (.int s), .no, .no, .no, .no, .no] := rfl
  rw [ei]
  have a1 := at_named h.2.1.1 h.2.1.2 s
  have a2 := at_named h.2.2.1 h.2.2.2 s
  have h1 := h.2.1.1
  have h2 := h.2.2.1
  generalize hb1 : (Builtin.bitAnd (s / 2 ^ i.toNat) 1 == 1) = b1 at a1
  generalize hb2 : (Builtin.bitAnd (s / 2 ^ j.toNat) 1 == 1) = b2 at a2
  unfold d_l_holds
  have t0 : (sg 0 i j).at s = b1 := a1
  have t1 : (sg 1 i j).at s = !b1 := by rw [← a1]; rfl
  have t2 : (sg 2 i j).at s = (b1 && b2) := by rw [← a1, ← a2]; rfl
  have t3 : (sg 3 i j).at s = (b1 || !b2) := by rw [← a1, ← a2]; rfl
  have t4 : (sg 4 i j).at s = true := rfl
  have t5 : (sg 5 i j).at s = (b1 && !b2) := by rw [← a1, ← a2]; rfl
  have fin6 : ∀ x0 x1 x2 x3 x4 x5 : PV, fIx (.lst [x0, x1, x2, x3, x4, x5]) (.int 0) = .ok x0 ∧ fIx (.lst [x0, x1, x2, x3, x4, x5]) (.int 1) = .ok x1 ∧ fIx (.lst [x0, x1, x2, x3, x4, x5]) (.int 2) = .ok x2 ∧ fIx (.lst [x0, x1, x2, x3, x4, x5]) (.int 3) = .ok x3 ∧ fIx (.lst [x0, x1, x2, x3, x4, x5]) (.int 4) = .ok x4 ∧ fIx (.lst [x0, x1, x2, x3, x4, x5]) (.int 5) = .ok x5 := fun _ _ _ _ _ _ => ⟨rfl, rfl, rfl, rfl, rfl, rfl⟩
  rcases six h.1 with rfl | rfl | rfl | rfl | rfl | rfl <;> cases b1 <;> cases b2 <;> simp [h1, h2, hb1, hb2, t0, t1, t2, t3, t4, t5, fin6, -e_ixL]
inductive Lp where
  | skip | stop | deed (c : Str) | row (a b : Lp) | choice (k i j : Int) (a b : Lp) | loop (k i j : Int) (a : Lp)
def Lp.pv : Lp → PV
  | .skip => .tup [.str "skip"] | .stop => .tup [.str "stop"] | .deed c => .tup [.str "deed", .str c] | .row a b => .tup [.str "row", a.pv, b.pv]
  | .choice k i j a b => .tup [.str "choice", .tup [.int k, .int i, .int j], a.pv, b.pv] | .loop k i j a => .tup [.str "loop", .tup [.int k, .int i, .int j], a.pv]
def Lp.st : Lp → St
  | .skip => .skip | .stop => .stop | .deed c => .deed c | .row a b => .row a.st b.st | .choice k i j a b => .choice (sg k i j) a.st b.st | .loop k i j a => .loop (sg k i j) a.st
def Lp.ok : Lp → Prop
  | .skip => True | .stop => True | .deed c => DeedL c | .row a b => a.ok ∧ b.ok | .choice k i j a b => Bnd k i j ∧ a.ok ∧ b.ok | .loop k i j a => Bnd k i j ∧ a.ok
theorem Lp.stok : ∀ p : Lp, p.ok → p.st.ok
  | .skip, _ => True.intro
  | .stop, _ => True.intro
  | .deed c, h => h
  | .row a b, h => ⟨a.stok h.1, b.stok h.2⟩
  | .choice k i j a b, h => ⟨(sg_ok h.1).1, a.stok h.2.1, b.stok h.2.2⟩
  | .loop k i j a, h => ⟨(sg_ok h.1).1, a.stok h.2⟩
def Lp.first : Lp → Int → Str × Option Lp
  | .skip, _ => ("done", none)
  | .stop, _ => ("stopped", none)
  | .deed c, _ => (c, some .skip)
  | .row h t, s => if (h.first s).1 = "done" then t.first s else ((h.first s).1, (h.first s).2.map fun l => .row l t)
  | .choice k i j y n, s => if (sg k i j).at s = true then y.first s else n.first s
  | .loop k i j b, s => if (sg k i j).at s = true then (if (b.first s).1 = "done" then ("hung", none) else ((b.first s).1, (b.first s).2.map fun l => .row l (.loop k i j b))) else ("done", none)
theorem Lp.first_st : ∀ (p : Lp) (s : Int), (p.st.first s).1 = (p.first s).1 ∧ (p.st.first s).2 = (p.first s).2.map Lp.st
  | .skip, s => ⟨rfl, rfl⟩
  | .stop, s => ⟨rfl, rfl⟩
  | .deed c, s => ⟨rfl, rfl⟩
  | .row a b, s => by
    obtain ⟨h1, h2⟩ := a.first_st s
    obtain ⟨h3, h4⟩ := b.first_st s
    show ((St.row a.st b.st).first s).1 = _ ∧ ((St.row a.st b.st).first s).2 = _
    unfold St.first Lp.first
    rw [h1]
    by_cases hd : (a.first s).1 = "done"
    · rw [if_pos hd, if_pos hd]; exact ⟨h3, h4⟩
    · rw [if_neg hd, if_neg hd, h2]
      refine ⟨rfl, ?_⟩
      cases (a.first s).2 <;> rfl
  | .choice k i j a b, s => by
    obtain ⟨h1, h2⟩ := a.first_st s
    obtain ⟨h3, h4⟩ := b.first_st s
    show ((St.choice (sg k i j) a.st b.st).first s).1 = _ ∧ ((St.choice (sg k i j) a.st b.st).first s).2 = _
    unfold St.first Lp.first
    by_cases hd : (sg k i j).at s = true
    · rw [if_pos hd, if_pos hd]; exact ⟨h1, h2⟩
    · rw [if_neg hd, if_neg hd]; exact ⟨h3, h4⟩
  | .loop k i j b, s => by
    obtain ⟨h1, h2⟩ := b.first_st s
    show ((St.loop (sg k i j) b.st).first s).1 = _ ∧ ((St.loop (sg k i j) b.st).first s).2 = _
    unfold St.first Lp.first
    by_cases hg : (sg k i j).at s = true
    · rw [if_pos hg, if_pos hg, h1]
      by_cases hd : (b.first s).1 = "done"
      · rw [if_pos hd, if_pos hd]; exact ⟨rfl, rfl⟩
      · rw [if_neg hd, if_neg hd, h2]
        refine ⟨rfl, ?_⟩
        cases (b.first s).2 <;> rfl
    · rw [if_neg hg, if_neg hg]; exact ⟨rfl, rfl⟩
theorem Lp.first_ok : ∀ (p l : Lp) (s : Int), p.ok → (p.first s).2 = some l → l.ok
  | .skip, l, s, _, h => by cases h
  | .stop, l, s, _, h => by cases h
  | .deed c, l, s, _, h => by cases h; exact True.intro
  | .row a t, l, s, ho, h => by
    unfold Lp.first at h
    split at h
    · exact t.first_ok l s ho.2 h
    · cases e : (a.first s).2 with
      | none => rw [e] at h; cases h
      | some k => rw [e] at h; cases h; exact ⟨a.first_ok k s ho.1 e, ho.2⟩
  | .choice k i j y n, l, s, ho, h => by
    unfold Lp.first at h
    split at h
    · exact y.first_ok l s ho.2.1 h
    · exact n.first_ok l s ho.2.2 h
  | .loop k i j b, l, s, ho, h => by
    unfold Lp.first at h
    split at h
    · split at h
      · cases h
      · cases e : (b.first s).2 with
        | none => rw [e] at h; cases h
        | some k => rw [e] at h; cases h; exact ⟨b.first_ok k s ho.2 e, ho⟩
    · cases h
/-! ### the law's defs over its programs -/
theorem tg {x y : Str} (h : x ≠ y) : (x == y) = false := by simpa using h
theorem lbuilt_ok : ∀ (p : Lp) (n : Nat), p.ok → p.st.depth < n → gF n 16 [p.pv] = .ok p.st.pv
  | .skip, n + 1, _, _ => rfl
  | .stop, n + 1, _, _ => rfl
  | .deed c, n + 1, _, _ => rfl
  | .row a b, n + 1, ho, hd => by
    have hd : max a.st.depth b.st.depth + 1 < n + 1 := hd
    have i1 := lbuilt_ok a n ho.1 (by omega)
    have i2 := lbuilt_ok b n ho.2 (by omega)
    rw [g_l_built, runD_of rfl]
    show fin (d_l_built (gF n) [.v (.tup [.str "row", a.pv, b.pv])]) = _
    have j0 : fIx (.tup [.str "row", a.pv, b.pv]) (.int 0) = .ok (.str "row") := rfl
    have j1 : fIx (.tup [.str "row", a.pv, b.pv]) (.int 1) = .ok a.pv := rfl
    have j2 : fIx (.tup [.str "row", a.pv, b.pv]) (.int 2) = .ok b.pv := rfl
    have b1 : (("row" : Str) == "deed") = false := by decide +kernel
    unfold d_l_built
    simp [j0, j1, j2, -e_ixT, b1, i1, i2, Lp.st, St.pv]
  | .choice k i j a b, n + 1, ho, hd => by
    have hd : max (sg k i j).depth (max a.st.depth b.st.depth) + 1 < n + 1 := hd
    have i1 := lbuilt_ok a n ho.2.1 (by omega)
    have i2 := lbuilt_ok b n ho.2.2 (by omega)
    obtain ⟨m, rfl⟩ : ∃ m, n = m + 1 := ⟨n - 1, by omega⟩
    have i0 := sign_ok m ho.1
    rw [g_l_built, runD_of rfl]
    show fin (d_l_built (gF (m + 1)) [.v (.tup [.str "choice", .tup [.int k, .int i, .int j], a.pv, b.pv])]) = _
    have j0 : fIx (.tup [.str "choice", .tup [.int k, .int i, .int j], a.pv, b.pv]) (.int 0) = .ok (.str "choice") := rfl
    have j1 : fIx (.tup [.str "choice", .tup [.int k, .int i, .int j], a.pv, b.pv]) (.int 1) = .ok (.tup [.int k, .int i, .int j]) := rfl
    have j2 : fIx (.tup [.str "choice", .tup [.int k, .int i, .int j], a.pv, b.pv]) (.int 2) = .ok a.pv := rfl
    have j3 : fIx (.tup [.str "choice", .tup [.int k, .int i, .int j], a.pv, b.pv]) (.int 3) = .ok b.pv := rfl
    have b1 : (("choice" : Str) == "deed") = false := by decide +kernel
    have b2 : (("choice" : Str) == "row") = false := by decide +kernel
    unfold d_l_built
    simp [j0, j1, j2, j3, -e_ixT, b1, b2, i0, i1, i2, Lp.st, St.pv]
  | .loop k i j a, n + 1, ho, hd => by
    have hd : max (sg k i j).depth a.st.depth + 1 < n + 1 := hd
    have i1 := lbuilt_ok a n ho.2 (by omega)
    obtain ⟨m, rfl⟩ : ∃ m, n = m + 1 := ⟨n - 1, by omega⟩
    have i0 := sign_ok m ho.1
    rw [g_l_built, runD_of rfl]
    show fin (d_l_built (gF (m + 1)) [.v (.tup [.str "loop", .tup [.int k, .int i, .int j], a.pv])]) = _
    have j0 : fIx (.tup [.str "loop", .tup [.int k, .int i, .int j], a.pv]) (.int 0) = .ok (.str "loop") := rfl
    have j1 : fIx (.tup [.str "loop", .tup [.int k, .int i, .int j], a.pv]) (.int 1) = .ok (.tup [.int k, .int i, .int j]) := rfl
    have j2 : fIx (.tup [.str "loop", .tup [.int k, .int i, .int j], a.pv]) (.int 2) = .ok a.pv := rfl
    have b1 : (("loop" : Str) == "deed") = false := by decide +kernel
    have b2 : (("loop" : Str) == "row") = false := by decide +kernel
    have b3 : (("loop" : Str) == "choice") = false := by decide +kernel
    unfold d_l_built
    simp [j0, j1, j2, -e_ixT, b1, b2, b3, i0, i1, Lp.st, St.pv]
def optL : Option Lp → PV
  | none => .non
  | some t => t.pv
theorem isN_lp (l : Lp) : isN l.pv = false := by cases l <;> rfl
theorem lfirst_ok : ∀ (p : Lp) (n : Nat) (s : Int), p.ok → p.st.depth < n → gF n 17 [p.pv, .int s] = .ok (.tup [.str (p.first s).1, optL (p.first s).2])
  | .skip, n + 1, s, _, _ => rfl
  | .stop, n + 1, s, _, _ => rfl
  | .deed c, n + 1, s, _, _ => rfl
  | .row a b, n + 1, s, ho, hd => by
    have hd : max a.st.depth b.st.depth + 1 < n + 1 := hd
    have i1 := lfirst_ok a n s ho.1 (by omega)
    have i2 := lfirst_ok b n s ho.2 (by omega)
    rw [g_l_first, runD_of rfl]
    show fin (d_l_first (gF n) [.v (.tup [.str "row", a.pv, b.pv]), .v (.int s), .no, .no]) = _
    have j0 : fIx (.tup [.str "row", a.pv, b.pv]) (.int 0) = .ok (.str "row") := rfl
    have j1 : fIx (.tup [.str "row", a.pv, b.pv]) (.int 1) = .ok a.pv := rfl
    have j2 : fIx (.tup [.str "row", a.pv, b.pv]) (.int 2) = .ok b.pv := rfl
    have b1 : (("row" : Str) == "deed") = false := by decide +kernel
    have b2 : (("row" : Str) == "choice") = false := by decide +kernel
    unfold d_l_first Lp.first
    by_cases hdn : (a.first s).1 = "done"
    · have hb : ((a.first s).1 == "done") = true := by simpa using hdn
      simp [j0, j1, j2, -e_ixT, b1, b2, i1, i2, hb, hdn]
    · have hb : ((a.first s).1 == "done") = false := by simpa using hdn
      rcases hk : (a.first s).2 with _ | l
      · rw [hk] at i1
        simp [j0, j1, j2, -e_ixT, b1, b2, i1, i2, hb, hdn, isN, optL]
      · rw [hk] at i1
        have hn := isN_lp l
        simp [j0, j1, j2, -e_ixT, b1, b2, i1, i2, hb, hdn, hn, optL, Lp.pv]
  | .choice k i j a b, n + 1, s, ho, hd => by
    have hd : max (sg k i j).depth (max a.st.depth b.st.depth) + 1 < n + 1 := hd
    have i1 := lfirst_ok a n s ho.2.1 (by omega)
    have i2 := lfirst_ok b n s ho.2.2 (by omega)
    obtain ⟨m, rfl⟩ : ∃ m, n = m + 1 := ⟨n - 1, by omega⟩
    have i0 := lholds_ok m ho.1 s
    rw [g_l_first, runD_of rfl]
    show fin (d_l_first (gF (m + 1)) [.v (.tup [.str "choice", .tup [.int k, .int i, .int j], a.pv, b.pv]), .v (.int s), .no, .no]) = _
    have j0 : fIx (.tup [.str "choice", .tup [.int k, .int i, .int j], a.pv, b.pv]) (.int 0) = .ok (.str "choice") := rfl
    have j1 : fIx (.tup [.str "choice", .tup [.int k, .int i, .int j], a.pv, b.pv]) (.int 1) = .ok (.tup [.int k, .int i, .int j]) := rfl
    have j2 : fIx (.tup [.str "choice", .tup [.int k, .int i, .int j], a.pv, b.pv]) (.int 2) = .ok a.pv := rfl
    have j3 : fIx (.tup [.str "choice", .tup [.int k, .int i, .int j], a.pv, b.pv]) (.int 3) = .ok b.pv := rfl
    have b1 : (("choice" : Str) == "deed") = false := by decide +kernel
    unfold d_l_first Lp.first
    cases hg : (sg k i j).at s
    · rw [hg] at i0
      have c1 : bInt [.bl true] = .ok (.int 1) := rfl
      simp [j0, j1, j2, j3, -e_ixT, b1, i0, i1, i2, c1]
    · rw [hg] at i0
      have c1 : bInt [.bl false] = .ok (.int 0) := rfl
      simp [j0, j1, j2, j3, -e_ixT, b1, i0, i1, i2, c1]
  | .loop k i j a, n + 1, s, ho, hd => by
    have hd : max (sg k i j).depth a.st.depth + 1 < n + 1 := hd
    have i1 := lfirst_ok a n s ho.2 (by omega)
    obtain ⟨m, rfl⟩ : ∃ m, n = m + 1 := ⟨n - 1, by omega⟩
    have i0 := lholds_ok m ho.1 s
    rw [g_l_first, runD_of rfl]
    show fin (d_l_first (gF (m + 1)) [.v (.tup [.str "loop", .tup [.int k, .int i, .int j], a.pv]), .v (.int s), .no, .no]) = _
    have j0 : fIx (.tup [.str "loop", .tup [.int k, .int i, .int j], a.pv]) (.int 0) = .ok (.str "loop") := rfl
    have j1 : fIx (.tup [.str "loop", .tup [.int k, .int i, .int j], a.pv]) (.int 1) = .ok (.tup [.int k, .int i, .int j]) := rfl
    have j2 : fIx (.tup [.str "loop", .tup [.int k, .int i, .int j], a.pv]) (.int 2) = .ok a.pv := rfl
    have b1 : (("loop" : Str) == "deed") = false := by decide +kernel
    have b2 : (("loop" : Str) == "choice") = false := by decide +kernel
    have b3 : (("loop" : Str) == "row") = false := by decide +kernel
    have b4 : (("loop" : Str) == "stop") = false := by decide +kernel
    unfold d_l_first Lp.first
    cases hg : (sg k i j).at s
    · rw [hg] at i0
      simp [j0, j1, j2, -e_ixT, b1, b2, b3, b4, i0, optL]
    · rw [hg] at i0
      by_cases hdn : (a.first s).1 = "done"
      · have hb : ((a.first s).1 == "done") = true := by simpa using hdn
        simp [j0, j1, j2, -e_ixT, b1, b2, b3, i0, i1, hb, hdn, optL]
      · have hb : ((a.first s).1 == "done") = false := by simpa using hdn
        rcases hk : (a.first s).2 with _ | l
        · rw [hk] at i1
          simp [j0, j1, j2, -e_ixT, b1, b2, b3, i0, i1, hb, hdn, isN, optL]
        · rw [hk] at i1
          have hn := isN_lp l
          simp [j0, j1, j2, -e_ixT, b1, b2, b3, i0, i1, hb, hdn, hn, optL, Lp.pv]
/-! drawn -/
theorem draw_ok (n : Nat) (z k : Int) (h0 : 0 ≤ k) (h1 : k ≤ 1000000) : ∃ y, gF (n + 1) 10 [.int z, .int k] = .ok (.int y) ∧ 0 ≤ y := by
  rw [g_l_draw, runD_of rfl]
  have ei : inP [false, false] 3 [.int z, .int k] = [.v (.int z), .v (.int k), .no] := rfl
  rw [ei]
  unfold d_l_draw
  have a1 : ((z + 7919 * k + 1) * 48271 % 2147483647) < 2147483647 := by omega
  have a2 : 0 ≤ ((z + 7919 * k + 1) * 48271 % 2147483647) := by omega
  generalize hw : ((z + 7919 * k + 1) * 48271 % 2147483647) = w at a1 a2
  refine ⟨w * (w / 1009 + 69621) % 2147483647, ?_, by omega⟩
  have b1 : (-18446744073709551616 < w ∧ w < 18446744073709551616) := by omega
  simp [hw, b1]
theorem ltest_ok (n : Nat) (z : Int) : gF (n + 1) 13 [.int z] = .ok (.tup [.int (z % 6), .int (z / 6 % 4), .int (z / 24 % 4)]) := by
  rw [g_l_test, runD_of rfl]
  have ei : inP [false] 1 [.int z] = [.v (.int z)] := rfl
  rw [ei]
  unfold d_l_test
  simp
theorem deed_at {j : Int} (h0 : 0 ≤ j) (h1 : j < 5) : ∃ c, fIx (.str "PQRST") (.int j) = .ok (.str c) ∧ DeedL c := by
  have : j = 0 ∨ j = 1 ∨ j = 2 ∨ j = 3 ∨ j = 4 := by omega
  rcases this with rfl | rfl | rfl | rfl | rfl
  · exact ⟨"P", rfl, .inl rfl⟩
  · exact ⟨"Q", rfl, .inr (.inl rfl)⟩
  · exact ⟨"R", rfl, .inr (.inr (.inl rfl))⟩
  · exact ⟨"S", rfl, .inr (.inr (.inr (.inl rfl)))⟩
  · exact ⟨"T", rfl, .inr (.inr (.inr (.inr rfl)))⟩
theorem lgrown_ok (n : Nat) (p : Lp) (z : Int) (ho : p.ok) : ∃ q : Lp, gF (n + 2) 14 [p.pv, .int z] = .ok q.pv ∧ q.ok ∧ q.st.depth ≤ max 3 p.st.depth + 1 ∧ q.st.ders.length ≤ p.st.ders.length + 1 := by
  rw [g_l_grown, runD_of rfl]
  have ei : inP [false, false] 5 [p.pv, .int z] = [.v p.pv, .v (.int z), .no, .no, .no] := rfl
  rw [ei]
  obtain ⟨y0, e0, h0⟩ := draw_ok n z 0 (by decide) (by decide)
  obtain ⟨y1, e1, h1⟩ := draw_ok n z 1 (by decide) (by decide)
  obtain ⟨y2, e2, h2⟩ := draw_ok n z 2 (by decide) (by decide)
  obtain ⟨c, ec, hc⟩ := deed_at (j := y1 % 5) (by omega) (by omega)
  have et := ltest_ok n y2
  have hB : Bnd (y2 % 6) (y2 / 6 % 4) (y2 / 24 % 4) := ⟨by omega, by omega, by omega⟩
  generalize y2 % 6 = k at et hB
  generalize y2 / 6 % 4 = i at et hB
  generalize y2 / 24 % 4 = j at et hB
  obtain ⟨so, sd⟩ := sg_ok hB
  have hw : y0 % 8 = 0 ∨ y0 % 8 = 1 ∨ y0 % 8 = 2 ∨ y0 % 8 = 3 ∨ y0 % 8 = 4 ∨ y0 % 8 = 5 ∨ y0 % 8 = 6 ∨ y0 % 8 = 7 := by omega
  unfold d_l_grown
  rcases hw with hw | hw | hw | hw | hw | hw | hw | hw
  · exact ⟨.row p (.deed c), by simp [e0, e1, e2, ec, et, hw, Lp.pv], ⟨ho, hc⟩, by show max p.st.depth 0 + 1 ≤ _; omega, by simp [Lp.st, St.ders]⟩
  · exact ⟨.row (.deed c) p, by simp [e0, e1, e2, ec, et, hw, Lp.pv], ⟨hc, ho⟩, by show max 0 p.st.depth + 1 ≤ _; omega, by simp [Lp.st, St.ders]; try omega⟩
  · exact ⟨.loop k i j p, by simp [e0, e1, e2, ec, et, hw, Lp.pv], ⟨hB, ho⟩, by show max (sg k i j).depth p.st.depth + 1 ≤ _; omega, by simp [Lp.st, St.ders]⟩
  · exact ⟨.choice k i j p (.deed c), by simp [e0, e1, e2, ec, et, hw, Lp.pv], ⟨hB, ho, hc⟩, by show max (sg k i j).depth (max p.st.depth 0) + 1 ≤ _; omega, by simp [Lp.st, St.ders]⟩
  · exact ⟨.choice k i j (.deed c) p, by simp [e0, e1, e2, ec, et, hw, Lp.pv], ⟨hB, hc, ho⟩, by show max (sg k i j).depth (max 0 p.st.depth) + 1 ≤ _; omega, by simp [Lp.st, St.ders]; try omega⟩
  · exact ⟨.row p (.choice k i j .stop .skip), by simp [e0, e1, e2, ec, et, hw, Lp.pv], ⟨ho, hB, True.intro, True.intro⟩, by show max p.st.depth (max (sg k i j).depth (max 0 0) + 1) + 1 ≤ _; omega, by simp [Lp.st, St.ders]⟩
  · exact ⟨.row (.loop k i j (.deed c)) p, by simp [e0, e1, e2, ec, et, hw, Lp.pv], ⟨⟨hB, hc⟩, ho⟩, by show max (max (sg k i j).depth 0 + 1) p.st.depth + 1 ≤ _; omega, by simp [Lp.st, St.ders]; try omega⟩
  · exact ⟨.choice k i j .skip p, by simp [e0, e1, e2, ec, et, hw, Lp.pv], ⟨hB, True.intro, ho⟩, by show max (sg k i j).depth (max 0 p.st.depth) + 1 ≤ _; omega, by simp [Lp.st, St.ders]⟩
theorem lprog_loop (n : Nat) (s0 s1 : Sl) : ∀ (zs : List Int) (p : Lp) (s3 : Sl), p.ok → ∃ q : Lp, fin ((forD (gSet 3) (b_l_prog_1 (gF (n + 2))) (zs.map PV.int) [s0, s1, .v p.pv, s3]).next (sRet (dVar 2))) = .ok q.pv ∧ q.ok ∧ q.st.depth ≤ max 3 p.st.depth + zs.length ∧ q.st.ders.length ≤ p.st.ders.length + zs.length
  | [], p, s3, ho => ⟨p, rfl, ho, by simp; omega, by simp⟩
  | z :: zs, p, s3, ho => by
    obtain ⟨q, eq, oq, dq, lq⟩ := lgrown_ok n p z ho
    obtain ⟨r, er, or', dr, lr⟩ := lprog_loop n s0 s1 zs q (.v (.int z)) oq
    refine ⟨r, ?_, or', by simp; omega, by simp; omega⟩
    have eg : gSet 3 (PV.int z) [s0, s1, .v p.pv, s3] = .ok [s0, s1, .v p.pv, .v (.int z)] := rfl
    have body : b_l_prog_1 (gF (n + 2)) [s0, s1, .v p.pv, .v (.int z)] = .nx [s0, s1, .v q.pv, .v (.int z)] := by
      unfold b_l_prog_1
      simp [eq]
    rw [List.map_cons, forD, eg, ok_st, body]
    exact er
theorem lprog_ok (n : Nat) (z : Int) (zs : List Int) : ∃ q : Lp, gF (n + 3) 15 [.int z, .lst (zs.map PV.int)] = .ok q.pv ∧ q.ok ∧ q.st.depth ≤ 3 + zs.length ∧ q.st.ders.length ≤ 1 + zs.length := by
  rw [g_l_prog, runD_of rfl]
  show ∃ q : Lp, fin (d_l_prog (gF (n + 2)) [.v (.int z), .v (.lst (zs.map PV.int)), .no, .no]) = .ok q.pv ∧ _
  obtain ⟨c, ec, hc⟩ := deed_at (j := z / 4 % 5) (by omega) (by omega)
  have ix : ∀ x0 x1 x2 x3 : PV, fIx (.lst [x0, x1, x2, x3]) (.int 0) = .ok x0 ∧ fIx (.lst [x0, x1, x2, x3]) (.int 1) = .ok x1 ∧ fIx (.lst [x0, x1, x2, x3]) (.int 2) = .ok x2 ∧ fIx (.lst [x0, x1, x2, x3]) (.int 3) = .ok x3 := fun _ _ _ _ => ⟨rfl, rfl, rfl, rfl⟩
  have go : ∀ p : Lp, p.ok → p.st.depth = 0 → p.st.ders.length ≤ 1 → (d2 fIx (dOfN (dCons (dTup (dCons (dC (.str "deed")) (dCons (d2 fIx (dC (.str "PQRST")) (d2 fMod (d2 fDiv (dSee 0) (dC (.int 4))) (dC (.int 5)))) dNil))) (dCons (dTup (dCons (dC (.str "skip")) dNil)) (dCons (dTup (dCons (dC (.str "stop")) dNil)) (dCons (dTup (dCons (dC (.str "deed")) (dCons (dC (.str "P")) dNil))) dNil))))) (d2 fMod (dSee 0) (dC (.int 4)))) [.v (.int z), .v (.lst (zs.map PV.int)), .no, .no] = .ok p.pv →
      ∃ q : Lp, fin (d_l_prog (gF (n + 2)) [.v (.int z), .v (.lst (zs.map PV.int)), .no, .no]) = .ok q.pv ∧ q.ok ∧ q.st.depth ≤ 3 + zs.length ∧ q.st.ders.length ≤ 1 + zs.length := fun p ho hd hl e => by
    obtain ⟨q, eq, oq, dq, lq⟩ := lprog_loop n (.v (.int z)) (.v (.lst (zs.map PV.int))) zs p .no ho
    refine ⟨q, ?_, oq, by omega, by omega⟩
    unfold d_l_prog
    rw [e_seq, e_set, e, ok_st]
    exact eq
  have hz : z % 4 = 0 ∨ z % 4 = 1 ∨ z % 4 = 2 ∨ z % 4 = 3 := by omega
  rcases hz with hz | hz | hz | hz
  · exact go (.deed c) hc rfl (by simp [Lp.st, St.ders]) (by simp [ec, hz, ix, -e_ixL, Lp.pv])
  · exact go .skip True.intro rfl (by simp [Lp.st, St.ders]) (by simp [ec, hz, ix, -e_ixL, Lp.pv])
  · exact go .stop True.intro rfl (by simp [Lp.st, St.ders]) (by simp [ec, hz, ix, -e_ixL, Lp.pv])
  · exact go (.deed "P") (.inl rfl) rfl (by simp [Lp.st, St.ders]) (by simp [ec, hz, ix, -e_ixL, Lp.pv])
end M32
end
section
set_option Elab.async false
set_option linter.all false
set_option maxRecDepth 100000
set_option maxHeartbeats 4000000
namespace M32
open PySem L2 DN
/-! ### the law's world and its own run -/
def ledO (os : List Int) (d : Str) (s : Int) : Int := s / 16 + (os[(findS "PQRST" d).toNat]?).getD 0
theorem ixD {d : Str} (hd : DeedL d) : fIndexS (.str "PQRST") (.str d) = .ok (.int (findS "PQRST" d)) ∧ 0 ≤ findS "PQRST" d ∧ findS "PQRST" d < 5 := by
  have h5 : 0 ≤ findS "PQRST" d ∧ findS "PQRST" d < 5 := by
    rcases hd with rfl | rfl | rfl | rfl | rfl <;> exact ⟨by decide +kernel, by decide +kernel⟩
  have g : goodSep d = true := by rcases hd with rfl | rfl | rfl | rfl | rfl <;> decide +kernel
  refine ⟨?_, h5⟩
  show (if goodSep d = true then (if 0 ≤ findS "PQRST" d then Rx.ok (PV.int (findS "PQRST" d)) else .bad) else .bad) = _
  rw [if_pos g, if_pos h5.1]
theorem lled_ok (n : Nat) (os : List Int) (ho : os.length = 5) (d : Str) (s : Int) (hd : DeedL d) : gF (n + 1) 18 [.lst (os.map PV.int), .str d, .int s] = .ok (.int (ledO os d s)) := by
  obtain ⟨e1, h0, h5⟩ := ixD hd
  rw [g_l_led, runD_of rfl]
  show fin (d_l_led (gF n) [.v (.lst (os.map PV.int)), .v (.str d), .v (.int s)]) = _
  unfold ledO
  generalize findS "PQRST" d = k at e1 h0 h5
  have ha : atI (os.map PV.int) k = some (PV.int ((os[k.toNat]?).getD 0)) := by
    have hk : k = ((k.toNat : Nat) : Int) := by omega
    have hl : k.toNat < os.length := by omega
    rw [hk, Int.toNat_natCast]
    exact atI_nat (by rw [List.getElem?_map, List.getElem?_eq_getElem hl]; rfl)
  unfold d_l_led
  simp [e1, ha]
def Wo (os : List Int) : PV := .obj 14 [.clo 38 [], .clo 39 [.lst (os.map PV.int)]]
theorem wld_Wo (n : Nat) (os : List Int) (ho : os.length = 5) : Wld (n + 3) (Wo os) (ledO os) := by
  refine ⟨fun s => ?_, fun d s hd => ?_⟩
  · have e0 : callM q_setting (gF (n + 3)) (Wo os) [.int s] = runD [false, false] 2 (d_World_setting (gF (n + 2))) [Wo os, .int s] := rfl
    rw [e0, runD_of rfl]
    show fin (d_World_setting (gF (n + 2)) [.v (Wo os), .v (.int s)]) = _
    have e1 : gF (n + 2) 38 [.int s] = .ok (.int (s % 16)) := by
      rw [g_law_n1, runE_of rfl]
      show d_law_n1 (gF (n + 1)) [.v (.int s)] = _
      unfold d_law_n1
      simp
    have f1 : fldP a_says (Wo os) = .ok (.clo 38 []) := rfl
    have a1 : appC tC (gF (n + 2)) (.clo 38 []) (.ok [.int s]) = gF (n + 2) 38 [.int s] := rfl
    unfold d_World_setting
    simp [f1, a1, e1]
  · have e0 : callM q_led (gF (n + 3)) (Wo os) [.str d, .int s] = runD [false, false, false] 3 (d_World_led (gF (n + 2))) [Wo os, .str d, .int s] := rfl
    rw [e0, runD_of rfl]
    show fin (d_World_led (gF (n + 2)) [.v (Wo os), .v (.str d), .v (.int s)]) = _
    have e2 := lled_ok n os ho d s hd
    have e1 : gF (n + 2) 39 [.str d, .int s, .lst (os.map PV.int)] = .ok (.int (ledO os d s)) := by
      rw [g_law_n2, runE_of rfl]
      show d_law_n2 (gF (n + 1)) [.v (.str d), .v (.int s), .v (.lst (os.map PV.int))] = _
      unfold d_law_n2
      simp [e2]
    have f1 : fldP a_leads (Wo os) = .ok (.clo 39 [.lst (os.map PV.int)]) := rfl
    have a1 : appC tC (gF (n + 2)) (.clo 39 [.lst (os.map PV.int)]) (.ok [.str d, .int s]) = gF (n + 2) 39 [.str d, .int s, .lst (os.map PV.int)] := rfl
    unfold d_World_led
    simp [f1, a1, e1]
theorem cat_snoc (ds : List Str) (d : Str) : cat (ds ++ [d]) = cat ds ++ d := by
  rw [cat_app]
  show cat ds ++ (d ++ ("" : Str)) = _
  rw [cat_nil]
theorem blen_cat (ds : List Str) (hl : ds.length ≤ 10000) (hd : ∀ d ∈ ds, DeedL d) : bLen [.str (cat ds)] = .ok (.int (ds.length : Int)) := by
  show (if (cat ds).length ≤ sizeLine then Rx.ok (PV.int ((cat ds).length : Int)) else .bad) = _
  rw [cat_len ds hd, if_pos (by show ds.length ≤ 16777216; omega)]
theorem lrun_loop (n : Nat) (os : List Int) (ho : os.length = 5) (p0 : PV) (most : Nat) (hm : most ≤ 1000) : ∀ (m k : Nat) (q : Lp) (s : Int) (ds : List Str), q.ok → q.st.depth < n + 1 → (∀ l ∈ q.st.ders, l.depth < n + 1) → (∀ d ∈ ds, DeedL d) → ds.length + m = most →
    fin (((iterM (mOfT (dTr (dNotN (dSee 6)))) (b_l_run_1 (gF (n + 1))) (m + 1 + k) [.v p0, .v (.lst (os.map PV.int)), .v (.int s), .v (.int most), .v (.str (cat ds)), .v (.str (q.first (s % 16)).1), .v (optL (q.first (s % 16)).2)]).getD .bad).next (sRet (dTup (dCons (dVar 4) (dCons (dVar 5) (dCons (dVar 2) dNil)))))) = .ok (.tup [.str (cat (ds ++ (wk (ledO os) m q.st s).1)), .str (wk (ledO os) m q.st s).2.1, .int (wk (ledO os) m q.st s).2.2])
  | m, k, q, s, ds, oq, dq, hders, hds, hl => by
    obtain ⟨f1, f2⟩ := q.first_st (s % 16)
    have hb := blen_cat ds (by omega) hds
    rw [show m + 1 + k = (m + k) + 1 by omega, iterM]
    rcases first_kind q.st (s % 16) (q.stok oq) with ⟨hk, hn⟩ | ⟨hk, l, hn⟩
    · have hq : (q.first (s % 16)).2 = none := by
        cases e : (q.first (s % 16)).2 with
        | none => rfl
        | some x => rw [e, hn] at f2; cases f2
      have tt : mOfT (dTr (dNotN (dSee 6))) [.v p0, .v (.lst (os.map PV.int)), .v (.int s), .v (.int most), .v (.str (cat ds)), .v (.str (q.first (s % 16)).1), .v (optL (q.first (s % 16)).2)] = .ok (false, [.v p0, .v (.lst (os.map PV.int)), .v (.int s), .v (.int most), .v (.str (cat ds)), .v (.str (q.first (s % 16)).1), .v (optL (q.first (s % 16)).2)]) := by
        rw [hq]; rfl
      have ew : wk (ledO os) m q.st s = ([], (q.first (s % 16)).1, s) := by rw [wk_none _ m q.st s hn, f1]
      rw [tt, ew, List.append_nil]
      rfl
    · obtain ⟨l', hq, rfl⟩ : ∃ l', (q.first (s % 16)).2 = some l' ∧ l'.st = l := by
        cases e : (q.first (s % 16)).2 with
        | none => rw [e, hn] at f2; cases f2
        | some x => rw [e, hn] at f2; cases f2; exact ⟨x, rfl, rfl⟩
      rw [f1] at hk
      have tt : mOfT (dTr (dNotN (dSee 6))) [.v p0, .v (.lst (os.map PV.int)), .v (.int s), .v (.int most), .v (.str (cat ds)), .v (.str (q.first (s % 16)).1), .v (optL (q.first (s % 16)).2)] = .ok (true, [.v p0, .v (.lst (os.map PV.int)), .v (.int s), .v (.int most), .v (.str (cat ds)), .v (.str (q.first (s % 16)).1), .v (optL (q.first (s % 16)).2)]) := by
        rw [hq]
        have e : ∀ ps, ps[6]? = some (Sl.v l'.pv) → dNotN (dSee 6) ps = .ok (.bl (!isN l'.pv)) := fun ps h => by
          unfold dNotN dSee
          rw [h]; rfl
        unfold mOfT dTr
        rw [e _ rfl, isN_lp]
        rfl
      rw [tt]
      cases m with
      | zero =>
        have hle : ((ds.length : Int) == (most : Int)) = true := by simp; omega
        have body : b_l_run_1 (gF (n + 1)) [.v p0, .v (.lst (os.map PV.int)), .v (.int s), .v (.int most), .v (.str (cat ds)), .v (.str (q.first (s % 16)).1), .v (optL (q.first (s % 16)).2)] = .ret (.tup [.str (cat ds), .str "more", .int s]) := by
          unfold b_l_run_1
          simp [hb, hle]
        have ew := wk_zero (ledO os) q.st l'.st s hn
        simp only [body, ew, List.append_nil]
        rfl
      | succ m =>
        have hle : ((ds.length : Int) == (most : Int)) = false := by simp; omega
        have ld := lled_ok n os ho (q.first (s % 16)).1 s hk
        have lm := first_ders q.st (s % 16) l'.st hn
        have ol := q.first_ok l' (s % 16) oq hq
        generalize hd' : (q.first (s % 16)).1 = d at hk ld f1
        have hcs : fCatS (.str (cat ds)) (.str d) = .ok (.str (cat (ds ++ [d]))) := by
          rw [cat_snoc]
          show (if _ then _ else _) = _
          rw [if_pos (by rw [cat_len ds hds, deed_len1 hk]; show _ ≤ 16777216; omega)]
        have e2 := lfirst_ok l' (n + 1) (ledO os d s % 16) ol (hders _ lm)
        have body : b_l_run_1 (gF (n + 1)) [.v p0, .v (.lst (os.map PV.int)), .v (.int s), .v (.int most), .v (.str (cat ds)), .v (.str d), .v (optL (q.first (s % 16)).2)] = .nx [.v p0, .v (.lst (os.map PV.int)), .v (.int (ledO os d s)), .v (.int most), .v (.str (cat (ds ++ [d]))), .v (.str (l'.first (ledO os d s % 16)).1), .v (optL (l'.first (ledO os d s % 16)).2)] := by
          rw [hq]
          show b_l_run_1 (gF (n + 1)) [.v p0, .v (.lst (os.map PV.int)), .v (.int s), .v (.int most), .v (.str (cat ds)), .v (.str d), .v l'.pv] = _
          unfold b_l_run_1
          simp [hb, hle, hcs, ld, e2]
        have ih := lrun_loop n os ho p0 most hm m k l' (ledO os d s) (ds ++ [d]) ol (hders _ lm) (fun x hx => hders x (ders_sub q.st l'.st x lm hx)) (fun x hx => by
          rcases List.mem_append.mp hx with z | z
          · exact hds x z
          · rw [List.mem_singleton.mp z]; exact hk) (by rw [List.length_append, List.length_singleton]; omega)
        have ew := wk_some (ledO os) m q.st l'.st s hn
        rw [f1] at ew
        simp only [body]
        rw [show m + 1 + k = m + 1 + k from rfl, ew]
        rw [List.append_assoc] at ih
        exact ih
theorem lrun_ok (n : Nat) (os : List Int) (ho : os.length = 5) (q : Lp) (s : Int) (m : Nat) (hm : m ≤ 1000) (oq : q.ok) (hd : q.st.depth < n) : gF (n + 2) 19 [q.pv, .lst (os.map PV.int), .int s, .int (m : Int)] = .ok (.tup [.str (cat (wk (ledO os) m q.st s).1), .str (wk (ledO os) m q.st s).2.1, .int (wk (ledO os) m q.st s).2.2]) := by
  rw [g_l_run, runD_of rfl]
  show fin (d_l_run (gF (n + 1)) [.v q.pv, .v (.lst (os.map PV.int)), .v (.int s), .v (.int (m : Int)), .no, .no, .no]) = _
  have e1 := lfirst_ok q (n + 1) (s % 16) oq (by omega)
  have ih := lrun_loop n os ho q.pv m hm m (100000 - m - 1) q s [] oq (by omega) (fun l hl => by have := ders_depth q.st l hl; omega) (fun d hd => by cases hd) (by simp)
  rw [show m + 1 + (100000 - m - 1) = 100000 by omega] at ih
  have ih : fin (((iterM (mOfT (dTr (dNotN (dSee 6)))) (b_l_run_1 (gF (n + 1))) 100000 [.v q.pv, .v (.lst (os.map PV.int)), .v (.int s), .v (.int (m : Int)), .v (.str ""), .v (.str (q.first (s % 16)).1), .v (optL (q.first (s % 16)).2)]).getD .bad).next (sRet (dTup (dCons (dVar 4) (dCons (dVar 5) (dCons (dVar 2) dNil)))))) = .ok (.tup [.str (cat (wk (ledO os) m q.st s).1), .str (wk (ledO os) m q.st s).2.1, .int (wk (ledO os) m q.st s).2.2]) := ih
  have eA : sAsg (gTupD 2 (gConsD (gSet 5) (gConsD (gSet 6) gNilD))) (dCall (gF (n + 1) 17) (dCons (dVar 0) (dCons (d2 fMod (dSee 2) (dC (.int 16))) dNil))) [.v q.pv, .v (.lst (os.map PV.int)), .v (.int s), .v (.int (m : Int)), .v (.str ""), .no, .no] = .nx [.v q.pv, .v (.lst (os.map PV.int)), .v (.int s), .v (.int (m : Int)), .v (.str ""), .v (.str (q.first (s % 16)).1), .v (optL (q.first (s % 16)).2)] := by
    simp [e1]
  have e4 : sSet 4 (dC (.str "")) [.v q.pv, .v (.lst (os.map PV.int)), .v (.int s), .v (.int (m : Int)), .no, .no, .no] = .nx [.v q.pv, .v (.lst (os.map PV.int)), .v (.int s), .v (.int (m : Int)), .v (.str ""), .no, .no] := rfl
  unfold d_l_run
  rw [e_seq, e4, next_nx, e_seq, eA, next_nx, e_seq, e_whileM]
  exact ih
/-! ### the law -/
theorem cell_ok (n : Nat) (ns : List Int) (k : Nat) : ∃ z, gF (n + 1) 9 [.lst (ns.map PV.int), .int (k : Int)] = .ok (.int z) := by
  rw [g_l_cell_at, runD_of rfl]
  show ∃ z, fin (d_l_cell_at (gF n) [.v (.lst (ns.map PV.int)), .v (.int (k : Int))]) = .ok (.int z)
  unfold d_l_cell_at
  by_cases h : k < ns.length
  · have hi : atI (ns.map PV.int) (k : Int) = some (PV.int ns[k]) := by
      rw [atI_nat (by rw [List.getElem?_map, List.getElem?_eq_getElem h]; rfl)]
    exact ⟨ns[k], by simp [h, hi]⟩
  · exact ⟨0, by simp [h]⟩
theorem lalike_ok (n : Nat) (x y : Str) (z : Int) : gF (n + 1) 20 [.tup [.str x, .str y, .int z], .tup [.str x, .str y, .int z]] = .ok (.bl true) := by
  rw [g_l_alike, runD_of rfl]
  show fin (d_l_alike (gF n) [.v (.tup [.str x, .str y, .int z]), .v (.tup [.str x, .str y, .int z])]) = _
  have i2 : fIx (.tup [.str x, .str y, .int z]) (.int 2) = .ok (.int z) := rfl
  have s2 : fEq (.tup [.str x, .str y, .int z]) (.tup [.str x, .str y, .int z]) = .ok (.bl true) := fEq_self rfl (by rw [show (PV.tup [PV.str x, PV.str y, PV.int z]).depth = (PV.tup [PV.int 0, PV.int 0, PV.int 0]).depth from rfl]; decide)
  unfold d_l_alike
  simp [i2, -e_ixT, s2]
theorem law_abs (n : Nat) (ns : List Int) (pp tp R : PV) (os : List Int) (z0 z1 z2 M a : Int) (zs : List PV) {ca cb ea eb : Str} {sa sb la lb : Int}
    (ez : cutP (ns.map PV.int) (some 3) (some 10) = zs)
    (c0 : gF n 9 [.lst (ns.map PV.int), .int 0] = .ok (.int z0)) (c1 : gF n 9 [.lst (ns.map PV.int), .int 1] = .ok (.int z1)) (c2 : gF n 9 [.lst (ns.map PV.int), .int 2] = .ok (.int z2))
    (ep : gF n 15 [.int z0, .lst zs] = .ok pp)
    (eo : ∀ s1 s2 s3 s4 s5 s6 s7 s8 s9 s10, dComp ["_law_k"] [("_law_script", 0)] (dRng1 (dCons (dC (.int 5)) dNil)) (gSet 0) dYes (d2 fMod (dCall (gF n 10) (dCons (dCall (gF n 9) (dCons (dVar 1) (dCons (dC (.int 1)) dNil))) (dCons (dVar 0) dNil))) (dC (.int 23))) [.v (.lst (ns.map PV.int)), s1, s2, s3, s4, s5, s6, s7, s8, s9, s10] = .ok (os.map PV.int))
    (eb' : gF n 16 [pp] = .ok tp) (er : gF n 36 [tp] = .ok R)
    (hM : (z1 / 15 % 64 = 1 ∧ ¬ z1 / 15 % 4 = 2 ∧ 900 + z1 / 960 % 2101 = M ∧ 40 < M) ∨ (¬ z1 / 15 % 64 = 1 ∧ z1 / 15 % 4 = 2 ∧ 15 + z1 / 60 % 26 = M ∧ ¬ 40 < M) ∨ (¬ z1 / 15 % 64 = 1 ∧ ¬ z1 / 15 % 4 = 2 ∧ z1 % 15 = M ∧ ¬ 40 < M))
    (e1 : callM q_run (gF n) R [Wo os, .int z2, .int M] = .ok (.tup [.str ca, .str ea, .int sa])) (e2 : callM q_run (gF n) R [Wo os, .int z2, .int a] = .ok (.tup [.str cb, .str eb, .int sb]))
    (e3 : gF n 0 [tp, Wo os, .int z2, .int M] = .ok (.tup [.str ca, .str ea, .int sa])) (e4 : gF n 0 [tp, Wo os, .int z2, .int a] = .ok (.tup [.str cb, .str eb, .int sb]))
    (e5 : ¬ 40 < M → gF n 19 [pp, .lst (os.map PV.int), .int z2, .int M] = .ok (.tup [.str ca, .str ea, .int sa])) (e6 : gF n 20 [.tup [.str ca, .str ea, .int sa], .tup [.str ca, .str ea, .int sa]] = .ok (.bl true))
    (ha : M / 2 = a) (es : fStarts (.str ca) (.str cb) = .ok (.bl true)) (bla : bLen [.str ca] = .ok (.int la)) (blb : bLen [.str cb] = .ok (.int lb)) (hmin : bMin2 [.int a, .int la] = .ok (.int lb)) :
    fin (d_law (gF n) [.v (.lst (ns.map PV.int)), .no, .no, .no, .no, .no, .no, .no, .no, .no, .no]) = .ok (.bl true) := by
  have i0 : ∀ x y z : PV, fIx (.tup [x, y, z]) (.int 0) = .ok x := fun _ _ _ => rfl
  have sf : ∀ x y z, fNe (.tup [.str x, .str y, .int z]) (.tup [.str x, .str y, .int z]) = .ok (.bl false) := fun x y z => fNe_self rfl (by rw [show (PV.tup [PV.str x, PV.str y, PV.int z]).depth = (PV.tup [PV.int 0, PV.int 0, PV.int 0]).depth from rfl]; decide)
  have se : ∀ x y z, fEq (.tup [.str x, .str y, .int z]) (.tup [.str x, .str y, .int z]) = .ok (.bl true) := fun x y z => fEq_self rfl (by rw [show (PV.tup [PV.str x, PV.str y, PV.int z]).depth = (PV.tup [PV.int 0, PV.int 0, PV.int 0]).depth from rfl]; decide)
  have ew : PV.obj 14 [.clo 38 [], .clo 39 [.lst (os.map PV.int)]] = Wo os := rfl
  unfold d_law
  rcases hM with ⟨h1, h2, h3, h4⟩ | ⟨h1, h2, h3, h4⟩ | ⟨h1, h2, h3, h4⟩
  · have h5 : ¬ M ≤ 40 := by omega
    have b1 : (z1 / 15 % 64 == 1) = true := by simpa using h1
    have b2 : (z1 / 15 % 4 == 2) = false := by simpa using h2
    simp [b1, b2, ez, c0, c1, c2, ep, eo, eb', er, h3, h4, h5, e1, e2, e3, e6, ha, es, bla, blb, hmin, i0, -e_ixT, sf, se, ew]
  · have h5 : M ≤ 40 := by omega
    have b1 : (z1 / 15 % 64 == 1) = false := by simpa using h1
    have b2 : (z1 / 15 % 4 == 2) = true := by simpa using h2
    have e5 := e5 h4
    simp [b1, b2, ez, c0, c1, c2, ep, eo, eb', er, h3, h4, h5, e1, e2, e3, e4, e5, e6, ha, es, bla, blb, hmin, i0, -e_ixT, sf, se, ew]
  · have h5 : M ≤ 40 := by omega
    have b1 : (z1 / 15 % 64 == 1) = false := by simpa using h1
    have b2 : (z1 / 15 % 4 == 2) = false := by simpa using h2
    have e5 := e5 h4
    simp [b1, b2, ez, c0, c1, c2, ep, eo, eb', er, h3, h4, h5, e1, e2, e3, e4, e5, e6, ha, es, bla, blb, hmin, i0, -e_ixT, sf, se, ew]
theorem law_ok (n : Nat) (hn : 60 ≤ n) (ns : List Int) (hl : ns.length ≤ 63) : gF (n + 5) 21 [.lst (ns.map PV.int)] = .ok (.bl true) := by
  rw [g_law, runD_of rfl]
  show fin (d_law (gF (n + 4)) [.v (.lst (ns.map PV.int)), .no, .no, .no, .no, .no, .no, .no, .no, .no, .no]) = _
  obtain ⟨zs, ez, hz⟩ := cut_map ns (some 3) (some 10)
  have hz : zs.length ≤ 7 := by
    have a1 : HT.sIx ns.length ns.length (some 10) ≤ 10 := by unfold HT.sIx; simp; try omega
    have a2 : HT.sIx ns.length 0 (some 3) = min 3 ns.length := by unfold HT.sIx; simp; try omega
    rw [hz]; omega
  obtain ⟨z0, c0⟩ := cell_ok (n + 3) ns 0
  obtain ⟨z1, c1⟩ := cell_ok (n + 3) ns 1
  obtain ⟨z2, c2⟩ := cell_ok (n + 3) ns 2
  have c0 : gF (n + 4) 9 [.lst (ns.map PV.int), .int 0] = .ok (.int z0) := c0
  have c1 : gF (n + 4) 9 [.lst (ns.map PV.int), .int 1] = .ok (.int z1) := c1
  have c2 : gF (n + 4) 9 [.lst (ns.map PV.int), .int 2] = .ok (.int z2) := c2
  obtain ⟨q, ep, oq, dq, lq⟩ := lprog_ok (n + 1) z0 zs
  have hos : ∃ os : List Int, os.length = 5 ∧ ∀ ps : PSt, ps[0]? = some (.v (.lst (ns.map PV.int))) → dComp ["_law_k"] [("_law_script", 0)] (dRng1 (dCons (dC (.int 5)) dNil)) (gSet 0) dYes (d2 fMod (dCall (gF (n + 4) 10) (dCons (dCall (gF (n + 4) 9) (dCons (dVar 1) (dCons (dC (.int 1)) dNil))) (dCons (dVar 0) dNil))) (dC (.int 23))) ps = .ok (os.map PV.int) := by
    have hy : ∀ k : Nat, ∃ y, k < 5 → gF (n + 4) 10 [.int z1, .int (k : Int)] = .ok (.int y) := fun k => by
      by_cases hk : k < 5
      · obtain ⟨y, e, _⟩ := draw_ok (n + 3) z1 (k : Int) (by omega) (by omega)
        exact ⟨y, fun _ => e⟩
      · exact ⟨0, fun h => absurd h hk⟩
    refine ⟨(List.range 5).map fun k => (Classical.choose (hy k)) % 23, by simp, fun ps h0 => ?_⟩
    have er : dRng1 (dCons (dC (.int 5)) dNil) ps = .ok ((List.range 5).map fun (i : Nat) => PV.int (0 + (i : Int))) := rfl
    have ec : capP ["_law_k"] [("_law_script", 0)] ps = [.no, .v (.lst (ns.map PV.int))] := by
      show [Sl.no, ((ps[0]?).getD Sl.no).out] = _
      rw [h0]; rfl
    unfold dComp
    rw [er, ok_bind, if_pos (by rw [List.length_map, List.length_range]; decide), ec, List.map_map]
    refine comp_all (ps0 := [.v (.lst (ns.map PV.int))]) (fun (i : Nat) => PV.int (0 + (i : Int))) _ (List.range 5) .no fun i hi => ?_
    have e := Classical.choose_spec (hy i) (List.mem_range.mp hi)
    show _ = Rx.ok (PV.int (Classical.choose (hy i) % 23))
    generalize Classical.choose (hy i) = y at e
    have ez : (0 + (i : Int)) = (i : Int) := Int.zero_add _
    rw [ez]
    simp only [e_2, e_call, e_cons, e_var, List.getElem?_cons_zero, List.getElem?_cons_succ, e_C, e_nil, consR_ok, ok_bind, c1, e, bind2_ok, e_fIc, Int.reduceLT, if_true]
  obtain ⟨os, ho, eo⟩ := hos
  have so := q.stok oq
  have eb' := lbuilt_ok q (n + 4) oq (by omega)
  have er := rooms_ok (n + 3) q.st so (by omega) (by omega)
  have hw : Wld (n + 2) (Wo os) (ledO os) := by
    obtain ⟨k, rfl⟩ : ∃ k, n = k + 1 := ⟨n - 1, by omega⟩
    exact wld_Wo k os ho
  have hm : ∃ m : Nat, m ≤ 3000 ∧ ((z1 / 15 % 64 = 1 ∧ ¬ z1 / 15 % 4 = 2 ∧ 900 + z1 / 960 % 2101 = (m : Int) ∧ 40 < (m : Int)) ∨ (¬ z1 / 15 % 64 = 1 ∧ z1 / 15 % 4 = 2 ∧ 15 + z1 / 60 % 26 = (m : Int) ∧ ¬ 40 < (m : Int)) ∨ (¬ z1 / 15 % 64 = 1 ∧ ¬ z1 / 15 % 4 = 2 ∧ z1 % 15 = (m : Int) ∧ ¬ 40 < (m : Int))) := by
    by_cases h1 : z1 / 15 % 64 = 1
    · exact ⟨(900 + z1 / 960 % 2101).toNat, by omega, .inl ⟨h1, by omega, by omega, by omega⟩⟩
    · by_cases h2 : z1 / 15 % 4 = 2
      · exact ⟨(15 + z1 / 60 % 26).toNat, by omega, .inr (.inl ⟨h1, h2, by omega, by omega⟩)⟩
      · exact ⟨(z1 % 15).toNat, by omega, .inr (.inr ⟨h1, h2, by omega, by omega⟩)⟩
  obtain ⟨m, hm3, hM⟩ := hm
  have hd : ∃ a d : Nat, m = a + d ∧ a ≤ d + 1 ∧ (m : Int) / 2 = (a : Int) := ⟨m / 2, m - m / 2, by omega, by omega, by omega⟩
  obtain ⟨a, d, rfl, had, ha⟩ := hd
  have e1 := rrun_ok (n + 1) (Wo os) (ledO os) hw q.st z2 (a + d) (by omega) so
  have e2 := rrun_ok (n + 1) (Wo os) (ledO os) hw q.st z2 a (by omega) so
  have e3 := run_ok (n + 1) (Wo os) (ledO os) hw q.st z2 (a + d) (by omega) so (by omega)
  have e4 := run_ok (n + 1) (Wo os) (ledO os) hw q.st z2 a (by omega) so (by omega)
  have e5 : ¬ 40 < ((a + d : Nat) : Int) → _ := fun h => lrun_ok (n + 2) os ho q z2 (a + d) (by omega) oq (by omega)
  have hM' := hM
  generalize hL : ledO os = L at e1 e2 e3 e4 e5
  obtain ⟨k1, k2, k3, k4, k5⟩ := wk_cut L d a q.st z2 so
  obtain ⟨la, da⟩ := wk_deeds L a q.st z2 so
  obtain ⟨lb, db⟩ := wk_deeds L (a + d) q.st z2 so
  have bla := blen_cat _ (by omega) db
  have blb := blen_cat _ (by omega) da
  have hpre : ∃ r, (wk L (a + d) q.st z2).1 = (wk L a q.st z2).1 ++ r := by
    rw [k3]; exact ⟨_, rfl⟩
  obtain ⟨r, hr⟩ := hpre
  have es : fStarts (.str (cat (wk L (a + d) q.st z2).1)) (.str (cat (wk L a q.st z2).1)) = .ok (.bl true) := by
    show Rx.ok (PV.bl (decide ((cat (wk L a q.st z2).1).cps.toList = (cat (wk L (a + d) q.st z2).1).cps.toList.take (cat (wk L a q.st z2).1).length))) = _
    rw [hr, cat_app]
    have : ((cat (wk L a q.st z2).1) ++ cat r).cps.toList = (cat (wk L a q.st z2).1).cps.toList ++ (cat r).cps.toList := by
      show ((cat (wk L a q.st z2).1).cps ++ (cat r).cps).toList = _
      simp
    rw [this, List.take_append_of_le_length (by rw [Array.length_toList]; exact Nat.le_refl _), List.take_of_length_le (by rw [Array.length_toList]; exact Nat.le_refl _)]
    simp
  have hmin : bMin2 [.int (a : Int), .int ((wk L (a + d) q.st z2).1.length : Int)] = .ok (.int ((wk L a q.st z2).1.length : Int)) := by
    show Rx.ok (PV.int (if ((wk L (a + d) q.st z2).1.length : Int) < (a : Int) then ((wk L (a + d) q.st z2).1.length : Int) else (a : Int))) = _
    by_cases hmo : (wk L a q.st z2).2.1 = "more"
    · have h1 := k5 hmo
      have h2 : a ≤ (wk L (a + d) q.st z2).1.length := by rw [hr, List.length_append, h1]; omega
      rw [if_neg (by omega), h1]
    · have h1 := k4 hmo
      rw [h1]
      by_cases h2 : ((wk L a q.st z2).1.length : Int) < (a : Int)
      · rw [if_pos h2]
      · rw [if_neg h2]
        have : (wk L a q.st z2).1.length = a := by omega
        rw [this]
  exact law_abs (n + 4) ns q.pv q.st.pv (roomsP q.st) os z0 z1 z2 ((a + d : Nat) : Int) (a : Int) (zs.map PV.int) ez c0 c1 c2 ep (fun _ _ _ _ _ _ _ _ _ _ => eo _ rfl) eb' er hM e1 e2 e3 e4 e5 (lalike_ok (n + 3) _ _ _) ha es bla blb hmin
theorem main (ns : List Int) (h : ns.length ≤ 63) : gF 110 21 [.lst (ns.map PV.int)] = .ok (.bl true) := law_ok 105 (by decide) ns h
end M32
end
section
set_option Elab.async false
set_option linter.all false
set_option maxRecDepth 100000
set_option maxHeartbeats 4000000
namespace M32
open PySem L2 DN
def cOf (C0 : Addr) (C1 : Addr) (C2 : Addr) (C3 : Addr) (C4 : Addr) (C5 : Addr) (C6 : Addr) (C7 : Addr) (C8 : Addr) (C9 : Addr) (C10 : Addr) (C11 : Addr) (C12 : Addr) (C13 : Addr) (C14 : Addr) : Nat → Addr
  | 0 => C0
  | 1 => C1
  | 2 => C2
  | 3 => C3
  | 4 => C4
  | 5 => C5
  | 6 => C6
  | 7 => C7
  | 8 => C8
  | 9 => C9
  | 10 => C10
  | 11 => C11
  | 12 => C12
  | 13 => C13
  | 14 => C14
  | _ => 0
abbrev si_Deed : Stmt := inClass (top 9) 0
abbrev si_Row : Stmt := inClass (top 10) 0
abbrev si_Choice : Stmt := inClass (top 11) 0
abbrev si_Loop : Stmt := inClass (top 12) 0
abbrev si_Named : Stmt := inClass (top 22) 0
abbrev si_Not : Stmt := inClass (top 23) 0
abbrev si_Both : Stmt := inClass (top 24) 0
abbrev si_Either : Stmt := inClass (top 25) 0
abbrev si_World : Stmt := inClass (top 36) 0
theorem all_mk {l : PySem.W.OpenLaw} {w : World} {K : PySem.W.Frag} {mg : Str → Option Value} {fa : Addr} {h : Heap} {ts : List Addr} {C0 : Addr} {C1 : Addr} {C2 : Addr} {C3 : Addr} {C4 : Addr} {C5 : Addr} {C6 : Addr} {C7 : Addr} {C8 : Addr} {C9 : Addr} {C10 : Addr} {C11 : Addr} {C12 : Addr} {C13 : Addr} {C14 : Addr} {i3 : Addr} {i4 : Addr} {i5 : Addr} {i6 : Addr} {i9 : Addr} {i10 : Addr} {i11 : Addr} {i12 : Addr} {i13 : Addr} {i14 : Addr} {d0 : Addr} {d1 : Addr} {d2 : Addr} {d3 : Addr} {d4 : Addr} {d5 : Addr} {d6 : Addr} {d7 : Addr} {d8 : Addr} {d9 : Addr} {d10 : Addr} {d11 : Addr} {d12 : Addr} {d13 : Addr} {d14 : Addr} {d15 : Addr} {d16 : Addr} {d17 : Addr} {d18 : Addr} {d19 : Addr} {d20 : Addr} {d21 : Addr} {d22 : Addr} {d23 : Addr} {d24 : Addr} {d25 : Addr} {d26 : Addr} {d27 : Addr} {d28 : Addr} {d29 : Addr} {d30 : Addr} {d31 : Addr} {d32 : Addr} {d33 : Addr} {d34 : Addr} {d35 : Addr} {kDONE : Tok} {tENDS : Addr} {nENDS : Nat} {slENDS : Array (Option Value)} {kENDS0 : Tok} {kENDS1 : Tok} {kENDS2 : Tok} {kHUNG : Tok} {tLETTERS : Addr} {nLETTERS : Nat} {slLETTERS : Array (Option Value)} {kLETTERS0 : Tok} {kLETTERS1 : Tok} {kLETTERS2 : Tok} {kLETTERS3 : Tok} {kMORE : Tok} {kSETTINGS : Tok} {kSTOPPED : Tok} (X : K.In h) (G : h.Ns mainGlobals mg) (hfa : mg "law" = some (.ref fa))
    (a0 : PySem.W.nsIn K mainGlobals "Step" = some (some (.ref C0)))
    (a1 : PySem.W.nsIn K mainGlobals "Skip" = some (some (.ref C1)))
    (a2 : PySem.W.nsIn K mainGlobals "Stop" = some (some (.ref C2)))
    (a3 : PySem.W.nsIn K mainGlobals "Deed" = some (some (.ref C3)))
    (a4 : PySem.W.nsIn K mainGlobals "Row" = some (some (.ref C4)))
    (a5 : PySem.W.nsIn K mainGlobals "Choice" = some (some (.ref C5)))
    (a6 : PySem.W.nsIn K mainGlobals "Loop" = some (some (.ref C6)))
    (a7 : PySem.W.nsIn K mainGlobals "Test" = some (some (.ref C7)))
    (a8 : PySem.W.nsIn K mainGlobals "Yes" = some (some (.ref C8)))
    (a9 : PySem.W.nsIn K mainGlobals "Named" = some (some (.ref C9)))
    (a10 : PySem.W.nsIn K mainGlobals "Not" = some (some (.ref C10)))
    (a11 : PySem.W.nsIn K mainGlobals "Both" = some (some (.ref C11)))
    (a12 : PySem.W.nsIn K mainGlobals "Either" = some (some (.ref C12)))
    (a13 : PySem.W.nsIn K mainGlobals "Rooms" = some (some (.ref C13)))
    (a14 : PySem.W.nsIn K mainGlobals "World" = some (some (.ref C14)))
    (c0 : ClsF K C0)
    (c1 : ClsF K C1)
    (c2 : ClsF K C2)
    (c3 : ClsF K C3)
    (c4 : ClsF K C4)
    (c5 : ClsF K C5)
    (c6 : ClsF K C6)
    (c7 : ClsF K C7)
    (c8 : ClsF K C8)
    (c9 : ClsF K C9)
    (c10 : ClsF K C10)
    (c11 : ClsF K C11)
    (c12 : ClsF K C12)
    (c13 : ClsF K C13)
    (c14 : ClsF K C14)
    (o1 : PySem.W.findIn K (.ref C1) "__init__" = some (some (.builtin "object.__init__")))
    (o2 : PySem.W.findIn K (.ref C2) "__init__" = some (some (.builtin "object.__init__")))
    (e3 : PySem.W.findIn K (.ref C3) "__init__" = some (some (.ref i3)))
    (f3 : PySem.W.isFn K (.ref i3) = true)
    (I3 : FnF K i3 "__init__" "Deed.__init__" si_Deed)
    (n3_0 : PySem.W.findIn K (.ref C3) "name" = some none)
    (e4 : PySem.W.findIn K (.ref C4) "__init__" = some (some (.ref i4)))
    (f4 : PySem.W.isFn K (.ref i4) = true)
    (I4 : FnF K i4 "__init__" "Row.__init__" si_Row)
    (n4_0 : PySem.W.findIn K (.ref C4) "head" = some none)
    (n4_1 : PySem.W.findIn K (.ref C4) "tail" = some none)
    (e5 : PySem.W.findIn K (.ref C5) "__init__" = some (some (.ref i5)))
    (f5 : PySem.W.isFn K (.ref i5) = true)
    (I5 : FnF K i5 "__init__" "Choice.__init__" si_Choice)
    (n5_0 : PySem.W.findIn K (.ref C5) "test" = some none)
    (n5_1 : PySem.W.findIn K (.ref C5) "yes" = some none)
    (n5_2 : PySem.W.findIn K (.ref C5) "no" = some none)
    (e6 : PySem.W.findIn K (.ref C6) "__init__" = some (some (.ref i6)))
    (f6 : PySem.W.isFn K (.ref i6) = true)
    (I6 : FnF K i6 "__init__" "Loop.__init__" si_Loop)
    (n6_0 : PySem.W.findIn K (.ref C6) "test" = some none)
    (n6_1 : PySem.W.findIn K (.ref C6) "body" = some none)
    (o8 : PySem.W.findIn K (.ref C8) "__init__" = some (some (.builtin "object.__init__")))
    (e9 : PySem.W.findIn K (.ref C9) "__init__" = some (some (.ref i9)))
    (f9 : PySem.W.isFn K (.ref i9) = true)
    (I9 : FnF K i9 "__init__" "Named.__init__" si_Named)
    (n9_0 : PySem.W.findIn K (.ref C9) "name" = some none)
    (e10 : PySem.W.findIn K (.ref C10) "__init__" = some (some (.ref i10)))
    (f10 : PySem.W.isFn K (.ref i10) = true)
    (I10 : FnF K i10 "__init__" "Not.__init__" si_Not)
    (n10_0 : PySem.W.findIn K (.ref C10) "inner" = some none)
    (e11 : PySem.W.findIn K (.ref C11) "__init__" = some (some (.ref i11)))
    (f11 : PySem.W.isFn K (.ref i11) = true)
    (I11 : FnF K i11 "__init__" "Both.__init__" si_Both)
    (n11_0 : PySem.W.findIn K (.ref C11) "left" = some none)
    (n11_1 : PySem.W.findIn K (.ref C11) "right" = some none)
    (e12 : PySem.W.findIn K (.ref C12) "__init__" = some (some (.ref i12)))
    (f12 : PySem.W.isFn K (.ref i12) = true)
    (I12 : FnF K i12 "__init__" "Either.__init__" si_Either)
    (n12_0 : PySem.W.findIn K (.ref C12) "left" = some none)
    (n12_1 : PySem.W.findIn K (.ref C12) "right" = some none)
    (e13 : PySem.W.findIn K (.ref C13) "__init__" = some (some (.ref i13)))
    (f13 : PySem.W.isFn K (.ref i13) = true)
    (I13 : FnF K i13 "__init__" "Rooms.__init__" s_Rooms_init)
    (n13_0 : PySem.W.findIn K (.ref C13) "step" = some none)
    (n13_1 : PySem.W.findIn K (.ref C13) "doors" = some none)
    (e14 : PySem.W.findIn K (.ref C14) "__init__" = some (some (.ref i14)))
    (f14 : PySem.W.isFn K (.ref i14) = true)
    (I14 : FnF K i14 "__init__" "World.__init__" si_World)
    (n14_0 : PySem.W.findIn K (.ref C14) "says" = some none)
    (n14_1 : PySem.W.findIn K (.ref C14) "leads" = some none)
    (b0 : PySem.W.nsIn K mainGlobals "run_from" = some (some (.ref d0)))
    (D0 : FnT K d0 "run_from" "run_from" s_run_from ts)
    (b1 : PySem.W.nsIn K mainGlobals "run_along" = some (some (.ref d1)))
    (D1 : FnF K d1 "run_along" "run_along" s_run_along)
    (b2 : PySem.W.nsIn K mainGlobals "doors_of" = some (some (.ref d2)))
    (D2 : FnF K d2 "doors_of" "doors_of" s_doors_of)
    (b3 : PySem.W.nsIn K mainGlobals "ended" = some (some (.ref d3)))
    (D3 : FnF K d3 "ended" "ended" s_ended)
    (b4 : PySem.W.nsIn K mainGlobals "row_doors" = some (some (.ref d4)))
    (D4 : FnF K d4 "row_doors" "row_doors" s_row_doors)
    (b5 : PySem.W.nsIn K mainGlobals "choice_doors" = some (some (.ref d5)))
    (D5 : FnF K d5 "choice_doors" "choice_doors" s_choice_doors)
    (b6 : PySem.W.nsIn K mainGlobals "loop_doors" = some (some (.ref d6)))
    (D6 : FnF K d6 "loop_doors" "loop_doors" s_loop_doors)
    (b7 : PySem.W.nsIn K mainGlobals "loop_door" = some (some (.ref d7)))
    (D7 : FnF K d7 "loop_door" "loop_door" s_loop_door)
    (b8 : PySem.W.nsIn K mainGlobals "gone_on" = some (some (.ref d8)))
    (D8 : FnF K d8 "gone_on" "gone_on" s_gone_on)
    (b9 : PySem.W.nsIn K mainGlobals "_law_cell_at" = some (some (.ref d9)))
    (D9 : FnF K d9 "_law_cell_at" "_law_cell_at" s_l_cell_at)
    (b10 : PySem.W.nsIn K mainGlobals "_law_draw" = some (some (.ref d10)))
    (D10 : FnF K d10 "_law_draw" "_law_draw" s_l_draw)
    (b11 : PySem.W.nsIn K mainGlobals "_law_sign" = some (some (.ref d11)))
    (D11 : FnF K d11 "_law_sign" "_law_sign" s_l_sign)
    (b12 : PySem.W.nsIn K mainGlobals "_law_holds" = some (some (.ref d12)))
    (D12 : FnF K d12 "_law_holds" "_law_holds" s_l_holds)
    (b13 : PySem.W.nsIn K mainGlobals "_law_test" = some (some (.ref d13)))
    (D13 : FnF K d13 "_law_test" "_law_test" s_l_test)
    (b14 : PySem.W.nsIn K mainGlobals "_law_grown" = some (some (.ref d14)))
    (D14 : FnF K d14 "_law_grown" "_law_grown" s_l_grown)
    (b15 : PySem.W.nsIn K mainGlobals "_law_prog" = some (some (.ref d15)))
    (D15 : FnF K d15 "_law_prog" "_law_prog" s_l_prog)
    (b16 : PySem.W.nsIn K mainGlobals "_law_built" = some (some (.ref d16)))
    (D16 : FnF K d16 "_law_built" "_law_built" s_l_built)
    (b17 : PySem.W.nsIn K mainGlobals "_law_first" = some (some (.ref d17)))
    (D17 : FnF K d17 "_law_first" "_law_first" s_l_first)
    (b18 : PySem.W.nsIn K mainGlobals "_law_led" = some (some (.ref d18)))
    (D18 : FnF K d18 "_law_led" "_law_led" s_l_led)
    (b19 : PySem.W.nsIn K mainGlobals "_law_run" = some (some (.ref d19)))
    (D19 : FnF K d19 "_law_run" "_law_run" s_l_run)
    (b20 : PySem.W.nsIn K mainGlobals "_law_alike" = some (some (.ref d20)))
    (D20 : FnF K d20 "_law_alike" "_law_alike" s_l_alike)
    (b21 : PySem.W.nsIn K mainGlobals "law" = some (some (.ref d21)))
    (D21 : FnT K d21 "law" "law" s_law ts)
    (m22_1 : PySem.W.findIn K (.ref C1) "first" = some (some (.ref d22)))
    (g22 : PySem.W.isFn K (.ref d22) = true)
    (D22 : FnF K d22 "first" "Skip.first" s_Skip_first)
    (m23_2 : PySem.W.findIn K (.ref C2) "first" = some (some (.ref d23)))
    (g23 : PySem.W.isFn K (.ref d23) = true)
    (D23 : FnF K d23 "first" "Stop.first" s_Stop_first)
    (m24_3 : PySem.W.findIn K (.ref C3) "first" = some (some (.ref d24)))
    (g24 : PySem.W.isFn K (.ref d24) = true)
    (D24 : FnF K d24 "first" "Deed.first" s_Deed_first)
    (m25_4 : PySem.W.findIn K (.ref C4) "first" = some (some (.ref d25)))
    (g25 : PySem.W.isFn K (.ref d25) = true)
    (D25 : FnF K d25 "first" "Row.first" s_Row_first)
    (m26_5 : PySem.W.findIn K (.ref C5) "first" = some (some (.ref d26)))
    (g26 : PySem.W.isFn K (.ref d26) = true)
    (D26 : FnF K d26 "first" "Choice.first" s_Choice_first)
    (m27_6 : PySem.W.findIn K (.ref C6) "first" = some (some (.ref d27)))
    (g27 : PySem.W.isFn K (.ref d27) = true)
    (D27 : FnF K d27 "first" "Loop.first" s_Loop_first)
    (m28_8 : PySem.W.findIn K (.ref C8) "holds" = some (some (.ref d28)))
    (g28 : PySem.W.isFn K (.ref d28) = true)
    (D28 : FnF K d28 "holds" "Yes.holds" s_Yes_holds)
    (m29_9 : PySem.W.findIn K (.ref C9) "holds" = some (some (.ref d29)))
    (g29 : PySem.W.isFn K (.ref d29) = true)
    (D29 : FnF K d29 "holds" "Named.holds" s_Named_holds)
    (m30_10 : PySem.W.findIn K (.ref C10) "holds" = some (some (.ref d30)))
    (g30 : PySem.W.isFn K (.ref d30) = true)
    (D30 : FnF K d30 "holds" "Not.holds" s_Not_holds)
    (m31_11 : PySem.W.findIn K (.ref C11) "holds" = some (some (.ref d31)))
    (g31 : PySem.W.isFn K (.ref d31) = true)
    (D31 : FnF K d31 "holds" "Both.holds" s_Both_holds)
    (m32_12 : PySem.W.findIn K (.ref C12) "holds" = some (some (.ref d32)))
    (g32 : PySem.W.isFn K (.ref d32) = true)
    (D32 : FnF K d32 "holds" "Either.holds" s_Either_holds)
    (m33_13 : PySem.W.findIn K (.ref C13) "run" = some (some (.ref d33)))
    (g33 : PySem.W.isFn K (.ref d33) = true)
    (D33 : FnT K d33 "run" "Rooms.run" s_Rooms_run ts)
    (m34_14 : PySem.W.findIn K (.ref C14) "setting" = some (some (.ref d34)))
    (g34 : PySem.W.isFn K (.ref d34) = true)
    (D34 : FnF K d34 "setting" "World.setting" s_World_setting)
    (m35_14 : PySem.W.findIn K (.ref C14) "led" = some (some (.ref d35)))
    (g35 : PySem.W.isFn K (.ref d35) = true)
    (D35 : FnF K d35 "led" "World.led" s_World_led)
    (wChoice_0 : PySem.W.kitOne K (.type "NoneType") (.ref C5) = some false)
    (wChoice_1 : PySem.W.kitOne K (.type "bool") (.ref C5) = some false)
    (wChoice_2 : PySem.W.kitOne K (.type "int") (.ref C5) = some false)
    (wChoice_3 : PySem.W.kitOne K (.type "str") (.ref C5) = some false)
    (wChoice_4 : PySem.W.kitOne K (.type "tuple") (.ref C5) = some false)
    (wChoice_5 : PySem.W.kitOne K (.type "list") (.ref C5) = some false)
    (wChoice_6 : PySem.W.kitOne K (.type "dict") (.ref C5) = some false)
    (wChoice_10 : PySem.W.kitOne K (.ref C0) (.ref C5) = some false)
    (wChoice_11 : PySem.W.kitOne K (.ref C1) (.ref C5) = some false)
    (wChoice_12 : PySem.W.kitOne K (.ref C2) (.ref C5) = some false)
    (wChoice_13 : PySem.W.kitOne K (.ref C3) (.ref C5) = some false)
    (wChoice_14 : PySem.W.kitOne K (.ref C4) (.ref C5) = some false)
    (wChoice_15 : PySem.W.kitOne K (.ref C5) (.ref C5) = some true)
    (wChoice_16 : PySem.W.kitOne K (.ref C6) (.ref C5) = some false)
    (wChoice_17 : PySem.W.kitOne K (.ref C7) (.ref C5) = some false)
    (wChoice_18 : PySem.W.kitOne K (.ref C8) (.ref C5) = some false)
    (wChoice_19 : PySem.W.kitOne K (.ref C9) (.ref C5) = some false)
    (wChoice_20 : PySem.W.kitOne K (.ref C10) (.ref C5) = some false)
    (wChoice_21 : PySem.W.kitOne K (.ref C11) (.ref C5) = some false)
    (wChoice_22 : PySem.W.kitOne K (.ref C12) (.ref C5) = some false)
    (wChoice_23 : PySem.W.kitOne K (.ref C13) (.ref C5) = some false)
    (wChoice_24 : PySem.W.kitOne K (.ref C14) (.ref C5) = some false)
    (wDeed_0 : PySem.W.kitOne K (.type "NoneType") (.ref C3) = some false)
    (wDeed_1 : PySem.W.kitOne K (.type "bool") (.ref C3) = some false)
    (wDeed_2 : PySem.W.kitOne K (.type "int") (.ref C3) = some false)
    (wDeed_3 : PySem.W.kitOne K (.type "str") (.ref C3) = some false)
    (wDeed_4 : PySem.W.kitOne K (.type "tuple") (.ref C3) = some false)
    (wDeed_5 : PySem.W.kitOne K (.type "list") (.ref C3) = some false)
    (wDeed_6 : PySem.W.kitOne K (.type "dict") (.ref C3) = some false)
    (wDeed_10 : PySem.W.kitOne K (.ref C0) (.ref C3) = some false)
    (wDeed_11 : PySem.W.kitOne K (.ref C1) (.ref C3) = some false)
    (wDeed_12 : PySem.W.kitOne K (.ref C2) (.ref C3) = some false)
    (wDeed_13 : PySem.W.kitOne K (.ref C3) (.ref C3) = some true)
    (wDeed_14 : PySem.W.kitOne K (.ref C4) (.ref C3) = some false)
    (wDeed_15 : PySem.W.kitOne K (.ref C5) (.ref C3) = some false)
    (wDeed_16 : PySem.W.kitOne K (.ref C6) (.ref C3) = some false)
    (wDeed_17 : PySem.W.kitOne K (.ref C7) (.ref C3) = some false)
    (wDeed_18 : PySem.W.kitOne K (.ref C8) (.ref C3) = some false)
    (wDeed_19 : PySem.W.kitOne K (.ref C9) (.ref C3) = some false)
    (wDeed_20 : PySem.W.kitOne K (.ref C10) (.ref C3) = some false)
    (wDeed_21 : PySem.W.kitOne K (.ref C11) (.ref C3) = some false)
    (wDeed_22 : PySem.W.kitOne K (.ref C12) (.ref C3) = some false)
    (wDeed_23 : PySem.W.kitOne K (.ref C13) (.ref C3) = some false)
    (wDeed_24 : PySem.W.kitOne K (.ref C14) (.ref C3) = some false)
    (wRow_0 : PySem.W.kitOne K (.type "NoneType") (.ref C4) = some false)
    (wRow_1 : PySem.W.kitOne K (.type "bool") (.ref C4) = some false)
    (wRow_2 : PySem.W.kitOne K (.type "int") (.ref C4) = some false)
    (wRow_3 : PySem.W.kitOne K (.type "str") (.ref C4) = some false)
    (wRow_4 : PySem.W.kitOne K (.type "tuple") (.ref C4) = some false)
    (wRow_5 : PySem.W.kitOne K (.type "list") (.ref C4) = some false)
    (wRow_6 : PySem.W.kitOne K (.type "dict") (.ref C4) = some false)
    (wRow_10 : PySem.W.kitOne K (.ref C0) (.ref C4) = some false)
    (wRow_11 : PySem.W.kitOne K (.ref C1) (.ref C4) = some false)
    (wRow_12 : PySem.W.kitOne K (.ref C2) (.ref C4) = some false)
    (wRow_13 : PySem.W.kitOne K (.ref C3) (.ref C4) = some false)
    (wRow_14 : PySem.W.kitOne K (.ref C4) (.ref C4) = some true)
    (wRow_15 : PySem.W.kitOne K (.ref C5) (.ref C4) = some false)
    (wRow_16 : PySem.W.kitOne K (.ref C6) (.ref C4) = some false)
    (wRow_17 : PySem.W.kitOne K (.ref C7) (.ref C4) = some false)
    (wRow_18 : PySem.W.kitOne K (.ref C8) (.ref C4) = some false)
    (wRow_19 : PySem.W.kitOne K (.ref C9) (.ref C4) = some false)
    (wRow_20 : PySem.W.kitOne K (.ref C10) (.ref C4) = some false)
    (wRow_21 : PySem.W.kitOne K (.ref C11) (.ref C4) = some false)
    (wRow_22 : PySem.W.kitOne K (.ref C12) (.ref C4) = some false)
    (wRow_23 : PySem.W.kitOne K (.ref C13) (.ref C4) = some false)
    (wRow_24 : PySem.W.kitOne K (.ref C14) (.ref C4) = some false)
    (wSkip_0 : PySem.W.kitOne K (.type "NoneType") (.ref C1) = some false)
    (wSkip_1 : PySem.W.kitOne K (.type "bool") (.ref C1) = some false)
    (wSkip_2 : PySem.W.kitOne K (.type "int") (.ref C1) = some false)
    (wSkip_3 : PySem.W.kitOne K (.type "str") (.ref C1) = some false)
    (wSkip_4 : PySem.W.kitOne K (.type "tuple") (.ref C1) = some false)
    (wSkip_5 : PySem.W.kitOne K (.type "list") (.ref C1) = some false)
    (wSkip_6 : PySem.W.kitOne K (.type "dict") (.ref C1) = some false)
    (wSkip_10 : PySem.W.kitOne K (.ref C0) (.ref C1) = some false)
    (wSkip_11 : PySem.W.kitOne K (.ref C1) (.ref C1) = some true)
    (wSkip_12 : PySem.W.kitOne K (.ref C2) (.ref C1) = some false)
    (wSkip_13 : PySem.W.kitOne K (.ref C3) (.ref C1) = some false)
    (wSkip_14 : PySem.W.kitOne K (.ref C4) (.ref C1) = some false)
    (wSkip_15 : PySem.W.kitOne K (.ref C5) (.ref C1) = some false)
    (wSkip_16 : PySem.W.kitOne K (.ref C6) (.ref C1) = some false)
    (wSkip_17 : PySem.W.kitOne K (.ref C7) (.ref C1) = some false)
    (wSkip_18 : PySem.W.kitOne K (.ref C8) (.ref C1) = some false)
    (wSkip_19 : PySem.W.kitOne K (.ref C9) (.ref C1) = some false)
    (wSkip_20 : PySem.W.kitOne K (.ref C10) (.ref C1) = some false)
    (wSkip_21 : PySem.W.kitOne K (.ref C11) (.ref C1) = some false)
    (wSkip_22 : PySem.W.kitOne K (.ref C12) (.ref C1) = some false)
    (wSkip_23 : PySem.W.kitOne K (.ref C13) (.ref C1) = some false)
    (wSkip_24 : PySem.W.kitOne K (.ref C14) (.ref C1) = some false)
    (wStop_0 : PySem.W.kitOne K (.type "NoneType") (.ref C2) = some false)
    (wStop_1 : PySem.W.kitOne K (.type "bool") (.ref C2) = some false)
    (wStop_2 : PySem.W.kitOne K (.type "int") (.ref C2) = some false)
    (wStop_3 : PySem.W.kitOne K (.type "str") (.ref C2) = some false)
    (wStop_4 : PySem.W.kitOne K (.type "tuple") (.ref C2) = some false)
    (wStop_5 : PySem.W.kitOne K (.type "list") (.ref C2) = some false)
    (wStop_6 : PySem.W.kitOne K (.type "dict") (.ref C2) = some false)
    (wStop_10 : PySem.W.kitOne K (.ref C0) (.ref C2) = some false)
    (wStop_11 : PySem.W.kitOne K (.ref C1) (.ref C2) = some false)
    (wStop_12 : PySem.W.kitOne K (.ref C2) (.ref C2) = some true)
    (wStop_13 : PySem.W.kitOne K (.ref C3) (.ref C2) = some false)
    (wStop_14 : PySem.W.kitOne K (.ref C4) (.ref C2) = some false)
    (wStop_15 : PySem.W.kitOne K (.ref C5) (.ref C2) = some false)
    (wStop_16 : PySem.W.kitOne K (.ref C6) (.ref C2) = some false)
    (wStop_17 : PySem.W.kitOne K (.ref C7) (.ref C2) = some false)
    (wStop_18 : PySem.W.kitOne K (.ref C8) (.ref C2) = some false)
    (wStop_19 : PySem.W.kitOne K (.ref C9) (.ref C2) = some false)
    (wStop_20 : PySem.W.kitOne K (.ref C10) (.ref C2) = some false)
    (wStop_21 : PySem.W.kitOne K (.ref C11) (.ref C2) = some false)
    (wStop_22 : PySem.W.kitOne K (.ref C12) (.ref C2) = some false)
    (wStop_23 : PySem.W.kitOne K (.ref C13) (.ref C2) = some false)
    (wStop_24 : PySem.W.kitOne K (.ref C14) (.ref C2) = some false)
    (wbool_0 : PySem.W.kitOne K (.type "NoneType") (.type "bool") = some false)
    (wbool_1 : PySem.W.kitOne K (.type "bool") (.type "bool") = some true)
    (wbool_2 : PySem.W.kitOne K (.type "int") (.type "bool") = some false)
    (wbool_3 : PySem.W.kitOne K (.type "str") (.type "bool") = some false)
    (wbool_4 : PySem.W.kitOne K (.type "tuple") (.type "bool") = some false)
    (wbool_5 : PySem.W.kitOne K (.type "list") (.type "bool") = some false)
    (wbool_6 : PySem.W.kitOne K (.type "dict") (.type "bool") = some false)
    (wbool_10 : PySem.W.kitOne K (.ref C0) (.type "bool") = some false)
    (wbool_11 : PySem.W.kitOne K (.ref C1) (.type "bool") = some false)
    (wbool_12 : PySem.W.kitOne K (.ref C2) (.type "bool") = some false)
    (wbool_13 : PySem.W.kitOne K (.ref C3) (.type "bool") = some false)
    (wbool_14 : PySem.W.kitOne K (.ref C4) (.type "bool") = some false)
    (wbool_15 : PySem.W.kitOne K (.ref C5) (.type "bool") = some false)
    (wbool_16 : PySem.W.kitOne K (.ref C6) (.type "bool") = some false)
    (wbool_17 : PySem.W.kitOne K (.ref C7) (.type "bool") = some false)
    (wbool_18 : PySem.W.kitOne K (.ref C8) (.type "bool") = some false)
    (wbool_19 : PySem.W.kitOne K (.ref C9) (.type "bool") = some false)
    (wbool_20 : PySem.W.kitOne K (.ref C10) (.type "bool") = some false)
    (wbool_21 : PySem.W.kitOne K (.ref C11) (.type "bool") = some false)
    (wbool_22 : PySem.W.kitOne K (.ref C12) (.type "bool") = some false)
    (wbool_23 : PySem.W.kitOne K (.ref C13) (.type "bool") = some false)
    (wbool_24 : PySem.W.kitOne K (.ref C14) (.type "bool") = some false)
    (wtuple_0 : PySem.W.kitOne K (.type "NoneType") (.type "tuple") = some false)
    (wtuple_1 : PySem.W.kitOne K (.type "bool") (.type "tuple") = some false)
    (wtuple_2 : PySem.W.kitOne K (.type "int") (.type "tuple") = some false)
    (wtuple_3 : PySem.W.kitOne K (.type "str") (.type "tuple") = some false)
    (wtuple_4 : PySem.W.kitOne K (.type "tuple") (.type "tuple") = some true)
    (wtuple_5 : PySem.W.kitOne K (.type "list") (.type "tuple") = some false)
    (wtuple_6 : PySem.W.kitOne K (.type "dict") (.type "tuple") = some false)
    (wtuple_10 : PySem.W.kitOne K (.ref C0) (.type "tuple") = some false)
    (wtuple_11 : PySem.W.kitOne K (.ref C1) (.type "tuple") = some false)
    (wtuple_12 : PySem.W.kitOne K (.ref C2) (.type "tuple") = some false)
    (wtuple_13 : PySem.W.kitOne K (.ref C3) (.type "tuple") = some false)
    (wtuple_14 : PySem.W.kitOne K (.ref C4) (.type "tuple") = some false)
    (wtuple_15 : PySem.W.kitOne K (.ref C5) (.type "tuple") = some false)
    (wtuple_16 : PySem.W.kitOne K (.ref C6) (.type "tuple") = some false)
    (wtuple_17 : PySem.W.kitOne K (.ref C7) (.type "tuple") = some false)
    (wtuple_18 : PySem.W.kitOne K (.ref C8) (.type "tuple") = some false)
    (wtuple_19 : PySem.W.kitOne K (.ref C9) (.type "tuple") = some false)
    (wtuple_20 : PySem.W.kitOne K (.ref C10) (.type "tuple") = some false)
    (wtuple_21 : PySem.W.kitOne K (.ref C11) (.type "tuple") = some false)
    (wtuple_22 : PySem.W.kitOne K (.ref C12) (.type "tuple") = some false)
    (wtuple_23 : PySem.W.kitOne K (.ref C13) (.type "tuple") = some false)
    (wtuple_24 : PySem.W.kitOne K (.ref C14) (.type "tuple") = some false)
    (bxDONE : PySem.W.nsIn K mainGlobals "DONE" = some (some (.str "done" kDONE)))
    (bxENDS : PySem.W.nsIn K mainGlobals "ENDS" = some (some (.ref tENDS)))
    (lxENDS : K.lookup tENDS = some ⟨.type "tuple", none, .seq #[.str "done" kENDS0, .str "stopped" kENDS1, .str "hung" kENDS2] nENDS, slENDS⟩)
    (bxHUNG : PySem.W.nsIn K mainGlobals "HUNG" = some (some (.str "hung" kHUNG)))
    (bxLETTERS : PySem.W.nsIn K mainGlobals "LETTERS" = some (some (.ref tLETTERS)))
    (lxLETTERS : K.lookup tLETTERS = some ⟨.type "tuple", none, .seq #[.str "a" kLETTERS0, .str "b" kLETTERS1, .str "c" kLETTERS2, .str "d" kLETTERS3] nLETTERS, slLETTERS⟩)
    (bxMORE : PySem.W.nsIn K mainGlobals "MORE" = some (some (.str "more" kMORE)))
    (bxSETTINGS : PySem.W.nsIn K mainGlobals "SETTINGS" = some (some (.int (16) kSETTINGS)))
    (bxSTOPPED : PySem.W.nsIn K mainGlobals "STOPPED" = some (some (.str "stopped" kSTOPPED)))
    (zbool : PySem.W.nsIn K mainGlobals "bool" = some none)
    (zint : PySem.W.nsIn K mainGlobals "int" = some none)
    (zisinstance : PySem.W.nsIn K mainGlobals "isinstance" = some none)
    (zlen : PySem.W.nsIn K mainGlobals "len" = some none)
    (zmin : PySem.W.nsIn K mainGlobals "min" = some none)
    (zrange : PySem.W.nsIn K mainGlobals "range" = some none)
    (ztuple : PySem.W.nsIn K mainGlobals "tuple" = some none) :
    ∃ (cA : Nat → Addr) (fd : FuncData), (∀ (s : Shared) (v : Value), BindsTo s fd ⟨[v], []⟩ [("_law_script", v)]) ∧ ∀ base : Bs, K.In base → base.Ns mainGlobals mg → base.tabs = ts → FnOk l.prog w K mg base CX0 (220 + 3) fa fd ["_law_script"] (spG K (pg cA) [false] (gF 110 21)) := by
  have e := hfa.symm.trans (PySem.W.mg_of X G b21)
  cases e
  obtain ⟨fD0, cD0, pD0, D0, TD0⟩ := D0
  obtain ⟨fD1, D1⟩ := D1
  obtain ⟨fD2, D2⟩ := D2
  obtain ⟨fD3, D3⟩ := D3
  obtain ⟨fD4, D4⟩ := D4
  obtain ⟨fD5, D5⟩ := D5
  obtain ⟨fD6, D6⟩ := D6
  obtain ⟨fD7, D7⟩ := D7
  obtain ⟨fD8, D8⟩ := D8
  obtain ⟨fD9, D9⟩ := D9
  obtain ⟨fD10, D10⟩ := D10
  obtain ⟨fD11, D11⟩ := D11
  obtain ⟨fD12, D12⟩ := D12
  obtain ⟨fD13, D13⟩ := D13
  obtain ⟨fD14, D14⟩ := D14
  obtain ⟨fD15, D15⟩ := D15
  obtain ⟨fD16, D16⟩ := D16
  obtain ⟨fD17, D17⟩ := D17
  obtain ⟨fD18, D18⟩ := D18
  obtain ⟨fD19, D19⟩ := D19
  obtain ⟨fD20, D20⟩ := D20
  obtain ⟨fD21, cD21, pD21, D21, TD21⟩ := D21
  obtain ⟨fD22, D22⟩ := D22
  obtain ⟨fD23, D23⟩ := D23
  obtain ⟨fD24, D24⟩ := D24
  obtain ⟨fD25, D25⟩ := D25
  obtain ⟨fD26, D26⟩ := D26
  obtain ⟨fD27, D27⟩ := D27
  obtain ⟨fD28, D28⟩ := D28
  obtain ⟨fD29, D29⟩ := D29
  obtain ⟨fD30, D30⟩ := D30
  obtain ⟨fD31, D31⟩ := D31
  obtain ⟨fD32, D32⟩ := D32
  obtain ⟨fD33, cD33, pD33, D33, TD33⟩ := D33
  obtain ⟨fD34, D34⟩ := D34
  obtain ⟨fD35, D35⟩ := D35
  obtain ⟨fI3, I3⟩ := I3
  obtain ⟨fI4, I4⟩ := I4
  obtain ⟨fI5, I5⟩ := I5
  obtain ⟨fI6, I6⟩ := I6
  obtain ⟨fI9, I9⟩ := I9
  obtain ⟨fI10, I10⟩ := I10
  obtain ⟨fI11, I11⟩ := I11
  obtain ⟨fI12, I12⟩ := I12
  obtain ⟨fI13, I13⟩ := I13
  obtain ⟨fI14, I14⟩ := I14
  have F : Fs K mg (cOf C0 C1 C2 C3 C4 C5 C6 C7 C8 C9 C10 C11 C12 C13 C14) ts := {
    F_run_from := ⟨_, fD0, cD0, pD0, ⟨D0, D0.binds fun _ _ _ _ _ _ us hl => match us, hl with | [_, _, _, _], _ => rfl, PySem.W.mg_of X G b0⟩, TD0⟩
    F_run_along := ⟨_, fD1, D1, D1.binds fun _ _ _ _ _ _ us hl => match us, hl with | [_, _, _, _, _], _ => rfl, PySem.W.mg_of X G b1⟩
    F_doors_of := ⟨_, fD2, D2, D2.binds fun _ _ _ _ _ _ us hl => match us, hl with | [_, _], _ => rfl, PySem.W.mg_of X G b2⟩
    F_ended := ⟨_, fD3, D3, D3.binds fun _ _ _ _ _ _ us hl => match us, hl with | [_], _ => rfl, PySem.W.mg_of X G b3⟩
    F_row_doors := ⟨_, fD4, D4, D4.binds fun _ _ _ _ _ _ us hl => match us, hl with | [_, _], _ => rfl, PySem.W.mg_of X G b4⟩
    F_choice_doors := ⟨_, fD5, D5, D5.binds fun _ _ _ _ _ _ us hl => match us, hl with | [_, _], _ => rfl, PySem.W.mg_of X G b5⟩
    F_loop_doors := ⟨_, fD6, D6, D6.binds fun _ _ _ _ _ _ us hl => match us, hl with | [_, _], _ => rfl, PySem.W.mg_of X G b6⟩
    F_loop_door := ⟨_, fD7, D7, D7.binds fun _ _ _ _ _ _ us hl => match us, hl with | [_, _], _ => rfl, PySem.W.mg_of X G b7⟩
    F_gone_on := ⟨_, fD8, D8, D8.binds fun _ _ _ _ _ _ us hl => match us, hl with | [_, _], _ => rfl, PySem.W.mg_of X G b8⟩
    F_l_cell_at := ⟨_, fD9, D9, D9.binds fun _ _ _ _ _ _ us hl => match us, hl with | [_, _], _ => rfl, PySem.W.mg_of X G b9⟩
    F_l_draw := ⟨_, fD10, D10, D10.binds fun _ _ _ _ _ _ us hl => match us, hl with | [_, _], _ => rfl, PySem.W.mg_of X G b10⟩
    F_l_sign := ⟨_, fD11, D11, D11.binds fun _ _ _ _ _ _ us hl => match us, hl with | [_], _ => rfl, PySem.W.mg_of X G b11⟩
    F_l_holds := ⟨_, fD12, D12, D12.binds fun _ _ _ _ _ _ us hl => match us, hl with | [_, _], _ => rfl, PySem.W.mg_of X G b12⟩
    F_l_test := ⟨_, fD13, D13, D13.binds fun _ _ _ _ _ _ us hl => match us, hl with | [_], _ => rfl, PySem.W.mg_of X G b13⟩
    F_l_grown := ⟨_, fD14, D14, D14.binds fun _ _ _ _ _ _ us hl => match us, hl with | [_, _], _ => rfl, PySem.W.mg_of X G b14⟩
    F_l_prog := ⟨_, fD15, D15, D15.binds fun _ _ _ _ _ _ us hl => match us, hl with | [_, _], _ => rfl, PySem.W.mg_of X G b15⟩
    F_l_built := ⟨_, fD16, D16, D16.binds fun _ _ _ _ _ _ us hl => match us, hl with | [_], _ => rfl, PySem.W.mg_of X G b16⟩
    F_l_first := ⟨_, fD17, D17, D17.binds fun _ _ _ _ _ _ us hl => match us, hl with | [_, _], _ => rfl, PySem.W.mg_of X G b17⟩
    F_l_led := ⟨_, fD18, D18, D18.binds fun _ _ _ _ _ _ us hl => match us, hl with | [_, _, _], _ => rfl, PySem.W.mg_of X G b18⟩
    F_l_run := ⟨_, fD19, D19, D19.binds fun _ _ _ _ _ _ us hl => match us, hl with | [_, _, _, _], _ => rfl, PySem.W.mg_of X G b19⟩
    F_l_alike := ⟨_, fD20, D20, D20.binds fun _ _ _ _ _ _ us hl => match us, hl with | [_, _], _ => rfl, PySem.W.mg_of X G b20⟩
    F_law := ⟨_, fD21, cD21, pD21, ⟨D21, D21.binds fun _ _ _ _ _ _ us hl => match us, hl with | [_], _ => rfl, PySem.W.mg_of X G b21⟩, TD21⟩
    F_Skip_first := ⟨_, fD22, D22, D22.binds fun _ _ _ _ _ _ us hl => match us, hl with | [_, _], _ => rfl, ⟨m22_1, g22, D22.kp⟩⟩
    F_Stop_first := ⟨_, fD23, D23, D23.binds fun _ _ _ _ _ _ us hl => match us, hl with | [_, _], _ => rfl, ⟨m23_2, g23, D23.kp⟩⟩
    F_Deed_first := ⟨_, fD24, D24, D24.binds fun _ _ _ _ _ _ us hl => match us, hl with | [_, _], _ => rfl, ⟨m24_3, g24, D24.kp⟩⟩
    F_Row_first := ⟨_, fD25, D25, D25.binds fun _ _ _ _ _ _ us hl => match us, hl with | [_, _], _ => rfl, ⟨m25_4, g25, D25.kp⟩⟩
    F_Choice_first := ⟨_, fD26, D26, D26.binds fun _ _ _ _ _ _ us hl => match us, hl with | [_, _], _ => rfl, ⟨m26_5, g26, D26.kp⟩⟩
    F_Loop_first := ⟨_, fD27, D27, D27.binds fun _ _ _ _ _ _ us hl => match us, hl with | [_, _], _ => rfl, ⟨m27_6, g27, D27.kp⟩⟩
    F_Yes_holds := ⟨_, fD28, D28, D28.binds fun _ _ _ _ _ _ us hl => match us, hl with | [_, _], _ => rfl, ⟨m28_8, g28, D28.kp⟩⟩
    F_Named_holds := ⟨_, fD29, D29, D29.binds fun _ _ _ _ _ _ us hl => match us, hl with | [_, _], _ => rfl, ⟨m29_9, g29, D29.kp⟩⟩
    F_Not_holds := ⟨_, fD30, D30, D30.binds fun _ _ _ _ _ _ us hl => match us, hl with | [_, _], _ => rfl, ⟨m30_10, g30, D30.kp⟩⟩
    F_Both_holds := ⟨_, fD31, D31, D31.binds fun _ _ _ _ _ _ us hl => match us, hl with | [_, _], _ => rfl, ⟨m31_11, g31, D31.kp⟩⟩
    F_Either_holds := ⟨_, fD32, D32, D32.binds fun _ _ _ _ _ _ us hl => match us, hl with | [_, _], _ => rfl, ⟨m32_12, g32, D32.kp⟩⟩
    F_Rooms_run := ⟨_, fD33, cD33, pD33, TD33, D33, D33.binds fun _ _ _ _ _ _ us hl => match us, hl with | [_, _, _, _], _ => rfl, ⟨m33_13, g33, D33.kp⟩⟩
    F_World_setting := ⟨_, fD34, D34, D34.binds fun _ _ _ _ _ _ us hl => match us, hl with | [_, _], _ => rfl, ⟨m34_14, g34, D34.kp⟩⟩
    F_World_led := ⟨_, fD35, D35, D35.binds fun _ _ _ _ _ _ us hl => match us, hl with | [_, _, _], _ => rfl, ⟨m35_14, g35, D35.kp⟩⟩
    F_Rooms_init := ⟨_, fI13, I13, I13.binds fun _ _ _ _ _ _ us hl => match us, hl with | [_, _], _ => rfl, ⟨c13.mks, e13, f13, c13.kp⟩⟩
  }
  obtain ⟨⟨oc, od, kV, dc, pm, an, cd, ct, osl, rfl, ll, cc⟩, kk⟩ := id D21
  refine ⟨(cOf C0 C1 C2 C3 C4 C5 C6 C7 C8 C9 C10 C11 C12 C13 C14), PySem.W.fnOf "law" "law" (defArgs s_law) (defBody s_law) (defScope s_law) .none kV dc pm an cd ct, fun s v => .of_eq rfl, fun base _ _ htb => ?_⟩
  have C : Ct l.prog w K mg base (cOf C0 C1 C2 C3 C4 C5 C6 C7 C8 C9 C10 C11 C12 C13 C14) ts := {
    tb := htb
    c_Step := PySem.W.mg_of X G a0
    l_Step := c0
    c_Skip := PySem.W.mg_of X G a1
    l_Skip := c1
    c_Stop := PySem.W.mg_of X G a2
    l_Stop := c2
    c_Deed := PySem.W.mg_of X G a3
    l_Deed := c3
    c_Row := PySem.W.mg_of X G a4
    l_Row := c4
    c_Choice := PySem.W.mg_of X G a5
    l_Choice := c5
    c_Loop := PySem.W.mg_of X G a6
    l_Loop := c6
    c_Test := PySem.W.mg_of X G a7
    l_Test := c7
    c_Yes := PySem.W.mg_of X G a8
    l_Yes := c8
    c_Named := PySem.W.mg_of X G a9
    l_Named := c9
    c_Not := PySem.W.mg_of X G a10
    l_Not := c10
    c_Both := PySem.W.mg_of X G a11
    l_Both := c11
    c_Either := PySem.W.mg_of X G a12
    l_Either := c12
    c_Rooms := PySem.W.mg_of X G a13
    l_Rooms := c13
    c_World := PySem.W.mg_of X G a14
    l_World := c14
    n_Both := ⟨PySem.W.mg_of X G a11, c11.cls, i11, fI11, _, ⟨c11.mks, e11, f11, c11.kp⟩, init_ok2 I11 rfl ⟨rfl, rfl, rfl, by decide +kernel, rfl, by decide +kernel, by decide +kernel⟩ c11.cls n11_0 n11_1 (by decide) (by decide) (by decide) (by decide) (by decide +kernel), I11.binds fun _ _ _ _ _ _ us hl => match us, hl with | [_, _, _], _ => rfl⟩
    n_Choice := ⟨PySem.W.mg_of X G a5, c5.cls, i5, fI5, _, ⟨c5.mks, e5, f5, c5.kp⟩, init_ok3 I5 rfl ⟨rfl, rfl, rfl, by decide +kernel, rfl, by decide +kernel, by decide +kernel⟩ c5.cls n5_0 n5_1 n5_2 (by decide) (by decide) (by decide) (by decide) (by decide) (by decide) (by decide +kernel) (by decide +kernel) (by decide +kernel), I5.binds fun _ _ _ _ _ _ us hl => match us, hl with | [_, _, _, _], _ => rfl⟩
    n_Deed := ⟨PySem.W.mg_of X G a3, c3.cls, i3, fI3, _, ⟨c3.mks, e3, f3, c3.kp⟩, init_ok1 I3 rfl ⟨rfl, rfl, rfl, by decide +kernel, rfl, by decide +kernel, by decide +kernel⟩ c3.cls n3_0 (by decide) (by decide) , I3.binds fun _ _ _ _ _ _ us hl => match us, hl with | [_, _], _ => rfl⟩
    n_Either := ⟨PySem.W.mg_of X G a12, c12.cls, i12, fI12, _, ⟨c12.mks, e12, f12, c12.kp⟩, init_ok2 I12 rfl ⟨rfl, rfl, rfl, by decide +kernel, rfl, by decide +kernel, by decide +kernel⟩ c12.cls n12_0 n12_1 (by decide) (by decide) (by decide) (by decide) (by decide +kernel), I12.binds fun _ _ _ _ _ _ us hl => match us, hl with | [_, _, _], _ => rfl⟩
    n_Loop := ⟨PySem.W.mg_of X G a6, c6.cls, i6, fI6, _, ⟨c6.mks, e6, f6, c6.kp⟩, init_ok2 I6 rfl ⟨rfl, rfl, rfl, by decide +kernel, rfl, by decide +kernel, by decide +kernel⟩ c6.cls n6_0 n6_1 (by decide) (by decide) (by decide) (by decide) (by decide +kernel), I6.binds fun _ _ _ _ _ _ us hl => match us, hl with | [_, _, _], _ => rfl⟩
    n_Named := ⟨PySem.W.mg_of X G a9, c9.cls, i9, fI9, _, ⟨c9.mks, e9, f9, c9.kp⟩, init_ok1 I9 rfl ⟨rfl, rfl, rfl, by decide +kernel, rfl, by decide +kernel, by decide +kernel⟩ c9.cls n9_0 (by decide) (by decide) , I9.binds fun _ _ _ _ _ _ us hl => match us, hl with | [_, _], _ => rfl⟩
    n_Not := ⟨PySem.W.mg_of X G a10, c10.cls, i10, fI10, _, ⟨c10.mks, e10, f10, c10.kp⟩, init_ok1 I10 rfl ⟨rfl, rfl, rfl, by decide +kernel, rfl, by decide +kernel, by decide +kernel⟩ c10.cls n10_0 (by decide) (by decide) , I10.binds fun _ _ _ _ _ _ us hl => match us, hl with | [_, _], _ => rfl⟩
    n_Row := ⟨PySem.W.mg_of X G a4, c4.cls, i4, fI4, _, ⟨c4.mks, e4, f4, c4.kp⟩, init_ok2 I4 rfl ⟨rfl, rfl, rfl, by decide +kernel, rfl, by decide +kernel, by decide +kernel⟩ c4.cls n4_0 n4_1 (by decide) (by decide) (by decide) (by decide) (by decide +kernel), I4.binds fun _ _ _ _ _ _ us hl => match us, hl with | [_, _, _], _ => rfl⟩
    k_Skip := ⟨c1.mks, o1, c1.kp⟩
    k_Stop := ⟨c2.mks, o2, c2.kp⟩
    n_World := ⟨PySem.W.mg_of X G a14, c14.cls, i14, fI14, _, ⟨c14.mks, e14, f14, c14.kp⟩, init_ok2 I14 rfl ⟨rfl, rfl, rfl, by decide +kernel, rfl, by decide +kernel, by decide +kernel⟩ c14.cls n14_0 n14_1 (by decide) (by decide) (by decide) (by decide) (by decide +kernel), I14.binds fun _ _ _ _ _ _ us hl => match us, hl with | [_, _, _], _ => rfl⟩
    k_Yes := ⟨c8.mks, o8, c8.kp⟩
    x_Rooms_step := n13_0
    x_Rooms_doors := n13_1
    f_body := (fl_cons c6.cls n6_1 (show (fN 6).Nodup by decide +kernel) rfl fl_nil)
    f_doors := (fl_cons c13.cls n13_1 (show (fN 13).Nodup by decide +kernel) rfl fl_nil)
    f_head := (fl_cons c4.cls n4_0 (show (fN 4).Nodup by decide +kernel) rfl fl_nil)
    f_inner := (fl_cons c10.cls n10_0 (show (fN 10).Nodup by decide +kernel) rfl fl_nil)
    f_leads := (fl_cons c14.cls n14_1 (show (fN 14).Nodup by decide +kernel) rfl fl_nil)
    f_left := (fl_cons c11.cls n11_0 (show (fN 11).Nodup by decide +kernel) rfl (fl_cons c12.cls n12_0 (show (fN 12).Nodup by decide +kernel) rfl fl_nil))
    f_name := (fl_cons c3.cls n3_0 (show (fN 3).Nodup by decide +kernel) rfl (fl_cons c9.cls n9_0 (show (fN 9).Nodup by decide +kernel) rfl fl_nil))
    f_no := (fl_cons c5.cls n5_2 (show (fN 5).Nodup by decide +kernel) rfl fl_nil)
    f_right := (fl_cons c11.cls n11_1 (show (fN 11).Nodup by decide +kernel) rfl (fl_cons c12.cls n12_1 (show (fN 12).Nodup by decide +kernel) rfl fl_nil))
    f_says := (fl_cons c14.cls n14_0 (show (fN 14).Nodup by decide +kernel) rfl fl_nil)
    f_tail := (fl_cons c4.cls n4_1 (show (fN 4).Nodup by decide +kernel) rfl fl_nil)
    f_test := (fl_cons c5.cls n5_0 (show (fN 5).Nodup by decide +kernel) rfl (fl_cons c6.cls n6_0 (show (fN 6).Nodup by decide +kernel) rfl fl_nil))
    f_yes := (fl_cons c5.cls n5_1 (show (fN 5).Nodup by decide +kernel) rfl fl_nil)
    i_Choice := (is_cons wChoice_0 (by decide) (is_cons wChoice_1 (by decide) (is_cons wChoice_2 (by decide) (is_cons wChoice_3 (by decide) (is_cons wChoice_4 (by decide) (is_cons wChoice_5 (by decide) (is_cons wChoice_6 (by decide) (is_consC wChoice_10 (clsTy c0) (is_consC wChoice_11 (clsTy c1) (is_consC wChoice_12 (clsTy c2) (is_consC wChoice_13 (clsTy c3) (is_consC wChoice_14 (clsTy c4) (is_consC wChoice_15 (clsTy c5) (is_consC wChoice_16 (clsTy c6) (is_consC wChoice_17 (clsTy c7) (is_consC wChoice_18 (clsTy c8) (is_consC wChoice_19 (clsTy c9) (is_consC wChoice_20 (clsTy c10) (is_consC wChoice_21 (clsTy c11) (is_consC wChoice_22 (clsTy c12) (is_consC wChoice_23 (clsTy c13) (is_consC wChoice_24 (clsTy c14) is_nil))))))))))))))))))))))
    i_Deed := (is_cons wDeed_0 (by decide) (is_cons wDeed_1 (by decide) (is_cons wDeed_2 (by decide) (is_cons wDeed_3 (by decide) (is_cons wDeed_4 (by decide) (is_cons wDeed_5 (by decide) (is_cons wDeed_6 (by decide) (is_consC wDeed_10 (clsTy c0) (is_consC wDeed_11 (clsTy c1) (is_consC wDeed_12 (clsTy c2) (is_consC wDeed_13 (clsTy c3) (is_consC wDeed_14 (clsTy c4) (is_consC wDeed_15 (clsTy c5) (is_consC wDeed_16 (clsTy c6) (is_consC wDeed_17 (clsTy c7) (is_consC wDeed_18 (clsTy c8) (is_consC wDeed_19 (clsTy c9) (is_consC wDeed_20 (clsTy c10) (is_consC wDeed_21 (clsTy c11) (is_consC wDeed_22 (clsTy c12) (is_consC wDeed_23 (clsTy c13) (is_consC wDeed_24 (clsTy c14) is_nil))))))))))))))))))))))
    i_Row := (is_cons wRow_0 (by decide) (is_cons wRow_1 (by decide) (is_cons wRow_2 (by decide) (is_cons wRow_3 (by decide) (is_cons wRow_4 (by decide) (is_cons wRow_5 (by decide) (is_cons wRow_6 (by decide) (is_consC wRow_10 (clsTy c0) (is_consC wRow_11 (clsTy c1) (is_consC wRow_12 (clsTy c2) (is_consC wRow_13 (clsTy c3) (is_consC wRow_14 (clsTy c4) (is_consC wRow_15 (clsTy c5) (is_consC wRow_16 (clsTy c6) (is_consC wRow_17 (clsTy c7) (is_consC wRow_18 (clsTy c8) (is_consC wRow_19 (clsTy c9) (is_consC wRow_20 (clsTy c10) (is_consC wRow_21 (clsTy c11) (is_consC wRow_22 (clsTy c12) (is_consC wRow_23 (clsTy c13) (is_consC wRow_24 (clsTy c14) is_nil))))))))))))))))))))))
    i_Skip := (is_cons wSkip_0 (by decide) (is_cons wSkip_1 (by decide) (is_cons wSkip_2 (by decide) (is_cons wSkip_3 (by decide) (is_cons wSkip_4 (by decide) (is_cons wSkip_5 (by decide) (is_cons wSkip_6 (by decide) (is_consC wSkip_10 (clsTy c0) (is_consC wSkip_11 (clsTy c1) (is_consC wSkip_12 (clsTy c2) (is_consC wSkip_13 (clsTy c3) (is_consC wSkip_14 (clsTy c4) (is_consC wSkip_15 (clsTy c5) (is_consC wSkip_16 (clsTy c6) (is_consC wSkip_17 (clsTy c7) (is_consC wSkip_18 (clsTy c8) (is_consC wSkip_19 (clsTy c9) (is_consC wSkip_20 (clsTy c10) (is_consC wSkip_21 (clsTy c11) (is_consC wSkip_22 (clsTy c12) (is_consC wSkip_23 (clsTy c13) (is_consC wSkip_24 (clsTy c14) is_nil))))))))))))))))))))))
    i_Stop := (is_cons wStop_0 (by decide) (is_cons wStop_1 (by decide) (is_cons wStop_2 (by decide) (is_cons wStop_3 (by decide) (is_cons wStop_4 (by decide) (is_cons wStop_5 (by decide) (is_cons wStop_6 (by decide) (is_consC wStop_10 (clsTy c0) (is_consC wStop_11 (clsTy c1) (is_consC wStop_12 (clsTy c2) (is_consC wStop_13 (clsTy c3) (is_consC wStop_14 (clsTy c4) (is_consC wStop_15 (clsTy c5) (is_consC wStop_16 (clsTy c6) (is_consC wStop_17 (clsTy c7) (is_consC wStop_18 (clsTy c8) (is_consC wStop_19 (clsTy c9) (is_consC wStop_20 (clsTy c10) (is_consC wStop_21 (clsTy c11) (is_consC wStop_22 (clsTy c12) (is_consC wStop_23 (clsTy c13) (is_consC wStop_24 (clsTy c14) is_nil))))))))))))))))))))))
    i_bool := (is_cons wbool_0 (by decide) (is_cons wbool_1 (by decide) (is_cons wbool_2 (by decide) (is_cons wbool_3 (by decide) (is_cons wbool_4 (by decide) (is_cons wbool_5 (by decide) (is_cons wbool_6 (by decide) (is_consC wbool_10 (clsTy c0) (is_consC wbool_11 (clsTy c1) (is_consC wbool_12 (clsTy c2) (is_consC wbool_13 (clsTy c3) (is_consC wbool_14 (clsTy c4) (is_consC wbool_15 (clsTy c5) (is_consC wbool_16 (clsTy c6) (is_consC wbool_17 (clsTy c7) (is_consC wbool_18 (clsTy c8) (is_consC wbool_19 (clsTy c9) (is_consC wbool_20 (clsTy c10) (is_consC wbool_21 (clsTy c11) (is_consC wbool_22 (clsTy c12) (is_consC wbool_23 (clsTy c13) (is_consC wbool_24 (clsTy c14) is_nil))))))))))))))))))))))
    i_tuple := (is_cons wtuple_0 (by decide) (is_cons wtuple_1 (by decide) (is_cons wtuple_2 (by decide) (is_cons wtuple_3 (by decide) (is_cons wtuple_4 (by decide) (is_cons wtuple_5 (by decide) (is_cons wtuple_6 (by decide) (is_consC wtuple_10 (clsTy c0) (is_consC wtuple_11 (clsTy c1) (is_consC wtuple_12 (clsTy c2) (is_consC wtuple_13 (clsTy c3) (is_consC wtuple_14 (clsTy c4) (is_consC wtuple_15 (clsTy c5) (is_consC wtuple_16 (clsTy c6) (is_consC wtuple_17 (clsTy c7) (is_consC wtuple_18 (clsTy c8) (is_consC wtuple_19 (clsTy c9) (is_consC wtuple_20 (clsTy c10) (is_consC wtuple_21 (clsTy c11) (is_consC wtuple_22 (clsTy c12) (is_consC wtuple_23 (clsTy c13) (is_consC wtuple_24 (clsTy c14) is_nil))))))))))))))))))))))
    e_DONE := ⟨kDONE, PySem.W.mg_of X G bxDONE⟩
    e_ENDS := ⟨tENDS, PySem.W.mg_of X G bxENDS, topT_mk lxENDS (by show 3 ≤ sizeLine; decide) (.cons ⟨_, rfl⟩ (.cons ⟨_, rfl⟩ (.cons ⟨_, rfl⟩ (.nil))))⟩
    e_HUNG := ⟨kHUNG, PySem.W.mg_of X G bxHUNG⟩
    e_LETTERS := ⟨tLETTERS, PySem.W.mg_of X G bxLETTERS, topT_mk lxLETTERS (by show 4 ≤ sizeLine; decide) (.cons ⟨_, rfl⟩ (.cons ⟨_, rfl⟩ (.cons ⟨_, rfl⟩ (.cons ⟨_, rfl⟩ (.nil)))))⟩
    e_MORE := ⟨kMORE, PySem.W.mg_of X G bxMORE⟩
    e_SETTINGS := ⟨kSETTINGS, PySem.W.mg_of X G bxSETTINGS⟩
    e_STOPPED := ⟨kSTOPPED, PySem.W.mg_of X G bxSTOPPED⟩
    z_bool := PySem.W.mg_none_of X G zbool
    z_int := PySem.W.mg_none_of X G zint
    z_isinstance := PySem.W.mg_none_of X G zisinstance
    z_len := PySem.W.mg_none_of X G zlen
    z_min := PySem.W.mg_none_of X G zmin
    z_range := PySem.W.mg_none_of X G zrange
    z_tuple := PySem.W.mg_none_of X G ztuple
  }
  obtain ⟨f', fd', ps', e1, e2, e3, e4⟩ := (all_fn C F 110).h_law.ex
  exact fn_okT D21 (by rw [htb]; exact TD21) sc_law rfl fun _ _ _ _ _ hr mk => b_law C (all_fn C F 109) hr mk
end M32
def PySem.W.Fast.tw8683418748134062488 : Nat := 0
def PySem.W.Fast.tw6412486614824543968 : Nat := 0
def PySem.W.Fast.tw16637979477835658281 : Nat := 0
def PySem.W.Fast.tw14689556419526058571 : Nat := 0
def PySem.W.Fast.tw1079976311501428510 : Nat := 0
def PySem.W.Fast.tw9203300592941477506 : Nat := 0
def PySem.W.Fast.tw15299493833494190143 : Nat := 0
def PySem.W.Fast.tw645329123703001831 : Nat := 0
def PySem.W.Fast.tw9581890951579190980 : Nat := 0
def PySem.W.Fast.tw16976456900424831278 : Nat := 0
def PySem.W.Fast.tw2433039567504756381 : Nat := 0
def PySem.W.Fast.tw16763606268702008905 : Nat := 0
def PySem.W.Fast.tw15962673553334044130 : Nat := 0
def PySem.W.Fast.tw11237835174466963092 : Nat := 0
def PySem.W.Fast.tw11749986504936980535 : Nat := 0
def PySem.W.Fast.tw12836340443662814484 : Nat := 0
def PySem.W.Fast.tw3569597846488574233 : Nat := 0
def PySem.W.Fast.tw7667219119436965206 : Nat := 0
def PySem.W.Fast.tw6440251612800472827 : Nat := 0
def PySem.W.Fast.tw15242619144058768155 : Nat := 0
def PySem.W.Fast.tw2863553656883052347 : Nat := 0
open PySem PySem.W PyProof.Rows
set_option maxRecDepth 100000 in
set_option maxHeartbeats 0 in
theorem PySem.Challenge.cw_anymeaning_k32_one_loop_holds : PySem.Challenge.rw_anymeaning_k32_one_loop.Holds := by
  w_on; o_law; k_head; (case hw => w_witness2)
  k_fill
  refine L2.walk_ofK (l := PySem.Challenge.rw_anymeaning_k32_one_loop) (n := 63) (k := 220 + 3) (x := "_law_script") (CX := L2.CX0) (sp := fun K => DN.spL K M32.fN M32.nF (M32.gF 110 21)) rfl (by decide) rfl ⟨rfl, by decide, by decide⟩ (fun w h Y => PySem.W.km_in_of Y) (fun w h Y => DN.km_ok Y (by kernel_rfl)) ?F (fun K H a ns hl hO hS cA => DN.law_sp hO hS (M32.main ns hl)) (fun _ _ _ _ z => z)
  case F =>
    intro w mg fa h KX G hmg
    refine DN.law_of ?_
    refine' M32.all_mk KX G hmg ?kka0 ?kka1 ?kka2 ?kka3 ?kka4 ?kka5 ?kka6 ?kka7 ?kka8 ?kka9 ?kka10 ?kka11 ?kka12 ?kka13 ?kka14 ?kkc0 ?kkc1 ?kkc2 ?kkc3 ?kkc4 ?kkc5 ?kkc6 ?kkc7 ?kkc8 ?kkc9 ?kkc10 ?kkc11 ?kkc12 ?kkc13 ?kkc14 ?kko1 ?kko2 ?kke3 ?kkf3 ?kkI3 ?kkn3_0 ?kke4 ?kkf4 ?kkI4 ?kkn4_0 ?kkn4_1 ?kke5 ?kkf5 ?kkI5 ?kkn5_0 ?kkn5_1 ?kkn5_2 ?kke6 ?kkf6 ?kkI6 ?kkn6_0 ?kkn6_1 ?kko8 ?kke9 ?kkf9 ?kkI9 ?kkn9_0 ?kke10 ?kkf10 ?kkI10 ?kkn10_0 ?kke11 ?kkf11 ?kkI11 ?kkn11_0 ?kkn11_1 ?kke12 ?kkf12 ?kkI12 ?kkn12_0 ?kkn12_1 ?kke13 ?kkf13 ?kkI13 ?kkn13_0 ?kkn13_1 ?kke14 ?kkf14 ?kkI14 ?kkn14_0 ?kkn14_1 ?kkb0 ?kkD0 ?kkb1 ?kkD1 ?kkb2 ?kkD2 ?kkb3 ?kkD3 ?kkb4 ?kkD4 ?kkb5 ?kkD5 ?kkb6 ?kkD6 ?kkb7 ?kkD7 ?kkb8 ?kkD8 ?kkb9 ?kkD9 ?kkb10 ?kkD10 ?kkb11 ?kkD11 ?kkb12 ?kkD12 ?kkb13 ?kkD13 ?kkb14 ?kkD14 ?kkb15 ?kkD15 ?kkb16 ?kkD16 ?kkb17 ?kkD17 ?kkb18 ?kkD18 ?kkb19 ?kkD19 ?kkb20 ?kkD20 ?kkb21 ?kkD21 ?kkm22_1 ?kkg22 ?kkD22 ?kkm23_2 ?kkg23 ?kkD23 ?kkm24_3 ?kkg24 ?kkD24 ?kkm25_4 ?kkg25 ?kkD25 ?kkm26_5 ?kkg26 ?kkD26 ?kkm27_6 ?kkg27 ?kkD27 ?kkm28_8 ?kkg28 ?kkD28 ?kkm29_9 ?kkg29 ?kkD29 ?kkm30_10 ?kkg30 ?kkD30 ?kkm31_11 ?kkg31 ?kkD31 ?kkm32_12 ?kkg32 ?kkD32 ?kkm33_13 ?kkg33 ?kkD33 ?kkm34_14 ?kkg34 ?kkD34 ?kkm35_14 ?kkg35 ?kkD35 ?kkwChoice_0 ?kkwChoice_1 ?kkwChoice_2 ?kkwChoice_3 ?kkwChoice_4 ?kkwChoice_5 ?kkwChoice_6 ?kkwChoice_10 ?kkwChoice_11 ?kkwChoice_12 ?kkwChoice_13 ?kkwChoice_14 ?kkwChoice_15 ?kkwChoice_16 ?kkwChoice_17 ?kkwChoice_18 ?kkwChoice_19 ?kkwChoice_20 ?kkwChoice_21 ?kkwChoice_22 ?kkwChoice_23 ?kkwChoice_24 ?kkwDeed_0 ?kkwDeed_1 ?kkwDeed_2 ?kkwDeed_3 ?kkwDeed_4 ?kkwDeed_5 ?kkwDeed_6 ?kkwDeed_10 ?kkwDeed_11 ?kkwDeed_12 ?kkwDeed_13 ?kkwDeed_14 ?kkwDeed_15 ?kkwDeed_16 ?kkwDeed_17 ?kkwDeed_18 ?kkwDeed_19 ?kkwDeed_20 ?kkwDeed_21 ?kkwDeed_22 ?kkwDeed_23 ?kkwDeed_24 ?kkwRow_0 ?kkwRow_1 ?kkwRow_2 ?kkwRow_3 ?kkwRow_4 ?kkwRow_5 ?kkwRow_6 ?kkwRow_10 ?kkwRow_11 ?kkwRow_12 ?kkwRow_13 ?kkwRow_14 ?kkwRow_15 ?kkwRow_16 ?kkwRow_17 ?kkwRow_18 ?kkwRow_19 ?kkwRow_20 ?kkwRow_21 ?kkwRow_22 ?kkwRow_23 ?kkwRow_24 ?kkwSkip_0 ?kkwSkip_1 ?kkwSkip_2 ?kkwSkip_3 ?kkwSkip_4 ?kkwSkip_5 ?kkwSkip_6 ?kkwSkip_10 ?kkwSkip_11 ?kkwSkip_12 ?kkwSkip_13 ?kkwSkip_14 ?kkwSkip_15 ?kkwSkip_16 ?kkwSkip_17 ?kkwSkip_18 ?kkwSkip_19 ?kkwSkip_20 ?kkwSkip_21 ?kkwSkip_22 ?kkwSkip_23 ?kkwSkip_24 ?kkwStop_0 ?kkwStop_1 ?kkwStop_2 ?kkwStop_3 ?kkwStop_4 ?kkwStop_5 ?kkwStop_6 ?kkwStop_10 ?kkwStop_11 ?kkwStop_12 ?kkwStop_13 ?kkwStop_14 ?kkwStop_15 ?kkwStop_16 ?kkwStop_17 ?kkwStop_18 ?kkwStop_19 ?kkwStop_20 ?kkwStop_21 ?kkwStop_22 ?kkwStop_23 ?kkwStop_24 ?kkwbool_0 ?kkwbool_1 ?kkwbool_2 ?kkwbool_3 ?kkwbool_4 ?kkwbool_5 ?kkwbool_6 ?kkwbool_10 ?kkwbool_11 ?kkwbool_12 ?kkwbool_13 ?kkwbool_14 ?kkwbool_15 ?kkwbool_16 ?kkwbool_17 ?kkwbool_18 ?kkwbool_19 ?kkwbool_20 ?kkwbool_21 ?kkwbool_22 ?kkwbool_23 ?kkwbool_24 ?kkwtuple_0 ?kkwtuple_1 ?kkwtuple_2 ?kkwtuple_3 ?kkwtuple_4 ?kkwtuple_5 ?kkwtuple_6 ?kkwtuple_10 ?kkwtuple_11 ?kkwtuple_12 ?kkwtuple_13 ?kkwtuple_14 ?kkwtuple_15 ?kkwtuple_16 ?kkwtuple_17 ?kkwtuple_18 ?kkwtuple_19 ?kkwtuple_20 ?kkwtuple_21 ?kkwtuple_22 ?kkwtuple_23 ?kkwtuple_24 ?kkbxDONE ?kkbxENDS ?kklxENDS ?kkbxHUNG ?kkbxLETTERS ?kklxLETTERS ?kkbxMORE ?kkbxSETTINGS ?kkbxSTOPPED ?kkzbool ?kkzint ?kkzisinstance ?kkzlen ?kkzmin ?kkzrange ?kkztuple
    (case kka0 => k_is)
    (case kka1 => k_is)
    (case kka2 => k_is)
    (case kka3 => k_is)
    (case kka4 => k_is)
    (case kka5 => k_is)
    (case kka6 => k_is)
    (case kka7 => k_is)
    (case kka8 => k_is)
    (case kka9 => k_is)
    (case kka10 => k_is)
    (case kka11 => k_is)
    (case kka12 => k_is)
    (case kka13 => k_is)
    (case kka14 => k_is)
    (case kkc0 => exact ⟨by k_is, by k_is, by k_is, by k_is, by k_is, by k_is, by k_is, by k_is, by k_is, by k_is⟩)
    (case kkc1 => exact ⟨by k_is, by k_is, by k_is, by k_is, by k_is, by k_is, by k_is, by k_is, by k_is, by k_is⟩)
    (case kkc2 => exact ⟨by k_is, by k_is, by k_is, by k_is, by k_is, by k_is, by k_is, by k_is, by k_is, by k_is⟩)
    (case kkc3 => exact ⟨by k_is, by k_is, by k_is, by k_is, by k_is, by k_is, by k_is, by k_is, by k_is, by k_is⟩)
    (case kkc4 => exact ⟨by k_is, by k_is, by k_is, by k_is, by k_is, by k_is, by k_is, by k_is, by k_is, by k_is⟩)
    (case kkc5 => exact ⟨by k_is, by k_is, by k_is, by k_is, by k_is, by k_is, by k_is, by k_is, by k_is, by k_is⟩)
    (case kkc6 => exact ⟨by k_is, by k_is, by k_is, by k_is, by k_is, by k_is, by k_is, by k_is, by k_is, by k_is⟩)
    (case kkc7 => exact ⟨by k_is, by k_is, by k_is, by k_is, by k_is, by k_is, by k_is, by k_is, by k_is, by k_is⟩)
    (case kkc8 => exact ⟨by k_is, by k_is, by k_is, by k_is, by k_is, by k_is, by k_is, by k_is, by k_is, by k_is⟩)
    (case kkc9 => exact ⟨by k_is, by k_is, by k_is, by k_is, by k_is, by k_is, by k_is, by k_is, by k_is, by k_is⟩)
    (case kkc10 => exact ⟨by k_is, by k_is, by k_is, by k_is, by k_is, by k_is, by k_is, by k_is, by k_is, by k_is⟩)
    (case kkc11 => exact ⟨by k_is, by k_is, by k_is, by k_is, by k_is, by k_is, by k_is, by k_is, by k_is, by k_is⟩)
    (case kkc12 => exact ⟨by k_is, by k_is, by k_is, by k_is, by k_is, by k_is, by k_is, by k_is, by k_is, by k_is⟩)
    (case kkc13 => exact ⟨by k_is, by k_is, by k_is, by k_is, by k_is, by k_is, by k_is, by k_is, by k_is, by k_is⟩)
    (case kkc14 => exact ⟨by k_is, by k_is, by k_is, by k_is, by k_is, by k_is, by k_is, by k_is, by k_is, by k_is⟩)
    (case kko1 => k_is)
    (case kko2 => k_is)
    (case kke3 => k_is)
    (case kkf3 => k_is)
    (case kkI3 => (refine' L2.fnf_mk ?l ?c ?k; (case l => k_is); (case c => k_is); (case k => k_is)))
    (case kkn3_0 => k_is)
    (case kke4 => k_is)
    (case kkf4 => k_is)
    (case kkI4 => (refine' L2.fnf_mk ?l ?c ?k; (case l => k_is); (case c => k_is); (case k => k_is)))
    (case kkn4_0 => k_is)
    (case kkn4_1 => k_is)
    (case kke5 => k_is)
    (case kkf5 => k_is)
    (case kkI5 => (refine' L2.fnf_mk ?l ?c ?k; (case l => k_is); (case c => k_is); (case k => k_is)))
    (case kkn5_0 => k_is)
    (case kkn5_1 => k_is)
    (case kkn5_2 => k_is)
    (case kke6 => k_is)
    (case kkf6 => k_is)
    (case kkI6 => (refine' L2.fnf_mk ?l ?c ?k; (case l => k_is); (case c => k_is); (case k => k_is)))
    (case kkn6_0 => k_is)
    (case kkn6_1 => k_is)
    (case kko8 => k_is)
    (case kke9 => k_is)
    (case kkf9 => k_is)
    (case kkI9 => (refine' L2.fnf_mk ?l ?c ?k; (case l => k_is); (case c => k_is); (case k => k_is)))
    (case kkn9_0 => k_is)
    (case kke10 => k_is)
    (case kkf10 => k_is)
    (case kkI10 => (refine' L2.fnf_mk ?l ?c ?k; (case l => k_is); (case c => k_is); (case k => k_is)))
    (case kkn10_0 => k_is)
    (case kke11 => k_is)
    (case kkf11 => k_is)
    (case kkI11 => (refine' L2.fnf_mk ?l ?c ?k; (case l => k_is); (case c => k_is); (case k => k_is)))
    (case kkn11_0 => k_is)
    (case kkn11_1 => k_is)
    (case kke12 => k_is)
    (case kkf12 => k_is)
    (case kkI12 => (refine' L2.fnf_mk ?l ?c ?k; (case l => k_is); (case c => k_is); (case k => k_is)))
    (case kkn12_0 => k_is)
    (case kkn12_1 => k_is)
    (case kke13 => k_is)
    (case kkf13 => k_is)
    (case kkI13 => (refine' L2.fnf_mk ?l ?c ?k; (case l => k_is); (case c => k_is); (case k => k_is)))
    (case kkn13_0 => k_is)
    (case kkn13_1 => k_is)
    (case kke14 => k_is)
    (case kkf14 => k_is)
    (case kkI14 => (refine' L2.fnf_mk ?l ?c ?k; (case l => k_is); (case c => k_is); (case k => k_is)))
    (case kkn14_0 => k_is)
    (case kkn14_1 => k_is)
    (case kkb0 => k_is)
    (case kkD0 => (refine' DN.fnt_mk ?l ?i ?k ?cl ?cp ?ch ?ct; (case l => k_is); (case i => k_is); (case k => k_is); (case cl => k_is); (case cp => exact rfl); (case ch => kernel_rfl); (case ct => decide)))
    (case kkb1 => k_is)
    (case kkD1 => (refine' L2.fnf_mk ?l ?c ?k; (case l => k_is); (case c => k_is); (case k => k_is)))
    (case kkb2 => k_is)
    (case kkD2 => (refine' L2.fnf_mk ?l ?c ?k; (case l => k_is); (case c => k_is); (case k => k_is)))
    (case kkb3 => k_is)
    (case kkD3 => (refine' L2.fnf_mk ?l ?c ?k; (case l => k_is); (case c => k_is); (case k => k_is)))
    (case kkb4 => k_is)
    (case kkD4 => (refine' L2.fnf_mk ?l ?c ?k; (case l => k_is); (case c => k_is); (case k => k_is)))
    (case kkb5 => k_is)
    (case kkD5 => (refine' L2.fnf_mk ?l ?c ?k; (case l => k_is); (case c => k_is); (case k => k_is)))
    (case kkb6 => k_is)
    (case kkD6 => (refine' L2.fnf_mk ?l ?c ?k; (case l => k_is); (case c => k_is); (case k => k_is)))
    (case kkb7 => k_is)
    (case kkD7 => (refine' L2.fnf_mk ?l ?c ?k; (case l => k_is); (case c => k_is); (case k => k_is)))
    (case kkb8 => k_is)
    (case kkD8 => (refine' L2.fnf_mk ?l ?c ?k; (case l => k_is); (case c => k_is); (case k => k_is)))
    (case kkb9 => k_is)
    (case kkD9 => (refine' L2.fnf_mk ?l ?c ?k; (case l => k_is); (case c => k_is); (case k => k_is)))
    (case kkb10 => k_is)
    (case kkD10 => (refine' L2.fnf_mk ?l ?c ?k; (case l => k_is); (case c => k_is); (case k => k_is)))
    (case kkb11 => k_is)
    (case kkD11 => (refine' L2.fnf_mk ?l ?c ?k; (case l => k_is); (case c => k_is); (case k => k_is)))
    (case kkb12 => k_is)
    (case kkD12 => (refine' L2.fnf_mk ?l ?c ?k; (case l => k_is); (case c => k_is); (case k => k_is)))
    (case kkb13 => k_is)
    (case kkD13 => (refine' L2.fnf_mk ?l ?c ?k; (case l => k_is); (case c => k_is); (case k => k_is)))
    (case kkb14 => k_is)
    (case kkD14 => (refine' L2.fnf_mk ?l ?c ?k; (case l => k_is); (case c => k_is); (case k => k_is)))
    (case kkb15 => k_is)
    (case kkD15 => (refine' L2.fnf_mk ?l ?c ?k; (case l => k_is); (case c => k_is); (case k => k_is)))
    (case kkb16 => k_is)
    (case kkD16 => (refine' L2.fnf_mk ?l ?c ?k; (case l => k_is); (case c => k_is); (case k => k_is)))
    (case kkb17 => k_is)
    (case kkD17 => (refine' L2.fnf_mk ?l ?c ?k; (case l => k_is); (case c => k_is); (case k => k_is)))
    (case kkb18 => k_is)
    (case kkD18 => (refine' L2.fnf_mk ?l ?c ?k; (case l => k_is); (case c => k_is); (case k => k_is)))
    (case kkb19 => k_is)
    (case kkD19 => (refine' L2.fnf_mk ?l ?c ?k; (case l => k_is); (case c => k_is); (case k => k_is)))
    (case kkb20 => k_is)
    (case kkD20 => (refine' L2.fnf_mk ?l ?c ?k; (case l => k_is); (case c => k_is); (case k => k_is)))
    (case kkb21 => k_is)
    (case kkD21 => (refine' DN.fnt_mk ?l ?i ?k ?cl ?cp ?ch ?ct; (case l => k_is); (case i => k_is); (case k => k_is); (case cl => k_is); (case cp => exact rfl); (case ch => kernel_rfl); (case ct => decide)))
    (case kkm22_1 => k_is)
    (case kkg22 => k_is)
    (case kkD22 => (refine' L2.fnf_mk ?l ?c ?k; (case l => k_is); (case c => k_is); (case k => k_is)))
    (case kkm23_2 => k_is)
    (case kkg23 => k_is)
    (case kkD23 => (refine' L2.fnf_mk ?l ?c ?k; (case l => k_is); (case c => k_is); (case k => k_is)))
    (case kkm24_3 => k_is)
    (case kkg24 => k_is)
    (case kkD24 => (refine' L2.fnf_mk ?l ?c ?k; (case l => k_is); (case c => k_is); (case k => k_is)))
    (case kkm25_4 => k_is)
    (case kkg25 => k_is)
    (case kkD25 => (refine' L2.fnf_mk ?l ?c ?k; (case l => k_is); (case c => k_is); (case k => k_is)))
    (case kkm26_5 => k_is)
    (case kkg26 => k_is)
    (case kkD26 => (refine' L2.fnf_mk ?l ?c ?k; (case l => k_is); (case c => k_is); (case k => k_is)))
    (case kkm27_6 => k_is)
    (case kkg27 => k_is)
    (case kkD27 => (refine' L2.fnf_mk ?l ?c ?k; (case l => k_is); (case c => k_is); (case k => k_is)))
    (case kkm28_8 => k_is)
    (case kkg28 => k_is)
    (case kkD28 => (refine' L2.fnf_mk ?l ?c ?k; (case l => k_is); (case c => k_is); (case k => k_is)))
    (case kkm29_9 => k_is)
    (case kkg29 => k_is)
    (case kkD29 => (refine' L2.fnf_mk ?l ?c ?k; (case l => k_is); (case c => k_is); (case k => k_is)))
    (case kkm30_10 => k_is)
    (case kkg30 => k_is)
    (case kkD30 => (refine' L2.fnf_mk ?l ?c ?k; (case l => k_is); (case c => k_is); (case k => k_is)))
    (case kkm31_11 => k_is)
    (case kkg31 => k_is)
    (case kkD31 => (refine' L2.fnf_mk ?l ?c ?k; (case l => k_is); (case c => k_is); (case k => k_is)))
    (case kkm32_12 => k_is)
    (case kkg32 => k_is)
    (case kkD32 => (refine' L2.fnf_mk ?l ?c ?k; (case l => k_is); (case c => k_is); (case k => k_is)))
    (case kkm33_13 => k_is)
    (case kkg33 => k_is)
    (case kkD33 => (refine' DN.fnt_mk ?l ?i ?k ?cl ?cp ?ch ?ct; (case l => k_is); (case i => k_is); (case k => k_is); (case cl => k_is); (case cp => exact rfl); (case ch => kernel_rfl); (case ct => decide)))
    (case kkm34_14 => k_is)
    (case kkg34 => k_is)
    (case kkD34 => (refine' L2.fnf_mk ?l ?c ?k; (case l => k_is); (case c => k_is); (case k => k_is)))
    (case kkm35_14 => k_is)
    (case kkg35 => k_is)
    (case kkD35 => (refine' L2.fnf_mk ?l ?c ?k; (case l => k_is); (case c => k_is); (case k => k_is)))
    (case kkwChoice_0 => kit_is)
    (case kkwChoice_1 => kit_is)
    (case kkwChoice_2 => kit_is)
    (case kkwChoice_3 => kit_is)
    (case kkwChoice_4 => kit_is)
    (case kkwChoice_5 => kit_is)
    (case kkwChoice_6 => kit_is)
    (case kkwChoice_10 => kit_is)
    (case kkwChoice_11 => kit_is)
    (case kkwChoice_12 => kit_is)
    (case kkwChoice_13 => kit_is)
    (case kkwChoice_14 => kit_is)
    (case kkwChoice_15 => kit_is)
    (case kkwChoice_16 => kit_is)
    (case kkwChoice_17 => kit_is)
    (case kkwChoice_18 => kit_is)
    (case kkwChoice_19 => kit_is)
    (case kkwChoice_20 => kit_is)
    (case kkwChoice_21 => kit_is)
    (case kkwChoice_22 => kit_is)
    (case kkwChoice_23 => kit_is)
    (case kkwChoice_24 => kit_is)
    (case kkwDeed_0 => kit_is)
    (case kkwDeed_1 => kit_is)
    (case kkwDeed_2 => kit_is)
    (case kkwDeed_3 => kit_is)
    (case kkwDeed_4 => kit_is)
    (case kkwDeed_5 => kit_is)
    (case kkwDeed_6 => kit_is)
    (case kkwDeed_10 => kit_is)
    (case kkwDeed_11 => kit_is)
    (case kkwDeed_12 => kit_is)
    (case kkwDeed_13 => kit_is)
    (case kkwDeed_14 => kit_is)
    (case kkwDeed_15 => kit_is)
    (case kkwDeed_16 => kit_is)
    (case kkwDeed_17 => kit_is)
    (case kkwDeed_18 => kit_is)
    (case kkwDeed_19 => kit_is)
    (case kkwDeed_20 => kit_is)
    (case kkwDeed_21 => kit_is)
    (case kkwDeed_22 => kit_is)
    (case kkwDeed_23 => kit_is)
    (case kkwDeed_24 => kit_is)
    (case kkwRow_0 => kit_is)
    (case kkwRow_1 => kit_is)
    (case kkwRow_2 => kit_is)
    (case kkwRow_3 => kit_is)
    (case kkwRow_4 => kit_is)
    (case kkwRow_5 => kit_is)
    (case kkwRow_6 => kit_is)
    (case kkwRow_10 => kit_is)
    (case kkwRow_11 => kit_is)
    (case kkwRow_12 => kit_is)
    (case kkwRow_13 => kit_is)
    (case kkwRow_14 => kit_is)
    (case kkwRow_15 => kit_is)
    (case kkwRow_16 => kit_is)
    (case kkwRow_17 => kit_is)
    (case kkwRow_18 => kit_is)
    (case kkwRow_19 => kit_is)
    (case kkwRow_20 => kit_is)
    (case kkwRow_21 => kit_is)
    (case kkwRow_22 => kit_is)
    (case kkwRow_23 => kit_is)
    (case kkwRow_24 => kit_is)
    (case kkwSkip_0 => kit_is)
    (case kkwSkip_1 => kit_is)
    (case kkwSkip_2 => kit_is)
    (case kkwSkip_3 => kit_is)
    (case kkwSkip_4 => kit_is)
    (case kkwSkip_5 => kit_is)
    (case kkwSkip_6 => kit_is)
    (case kkwSkip_10 => kit_is)
    (case kkwSkip_11 => kit_is)
    (case kkwSkip_12 => kit_is)
    (case kkwSkip_13 => kit_is)
    (case kkwSkip_14 => kit_is)
    (case kkwSkip_15 => kit_is)
    (case kkwSkip_16 => kit_is)
    (case kkwSkip_17 => kit_is)
    (case kkwSkip_18 => kit_is)
    (case kkwSkip_19 => kit_is)
    (case kkwSkip_20 => kit_is)
    (case kkwSkip_21 => kit_is)
    (case kkwSkip_22 => kit_is)
    (case kkwSkip_23 => kit_is)
    (case kkwSkip_24 => kit_is)
    (case kkwStop_0 => kit_is)
    (case kkwStop_1 => kit_is)
    (case kkwStop_2 => kit_is)
    (case kkwStop_3 => kit_is)
    (case kkwStop_4 => kit_is)
    (case kkwStop_5 => kit_is)
    (case kkwStop_6 => kit_is)
    (case kkwStop_10 => kit_is)
    (case kkwStop_11 => kit_is)
    (case kkwStop_12 => kit_is)
    (case kkwStop_13 => kit_is)
    (case kkwStop_14 => kit_is)
    (case kkwStop_15 => kit_is)
    (case kkwStop_16 => kit_is)
    (case kkwStop_17 => kit_is)
    (case kkwStop_18 => kit_is)
    (case kkwStop_19 => kit_is)
    (case kkwStop_20 => kit_is)
    (case kkwStop_21 => kit_is)
    (case kkwStop_22 => kit_is)
    (case kkwStop_23 => kit_is)
    (case kkwStop_24 => kit_is)
    (case kkwbool_0 => kit_is)
    (case kkwbool_1 => kit_is)
    (case kkwbool_2 => kit_is)
    (case kkwbool_3 => kit_is)
    (case kkwbool_4 => kit_is)
    (case kkwbool_5 => kit_is)
    (case kkwbool_6 => kit_is)
    (case kkwbool_10 => kit_is)
    (case kkwbool_11 => kit_is)
    (case kkwbool_12 => kit_is)
    (case kkwbool_13 => kit_is)
    (case kkwbool_14 => kit_is)
    (case kkwbool_15 => kit_is)
    (case kkwbool_16 => kit_is)
    (case kkwbool_17 => kit_is)
    (case kkwbool_18 => kit_is)
    (case kkwbool_19 => kit_is)
    (case kkwbool_20 => kit_is)
    (case kkwbool_21 => kit_is)
    (case kkwbool_22 => kit_is)
    (case kkwbool_23 => kit_is)
    (case kkwbool_24 => kit_is)
    (case kkwtuple_0 => kit_is)
    (case kkwtuple_1 => kit_is)
    (case kkwtuple_2 => kit_is)
    (case kkwtuple_3 => kit_is)
    (case kkwtuple_4 => kit_is)
    (case kkwtuple_5 => kit_is)
    (case kkwtuple_6 => kit_is)
    (case kkwtuple_10 => kit_is)
    (case kkwtuple_11 => kit_is)
    (case kkwtuple_12 => kit_is)
    (case kkwtuple_13 => kit_is)
    (case kkwtuple_14 => kit_is)
    (case kkwtuple_15 => kit_is)
    (case kkwtuple_16 => kit_is)
    (case kkwtuple_17 => kit_is)
    (case kkwtuple_18 => kit_is)
    (case kkwtuple_19 => kit_is)
    (case kkwtuple_20 => kit_is)
    (case kkwtuple_21 => kit_is)
    (case kkwtuple_22 => kit_is)
    (case kkwtuple_23 => kit_is)
    (case kkwtuple_24 => kit_is)
    (case kkbxDONE => k_is)
    (case kkbxENDS => k_is)
    (case kklxENDS => k_is)
    (case kkbxHUNG => k_is)
    (case kkbxLETTERS => k_is)
    (case kklxLETTERS => k_is)
    (case kkbxMORE => k_is)
    (case kkbxSETTINGS => k_is)
    (case kkbxSTOPPED => k_is)
    (case kkzbool => k_is)
    (case kkzint => k_is)
    (case kkzisinstance => k_is)
    (case kkzlen => k_is)
    (case kkzmin => k_is)
    (case kkzrange => k_is)
    (case kkztuple => k_is)
#print axioms PySem.Challenge.cw_anymeaning_k32_one_loop_holds
end
